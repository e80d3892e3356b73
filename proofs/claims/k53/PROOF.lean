import PyProof.Rows.All
import Wide.All
import OpenK.AllK
import Wide.FinOn
import Lean
import PyProof.EqAt
import PyProof.EqKinds
import PyProof.TupleCall
import PyProof.AttrMissHeap
import KE.KSortTup
import KE.KDictList
import PySem.Challenge.RW_groupcall_k53_whole_row_walked
set_option Elab.async false
set_option linter.all false
set_option maxRecDepth 100000
set_option maxHeartbeats 16000000
namespace L2
open PySem PySem.Spec PyProof.Rows
abbrev Key:=Sum Int Str
def zx:Key->Value->Bool
 | .inl k,v=>Value.isInt k v
 | .inr x,v=>Value.isStrOf x v
def Yu (w:World):Key->Int
 | .inl k=>hashInt k
 | .inr x=>hashStr w x
theorem cM:∀ {k:Key} {v:Value},zx k v=true->(∃ i t,k=Sum.inl i/\v=Value.int i t)∨(∃ x t,k=Sum.inr x/\v=Value.str x t)
 | .inl i,v,h=>by
  obtain ⟨t,e⟩:=Value.isInt_shape (k:=i) (v:=v) h
  exact .inl ⟨i,t,rfl,e⟩
 | .inr x,v,h=>by
  obtain ⟨t,e⟩:=Value.isStrOf_shape (x:=x) (v:=v) h
  exact .inr ⟨x,t,rfl,e⟩
theorem Lz (i:Int) (t:Tok):zx (.inl i) (.int i t)=true:=by simp [zx,Value.isInt]
theorem LK (x:Str) (t:Tok):zx (.inr x) (.str x t)=true:=by simp [zx,Value.isStrOf]
theorem UV (a b:Int):decide ((Sum.inl a:Key)=Sum.inl b)=(a == b):=by
 by_cases e:a=b
 ·subst e; simp
 ·have h:¬ (Sum.inl a:Key)=Sum.inl b:=fun q=>e (Sum.inl.inj q)
  rw [decide_eq_false h]
  exact (beq_eq_false_iff_ne.mpr e).symm
theorem VD (a b:Str):decide ((Sum.inr a:Key)=Sum.inr b)=decide (a=b):=by
 by_cases e:a=b
 ·subst e; simp
 ·have h:¬ (Sum.inr a:Key)=Sum.inr b:=fun q=>e (Sum.inr.inj q)
  rw [decide_eq_false h,decide_eq_false e]
theorem V5 (a:Int) (b:Str):decide ((Sum.inl a:Key)=Sum.inr b)=false:=decide_eq_false (fun q=>nomatch q)
theorem U5 (a:Str) (b:Int):decide ((Sum.inr a:Key)=Sum.inl b)=false:=decide_eq_false (fun q=>nomatch q)
def bI (prog:Program) (w:World):PySem.KeyKind prog w Key where
 is:=zx
 hash:=Yu w
 inj:=fun v a b ha hb=>by
  rcases cM ha with ⟨i,t,rfl,rfl⟩ | ⟨x,t,rfl,rfl⟩
  ·rcases cM hb with ⟨j,u,rfl,e⟩ | ⟨y,u,rfl,e⟩
   ·injection e with e1 _; rw [e1]
   ·exact nomatch e
  ·rcases cM hb with ⟨j,u,rfl,e⟩ | ⟨y,u,rfl,e⟩
   ·exact nomatch e
   ·injection e with e1 _; rw [e1]
 byValue:=fun k v h=>by
  rcases cM h with ⟨i,t,rfl,rfl⟩ | ⟨x,t,rfl,rfl⟩ <;> rfl
 pyHash:=fun hv h=>by
  rcases cM hv with ⟨i,t,rfl,rfl⟩ | ⟨x,t,rfl,rfl⟩
  ·exact wpAny_pyHash_int h
  ·exact wpAny_pyHash_str h
 eqBool:=fun hu hv h=>by
  rcases cM hu with ⟨i,t,rfl,rfl⟩ | ⟨x,t,rfl,rfl⟩
  ·rcases cM hv with ⟨j,u,rfl,rfl⟩ | ⟨y,u,rfl,rfl⟩
   ·rw [UV] at h; exact wpAny_eqBool_int h
   ·rw [V5] at h; exact SeqAt.EqAt.int_str i t y u _ _ _ _ h
  ·rcases cM hv with ⟨j,u,rfl,rfl⟩ | ⟨y,u,rfl,rfl⟩
   ·rw [U5] at h; exact SeqAt.EqAt.str_int x t j u _ _ _ _ h
   ·rw [VD] at h; exact wpAny_eqBool_str h
 «strs»:=fun k x t v h=>by
  rcases cM h with ⟨i,u,rfl,e⟩ | ⟨y,u,rfl,e⟩
  ·exact nomatch e
  ·injection e with e1 _
   subst e1
   cases v <;> rfl
theorem qp (prog:Program) (w:World) (i:Int) (t:Tok):(bI prog w).is (.inl i) (.int i t)=true:=Lz i t
theorem DN (prog:Program) (w:World) (x:Str) (t:Tok):(bI prog w).is (.inr x) (.str x t)=true:=LK x t
end L2
namespace L2
open PySem PySem.Spec PyProof.Rows
inductive V where
 | non | bl (b:Bool) | int (i:Int) | str (x:Str) | byt (b:Array UInt8) | flt (b:UInt64) | ref (a:Addr) | ty (n:String)
 deriving DecidableEq
def RelV:V->Value->Prop
 | .non,u=>u=Value.none
 | .bl b,u=>u=Value.bool b
 | .int i,u=>∃ t,u=Value.int i t
 | .str x,u=>∃ t,u=Value.str x t
 | .byt b,u=>∃ t,u=Value.bytes b t
 | .flt b,u=>∃ t,u=Value.float b t
 | .ref a,u=>u=Value.ref a
 | .ty n,u=>u=Value.type n
abbrev Vals:List V->List Value->Prop:=Paired RelV
theorem Vals.length {xs:List V} {us:List Value} (r:Vals xs us):xs.length=us.length:=Paired.length r
theorem Vals.get:∀ {xs:List V} {us:List Value} {i:Nat} {x:V},Vals xs us->xs[i]?=some x->∃ u,us[i]?=some u/\RelV x u
 | _,_,_,_,.nil,e=>by simp at e
 | _,_,0,_,.cons r _,e=>by simp at e; subst e; exact ⟨_,rfl,r⟩
 | _,_,i + 1,x,.cons _ t,e=>by
  obtain ⟨u,h1,h2⟩:=Vals.get (i:=i) (x:=x) t (by simpa using e)
  exact ⟨u,by simpa using h1,h2⟩
theorem Vals.append:∀ {xs ys:List V} {us ws:List Value},Vals xs us->Vals ys ws->Vals (xs ++ ys) (us ++ ws)
 | _,_,_,_,.nil,s=>s
 | _,_,_,_,.cons r t,s=>.cons r (Vals.append t s)
theorem Vals.take:∀ {xs:List V} {us:List Value} (n:Nat),Vals xs us->Vals (xs.take n) (us.take n)
 | _,_,0,_=>.nil
 | _,_,_ + 1,.nil=>.nil
 | _,_,n + 1,.cons r t=>.cons r (Vals.take n t)
theorem Vals.drop:∀ {xs:List V} {us:List Value} (n:Nat),Vals xs us->Vals (xs.drop n) (us.drop n)
 | _,_,0,r=>r
 | _,_,_ + 1,.nil=>.nil
 | _,_,n + 1,.cons _ t=>Vals.drop n t
def RelO:Option V->Option Value->Prop
 | some v,some u=>RelV v u
 | none,none=>True
 | _,_=>False
def KV {κ:Type}:List (κ×V)->List (κ×Value)->Prop:=Paired fun (p:κ×V) (q:κ×Value)=>p.1=q.1/\RelV p.2 q.2
def kV:Key->V
 | .inl i=>.int i
 | .inr x=>.str x
inductive HO where
 | lst (xs:List V)
 | tup (xs:List V)
 | dK (kvs:List (Key×V)) | dT (kvs:List (List Key×V))
 | set (S:Int->Bool) (n:Nat)
 | ins (C dx:Addr) (fs:List (Str×V))
 | own (x:Addr)
 | xd (fs:List (Str×V))
 | met (f x:Addr)
 | rng (lo hi:Int)
 | frz (o:Obj) (u:HO)
 | tbl (ps:Array Value)
 | ext (φ:Heap->Prop)
abbrev Hp:=Addr->Option HO
def upd (H:Hp) (a:Addr) (o:HO):Hp:=fun b=>if b=a then some o else H b
theorem az {H:Hp} {a:Addr} {o:HO}:upd H a o a=some o:=by unfold upd; rw [if_pos rfl]
theorem aF {H:Hp} {a b:Addr} {o:HO} (h:b≠a):upd H a o b=H b:=by unfold upd; rw [if_neg h]
theorem jM {H:Hp} {a b:Addr} {o u:HO} (h:H a=some o) (h':H b=some u) (d:o≠u):a≠b:=by
 intro e; subst e; rw [h] at h'; exact d (Option.some.inj h')
theorem aD {H:Hp} {a b:Addr} {o:HO} (h:H a=some o) (h':H b=none):a≠b:=by
 intro e; subst e; rw [h] at h'; cases h'
def IsTpl (h:Heap) (a:Addr) (items:Array Value):Prop:=∃ o,h.get? a=some o/\o.cls=.type "tuple"/\∃ n,o.data=.seq items n/\o.dict=none/\o.slots=#[]
theorem IsTpl.tup {h:Heap} {a:Addr} {items:Array Value} (x:IsTpl h a items):IsTup h a items:=let ⟨o,e,c,n,d,_⟩:=x; ⟨o,e,c,n,d⟩
theorem IsTpl.lt {h:Heap} {a:Addr} {items:Array Value} (x:IsTpl h a items):a < h.objs.size:=x.tup.lt
theorem IsTpl.new (h:Heap) (items:Array Value):IsTpl (h.push { cls:=.type "tuple",data:=.seq items }) h.objs.size items:=⟨_,Heap.get?_push_size _ rfl,rfl,_,rfl,rfl,rfl⟩
section
variable (P:Program) (w:World)
def ObjOk (H:Hp) (h:Heap) (a:Addr):HO->Prop
 | .lst xs=>xs.length<=sizeLine/\∃ (its:List Value) (n:Nat),Vals xs its/\h.get? a=some { cls:=.type "list",data:=.seq its.toArray n }
 | .tup xs=>xs.length<=sizeLine/\∃ its:List Value,Vals xs its/\IsTpl h a its.toArray
 | .dK kvs=>kvs.length<=sizeLine/\(a == sysModules)=false/\∃ vs,KV kvs vs/\h.DictOf (bI P w) a vs
 | .dT kvs=>kvs.length<=sizeLine/\(a == sysModules)=false/\∃ xs:List (List Key×Addr×Value),
   Paired (fun (p:List Key×V) (q:List Key×Addr×Value)=>p.1=q.1/\H q.2.1=some (.tup (p.1.map kV))/\RelV p.2 q.2.2) kvs xs /\
   ∃ o es ep,h.get? a=some o/\o.ExactDict/\o.data=.dict es ep/\es.toList=xs.map (entryOfKey (tupleKind (bI P w)))/\(xs.map (·.1)).Nodup
 | .set S n=>h.SetOf (intKind P w) a S n
 | .ins C dx fs=>H dx=some (.own a)/\fs.length<=1000/\dx≠a/\h.get? a=some (PySem.W.instObj C dx) /\
   ∃ mA,h.Ns1 dx mA/\(∀ f,RelO (fs.lookup f) (mA f))/\PySem.Within mA (fs.map (·.1))
 | .own _=>∃ o,h.get? a=some o
 | .xd fs=>∃ mA,h.Ns1 a mA/\∀ f,RelO (fs.lookup f) (mA f)
 | .rng lo hi=>∃ t u v,h.get? a=some { cls:=.type "range",data:=.fields #[.int lo t,.int hi u,.int 1 v] }
 | .frz o u=>h.get? a=some o/\ObjOk H h a u
 | .tbl ps=>h.get? a=some { cls:=.none,data:=.fields ps }
 | .met f x=>h.get? a=some (PySem.W.methodObj (.ref f) (.ref x))
 | .ext φ=>φ h/\(∃ o,h.get? a=some o)/\∀ h1 h2:Heap,φ h1->(∀ o,h1.get? a=some o->h2.get? a=some o)->φ h2
def HOk (H:Hp) (h:Heap):Prop:=∀ a o,H a=some o->ObjOk P w H h a o
end
section
variable {P:Program} {w:World} {H H':Hp} {h h':Heap} {a:Addr} {o:HO}
theorem ObjOk.lt (x:ObjOk P w H h a o):a < h.objs.size:=by
 cases o with
 | lst xs=>obtain ⟨_,_,_,_,e⟩:=x; exact Heap.lt_size e
 | tup xs=>obtain ⟨_,_,_,p⟩:=x; exact p.lt
 | dK kvs=>obtain ⟨_,_,_,_,o,_,_,e,_⟩:=x; exact Heap.lt_size e
 | dT kvs=>obtain ⟨_,_,_,_,o,_,_,e,_⟩:=x; exact Heap.lt_size e
 | set S n=>obtain ⟨o,_,_,_,e,_⟩:=x; exact Heap.lt_size e
 | ins C dx fs=>obtain ⟨_,_,_,e,_⟩:=x; exact Heap.lt_size e
 | own y=>obtain ⟨_,e⟩:=x; exact Heap.lt_size e
 | xd fs=>obtain ⟨_,⟨_,_,_,e,_⟩,_⟩:=x; exact Heap.lt_size e
 | rng lo hi=>obtain ⟨_,_,_,e⟩:=x; exact Heap.lt_size e
 | frz ob u=>obtain ⟨e,_⟩:=x; exact Heap.lt_size e
 | tbl ps=>exact Heap.lt_size (show h.get? a=some _ from x)
 | met f y=>exact Heap.lt_size (show h.get? a=some _ from x)
 | ext φ=>obtain ⟨_,⟨_,e⟩,_⟩:=x; exact Heap.lt_size e
theorem Paired.mapP {α β:Type} {F G:α->β->Prop}:∀ {l₁:List α} {l₂:List β},Paired F l₁ l₂->(∀ a b,F a b->G a b)->Paired G l₁ l₂
 | _,_,.nil,_=>.nil
 | _,_,.cons r t,f=>.cons (f _ _ r) (Paired.mapP t f)
theorem ObjOk.stay (x:ObjOk P w H h a o) (k:∀ b u,(b=a∨H b=some (.own a))->h.get? b=some u->h'.get? b=some u)
  (ho:∀ b,H b=some (.own a)->H' b=some (.own a)) (ht:∀ b xs,H b=some (.tup xs)->H' b=some (.tup xs)):ObjOk P w H' h' a o:=by
 induction o with
 | lst xs=>obtain ⟨z,its,n,r,e⟩:=x; exact ⟨z,its,n,r,k _ _ (.inl rfl) e⟩
 | tup xs=>obtain ⟨z,its,r,ob,e,c⟩:=x; exact ⟨z,its,r,ob,k _ _ (.inl rfl) e,c⟩
 | dK kvs=>obtain ⟨z,y,vs,r,ob,es,ep,e,c⟩:=x; exact ⟨z,y,vs,r,ob,es,ep,k _ _ (.inl rfl) e,c⟩
 | dT kvs =>
  obtain ⟨z,y,xs,r,ob,es,ep,e,c⟩:=x
  exact ⟨z,y,xs,Paired.mapP r fun p q z=>⟨z.1,ht _ _ z.2.1,z.2.2⟩,ob,es,ep,k _ _ (.inl rfl) e,c⟩
 | set S n=>obtain ⟨ob,es,ep,t,e,c⟩:=x; exact ⟨ob,es,ep,t,k _ _ (.inl rfl) e,c⟩
 | ins C dx fs =>
  obtain ⟨d,z,ne,e,mA,⟨od,es,ep,e2,c⟩,r⟩:=x
  exact ⟨ho _ d,z,ne,k _ _ (.inl rfl) e,mA,⟨od,es,ep,k _ _ (.inr d) e2,c⟩,r⟩
 | own y=>obtain ⟨ob,e⟩:=x; exact ⟨ob,k _ _ (.inl rfl) e⟩
 | xd fs=>obtain ⟨mA,⟨od,es,ep,e,c⟩,r⟩:=x; exact ⟨mA,⟨od,es,ep,k _ _ (.inl rfl) e,c⟩,r⟩
 | rng lo hi=>obtain ⟨t,u,v,e⟩:=x; exact ⟨t,u,v,k _ _ (.inl rfl) e⟩
 | frz ob u ih=>obtain ⟨e,q⟩:=x; exact ⟨k _ _ (.inl rfl) e,ih q⟩
 | tbl ps =>
  have e:h.get? a=some { cls:=.none,data:=.fields ps }:=x
  show h'.get? a=some { cls:=.none,data:=.fields ps }
  exact k a _ (.inl rfl) e
 | met f y =>
  have e:h.get? a=some (PySem.W.methodObj (.ref f) (.ref y)):=x
  show h'.get? a=some (PySem.W.methodObj (.ref f) (.ref y))
  exact k a _ (.inl rfl) e
 | ext φ=>obtain ⟨p,⟨o,e⟩,st⟩:=x; exact ⟨st _ _ p fun o q=>k _ _ (.inl rfl) q,⟨o,k _ _ (.inl rfl) e⟩,st⟩
theorem HOk.lt (x:HOk P w H h) (e:H a=some o):a < h.objs.size:=(x a o e).lt
theorem HOk.fresh (x:HOk P w H h) (e:h.objs.size<=a):H a=none:=by
 cases q:H a with
 | none=>rfl
 | some u=>exact absurd (Nat.lt_of_lt_of_le (x.lt q) e) (Nat.lt_irrefl _)
theorem HOk.kept (x:HOk P w H h) (k:∀ b u,h.get? b=some u->h'.get? b=some u):HOk P w H h':=fun a o e =>
 (x a o e).stay (fun b u _ q=>k b u q) (fun _ q=>q) fun _ _ q=>q
theorem HOk.laid (x:HOk P w H h) (k:∀ b u,h.get? b=some u->h'.get? b=some u) (hp:h.objs.size<=a) (new:ObjOk P w (upd H a o) h' a o):HOk P w (upd H a o) h':=fun b u e=>by
 have hn:=x.fresh hp
 by_cases hb:b=a
 ·subst hb; rw [az] at e; cases e; exact new
 ·rw [aF hb] at e
  exact (x b u e).stay (fun c v _ q=>k c v q) (fun c q=>by rw [aF (aD q hn)]; exact q) fun c xs q=>by rw [aF (aD q hn)]; exact q
end
def Rd (H:Hp) (a:Addr) (u:HO):Prop:=H a=some u∨∃ o,H a=some (.frz o u)
theorem Rd.ok {P:Program} {w:World} {H:Hp} {h:Heap} {a:Addr} {u:HO} (r:Rd H a u) (x:HOk P w H h):ObjOk P w H h a u:=by
 rcases r with r | ⟨o,r⟩
 ·exact x a u r
 ·obtain ⟨_,q⟩:=x a _ r
  exact q
def Mut:Option HO->Prop
 | some (.lst _)=>True
 | some (.dK _)=>True
 | some (.dT _)=>True
 | some (.set _ _)=>True
 | some (.ins _ _ _)=>True
 | some (.ext _)=>True
 | _=>False
section
variable {P:Program} {w:World} {H:Hp} {h h':Heap} {x e:Addr} {o':HO}
theorem HOk.write (ok:HOk P w H h) (mu:Mut (H x)) (he:e=x∨H e=some (.own x)) (k:∀ b u,b≠e->h.get? b=some u->h'.get? b=some u) (heo:∃ u,h'.get? e=some u)
  (new:ObjOk P w (upd H x o') h' x o'):HOk P w (upd H x o') h':=fun b u q=>by
 have nown:∀ c y,H c=some (.own y)->c≠x:=fun c y r z=>by subst z; rw [r] at mu; exact mu
 have ntup:∀ c xs,H c=some (.tup xs)->c≠x:=fun c xs r z=>by subst z; rw [r] at mu; exact mu
 by_cases hb:b=x
 ·subst hb; rw [az] at q; cases q; exact new
 ·rw [aF hb] at q
  by_cases hbe:b=e
  ·have q':H b=some (.own x):=by
    rcases he with z | z
    ·exact absurd (hbe.trans z) hb
    ·rw [hbe]; exact z
   rw [q] at q'; cases q'
   obtain ⟨v,hv⟩:=heo
   exact ⟨v,by rw [hbe]; exact hv⟩
  ·refine (ok b u q).stay (fun c v hc r=>k c v ?_ r) (fun c r=>by rw [aF (nown c b r)]; exact r) fun c xs r=>by rw [aF (ntup c xs r)]; exact r
   rcases hc with rfl | hc
   ·exact hbe
   ·rintro rfl
    rcases he with z | z
    ·exact nown c b hc z
    ·rw [hc] at z; cases z; exact hb rfl
end
structure Un (fs ex:List Addr) (H H':Hp) (h h':Heap):Prop where
 keep:∀ b o,h.get? b=some o->H b=none->b∉fs->b∉ex->h'.get? b=some o
 slot:∀ b o,h.get? b=some o->H b=none->b∈fs->b∉ex->∃ sl,h'.get? b=some { o with slots:=sl }
 free:∀ b o,h.get? b=some o->H b=none->b∉ex->H' b=none
 there:∀ b o,h.get? b=some o->b∉ex->∃ o',h'.get? b=some o'
 tups:∀ b xs,H b=some (.tup xs)->H' b=some (.tup xs)
 frzs:∀ b o u,H b=some (.frz o u)->H' b=some (.frz o u)
 tbls:∀ b ps,H b=some (.tbl ps)->∃ more,H' b=some (.tbl (ps ++ more))
section
variable {fs fs' ex ex':List Addr} {H H1 H2:Hp} {h h1 h2 h':Heap} {a x e:Addr} {o:HO}
theorem Un.any (u:Un fs ex H H1 h h1) {b:Addr} {ob:Obj} (q:h.get? b=some ob) (n:H b=none) (hx:b∉ex):∃ sl,h1.get? b=some { ob with slots:=sl }:=by
 by_cases hb:b∈fs
 ·exact u.slot b ob q n hb hx
 ·exact ⟨ob.slots,u.keep b ob q n hb hx⟩
theorem Un.kept (k:∀ b u,h.get? b=some u->h'.get? b=some u):Un fs ex H H h h' :=
 ⟨fun b ob q _ _ _=>k b ob q,fun b ob q _ _ _=>⟨ob.slots,k b ob q⟩,fun _ _ _ n _=>n,fun b ob q _=>⟨ob,k b ob q⟩,fun _ _ q=>q,fun _ _ _ q=>q,fun _ ps q=>⟨#[],by rw [q]; simp⟩⟩
theorem Un.refl:Un fs ex H H h h:=Un.kept fun _ _ q=>q
theorem Un.laid (k:∀ b u,h.get? b=some u->h'.get? b=some u) (hp:h.objs.size<=a) (hn:H a=none):Un fs ex H (upd H a o) h h' where
 keep:=fun b u q _ _ _=>k b u q
 slot:=fun b u q _ _ _=>⟨u.slots,k b u q⟩
 free:=fun b u q n _=>by rw [aF (Nat.ne_of_lt (Nat.lt_of_lt_of_le (Heap.lt_size q) hp))]; exact n
 there:=fun b u q _=>⟨u,k b u q⟩
 tups:=fun b xs q=>by rw [aF (aD q hn)]; exact q
 frzs:=fun b u xs q=>by rw [aF (aD q hn)]; exact q
 tbls:=fun b ps q=>⟨#[],by rw [aF (aD q hn),q]; simp⟩
theorem Un.write (mu:Mut (H x)) (he:e=x∨H e=some (.own x)) (k:∀ b u,b≠e->h.get? b=some u->h'.get? b=some u) (heo:∃ u,h'.get? e=some u):Un fs ex H (upd H x o) h h':=by
 have hx:∀ b,H b=none->b≠x:=fun b n z=>by subst z; rw [n] at mu; exact mu
 have hb:∀ b,H b=none->b≠e:=fun b n z=>by
  subst z
  rcases he with r | r
  ·exact hx b n r
  ·rw [n] at r; cases r
 have hm:∀ b u,H b=some u->¬ Mut (some u)->b≠x:=fun b u q nm z=>by subst z; rw [q] at mu; exact nm mu
 refine ⟨fun b u q n _ _=>k b u (hb b n) q,fun b u q n _ _=>⟨u.slots,k b u (hb b n) q⟩,fun b u q n _=>by rw [aF (hx b n)]; exact n,fun b u q _=>?_,
  fun b xs q=>by rw [aF (hm b _ q fun z=>z)]; exact q,fun b u xs q=>by rw [aF (hm b _ q fun z=>z)]; exact q,fun b ps q=>⟨#[],by rw [aF (hm b _ q fun z=>z),q]; simp⟩⟩
 by_cases hbe:b=e
 ·subst hbe; exact heo
 ·exact ⟨u,k b u hbe q⟩
end
def trk (h:Heap) (H:Hp):List Addr:=(List.range h.objs.size).filter fun a=>(H a).isSome
def CK (h:Heap) (H:Hp):Heap:=PySem.W.hideAll h (trk h H)
theorem Le (h:Heap) (H:Hp):(CK h H).objs.size=h.objs.size:=PySem.W.hideAll_size _ _
theorem Ny {h:Heap} {H:Hp} {b:Addr} {o:Obj} (e:h.get? b=some o) (n:H b=none):(CK h H).get? b=some o :=
 PySem.W.hideAll_get _ e fun hm=>by
  have q:(H b).isSome=true:=(List.mem_filter.mp hm).2
  rw [n] at q; simp at q
theorem Ra {h:Heap} {H:Hp} {b:Addr} {o:Obj} (e:(CK h H).get? b=some o):h.get? b=some o/\H b=none:=by
 have e':h.get? b=some o:=PySem.W.of_hideAll (trk h H) e
 refine ⟨e',?_⟩
 cases q:H b with
 | none=>rfl
 | some x =>
  have hm:b∈trk h H:=List.mem_filter.mpr ⟨List.mem_range.mpr (Heap.lt_size e'),by simp [q]⟩
  have z:(CK h H).get? b=none:=PySem.W.hideAll_none (trk h H) hm
  rw [z] at e; cases e
end L2
namespace L2
open PySem PySem.Spec PyProof.Rows
structure Mod (K:PySem.W.Frag) (mg:Str->Option Value) (base:Heap):Prop where
 kin:K.In base
 glob:base.Ns mainGlobals mg
 blt:∃ mb,base.Ns builtinsNs mb/\∀ x:Str,x≠"__name__"->mb x=bootBuiltins x
 nolimit:base.NoLimit
structure Cx where
 prog:Program
 w:World
 K:PySem.W.Frag
 mg:Str->Option Value
 base:Heap
 A:Around
 N:List Str
 s₀:Shared
 H₀:Hp
 env:Env
 outer:List Env
 stack:List Env
 ex:List Addr
 fn:Str->Bool
 calm:Bool
 pn:List (Addr×Obj)
 xe:Value->Shared->Prop
def frs (l:List Env):List Addr:=l.filterMap (·.frame)
abbrev Cx.fs (X:Cx):List Addr:=frs X.outer
def Vis (sc:Scope) (x:Str):Prop:=sc.names.lookup x=some .local∨sc.names.lookup x=some .cell∨sc.names.lookup x=some .free
def Loc (sc:Scope) (x:Str):Prop:=sc.names.lookup x=some .local∨sc.names.lookup x=some .cell
def Look (env:Env) (h:Heap) (m:Str->Option Value) (x:Str) (u:Value):Prop :=
 (env.kindOf x=some .local/\m x=some u)∨((env.kindOf x=some .cell∨env.kindOf x=some .free)/\∃ c,env.cells.lookup x=some c/\h.IsCell c (some u))
structure Cx.Ok (X:Cx):Prop where
 mod:Mod X.K X.mg X.base
 kind:X.env.scope.kind=.function
 glob:X.env.globals=mainGlobals
 blt:X.env.builtins=builtinsNs
 above:X.s₀.heap.objs.size<=X.env.locals
 inj:∀ x y c,X.env.cells.lookup x=some c->X.env.cells.lookup y=some c->x=y
 has:∀ x,(X.env.kindOf x=some .cell∨X.env.kindOf x=some .free)->∃ c,X.env.cells.lookup x=some c
 cab:∀ x c,X.fn x=true->X.env.cells.lookup x=some c->X.s₀.heap.objs.size<=c
 hd:X.calm=true->X.A.handled=none
 frames:X.A.frames=some X.stack
 stk:X.stack=X.outer∨(X.stack=X.env :: X.outer/\X.env.frame=some X.env.locals)
 exf:∀ b∈X.ex,b≠X.env.locals/\∀ x c,X.env.cells.lookup x=some c->c≠b
 bs:∀ b o,X.base.get? b=some o->X.s₀.heap.get? b=some o/\X.H₀ b=none
 bsz:X.base.objs.size<=X.s₀.heap.objs.size
 noex:∀ b o,X.base.get? b=some o->b∉X.ex
 exfs:∀ b∈X.ex,b∉X.fs
 funs:X.s₀.heap.FunFrames X.base X.outer
 frf:∀ b∈X.fs,X.H₀ b=none
structure Inv (X:Cx) (pins:List (Addr×Obj)) (σ:List (Option V)) (H:Hp) (s:Shared):Prop where
 ok:X.Ok
 os:s.os=X.s₀.os
 bare:AllBare s.gens
 base:Un X.fs X.ex X.H₀ H X.s₀.heap s.heap
 loc:∃ m,s.heap.Ns X.env.locals m/\∀ (i:Nat) (x:Str) (v:V),X.N[i]?=some x->σ[i]?=some (some v)->Vis X.env.scope x->∃ u,RelV v u/\Look X.env s.heap m x u
 cell:∀ x c,X.env.cells.lookup x=some c->∃ v,s.heap.IsCell c v
 free:H X.env.locals=none
 freeC:∀ x c,X.env.cells.lookup x=some c->H c=none
 pin:∀ p∈X.pn ++ pins,s.heap.get? p.1=some p.2/\H p.1=none/\p.1≠X.env.locals/\p.1∉X.fs/\∀ v,p.2.data≠.cell v
 hok:HOk X.prog X.w H s.heap
 len:σ.length=X.N.length
section
variable {X:Cx} {pins:List (Addr×Obj)} {σ:List (Option V)} {H H':Hp} {s:Shared} {h':Heap}
theorem Cx.Ok.nofr (ok:X.Ok) {b:Addr} {o:Obj} (e:X.base.get? b=some o):b∉X.fs:=fun hb=>by
 have:=(ok.funs.mem hb).1
 rw [e] at this; cases this
theorem Inv.bs (I:Inv X pins σ H s):∀ b o,X.base.get? b=some o->s.heap.get? b=some o/\H b=none:=fun b o e =>
 ⟨I.base.keep b o (I.ok.bs b o e).1 (I.ok.bs b o e).2 (I.ok.nofr e) (I.ok.noex b o e),I.base.free b o (I.ok.bs b o e).1 (I.ok.bs b o e).2 (I.ok.noex b o e)⟩
theorem Inv.bk (I:Inv X pins σ H s):∀ b o,X.base.get? b=some o->s.heap.get? b=some o:=fun b o e=>(I.bs b o e).1
theorem Inv.mod (I:Inv X pins σ H s):Mod X.K X.mg X.base:=I.ok.mod
theorem Inv.kIn (I:Inv X pins σ H s):X.K.In s.heap:=I.ok.mod.kin.keeps I.bk
theorem Inv.lt (I:Inv X pins σ H s):X.env.locals < s.heap.objs.size:=let ⟨_,hn,_⟩:=I.loc; hn.lt
theorem Inv.sz (I:Inv X pins σ H s):X.s₀.heap.objs.size<=s.heap.objs.size:=Nat.le_trans I.ok.above (Nat.le_of_lt I.lt)
theorem Inv.nofs (I:Inv X pins σ H s) {a:Addr} (h:s.heap.objs.size<=a):a∉X.fs:=fun hb=>by
 obtain ⟨_,o,ho,_⟩:=I.ok.funs.mem hb
 exact absurd (Nat.lt_of_lt_of_le (Heap.lt_size ho) (Nat.le_trans I.sz h)) (Nat.lt_irrefl _)
theorem Inv.cne (I:Inv X pins σ H s):∀ x c,X.env.cells.lookup x=some c->c≠X.env.locals:=fun x c e z=>by
 obtain ⟨v,o,ho,hd⟩:=I.cell x c e
 obtain ⟨m,⟨o',es,ep,ho',hd',_⟩,_⟩:=I.loc
 rw [z,ho'] at ho; cases ho; rw [hd'] at hd; cases hd
theorem Inv.funs (I:Inv X pins σ H s):s.heap.FunFrames X.base X.outer:=by
 have all:∀ (l:List Env),(∀ b∈frs l,b∈X.fs)->X.s₀.heap.FunFrames X.base l->s.heap.FunFrames X.base l:=by
  intro l
  induction l with
  | nil=>intro _ _; trivial
  | cons env r ih =>
   intro hs hl
   obtain ⟨hk,⟨L,o,hf,hn,ho,hd⟩,hr⟩:=hl
   have hL:L∈X.fs:=hs L (by unfold frs; rw [List.filterMap_cons,hf]; exact List.mem_cons_self)
   obtain ⟨sl,e⟩:=I.base.slot L o ho (I.ok.frf L hL) hL fun z=>I.ok.exfs L z hL
   exact ⟨hk,⟨L,_,hf,hn,e,hd⟩,ih (fun b hb=>hs b (by unfold frs; rw [List.filterMap_cons,hf]; exact List.mem_cons_of_mem _ hb)) hr⟩
 exact all X.outer (fun _ hb=>hb) I.ok.funs
theorem Inv.stack (I:Inv X pins σ H s):s.heap.FunFrames X.base X.stack:=by
 rcases I.ok.stk with e | ⟨e,hf⟩
 ·rw [e]; exact I.funs
 ·rw [e]
  obtain ⟨m,hn,_⟩:=I.loc
  refine .cons (by rw [I.ok.kind]; decide) hf hn ?_ I.funs
  exact Heap.get?_none_of_le (Nat.le_trans I.ok.bsz I.ok.above)
theorem Inv.stkSub (I:Inv X pins σ H s):∀ b∈frs X.stack,b∈X.env.locals :: X.fs:=fun b hb=>by
 rcases I.ok.stk with e | ⟨e,hf⟩
 ·rw [e] at hb; exact List.mem_cons_of_mem _ hb
 ·rw [e] at hb
  unfold frs at hb
  rw [List.filterMap_cons,hf] at hb
  exact hb
theorem Inv.stkFree (I:Inv X pins σ H s):∀ b∈frs X.stack,H b=none:=fun b hb=>by
 rcases List.mem_cons.mp (I.stkSub b hb) with e | hb
 ·rw [e]; exact I.free
 ·obtain ⟨_,o,ho,_⟩:=I.ok.funs.mem hb
  exact I.base.free b o ho (I.ok.frf b hb) fun z=>I.ok.exfs b z hb
theorem Inv.step {g':Array GenState} {t':Nat} {d':Drawn} {ch:List Addr} (I:Inv X pins σ H s)
  (hch:∀ b∈ch,(b∈X.ex∨X.s₀.heap.objs.size<=b)/\b≠X.env.locals/\(∀ x c,X.env.cells.lookup x=some c->c≠b)/\∀ p∈X.pn ++ pins,p.1≠b)
  (keep:∀ b o,b≠X.env.locals->b∉X.fs->b∉ch->s.heap.get? b=some o->H b=none->h'.get? b=some o)
  (slot:∀ b o,b≠X.env.locals->b∈X.fs->b∉ch->s.heap.get? b=some o->H b=none->∃ sl,h'.get? b=some { o with slots:=sl }) (free:∀ b o,b∉ch->s.heap.get? b=some o->H b=none->H' b=none)
  (there:∀ b o,b∉ch->s.heap.get? b=some o->∃ o',h'.get? b=some o')
  (tups:∀ b xs,H b=some (.tup xs)->H' b=some (.tup xs)) (frzs:∀ b o u,H b=some (.frz o u)->H' b=some (.frz o u)) (tbls:∀ b ps,H b=some (.tbl ps)->∃ more,H' b=some (.tbl (ps ++ more)))
  (ns:∀ m,s.heap.Ns X.env.locals m->h'.Ns X.env.locals m) (hok:HOk X.prog X.w H' h') (hg:AllBare g') :
  Inv X pins σ H' { s with heap:=h',gens:=g',drawn:=d',toks:=t' }:=by
 have neL:∀ b o,X.s₀.heap.get? b=some o->b≠X.env.locals:=fun b o e=>Nat.ne_of_lt (Nat.lt_of_lt_of_le (Heap.lt_size e) I.ok.above)
 have neC:∀ b o,X.s₀.heap.get? b=some o->b∉X.ex->b∉ch:=fun b o e hx hb=>by
  rcases (hch b hb).1 with z | z
  ·exact hx z
  ·exact absurd (Nat.lt_of_lt_of_le (Heap.lt_size e) z) (Nat.lt_irrefl _)
 have cellK:∀ x c,X.env.cells.lookup x=some c->∀ v,s.heap.IsCell c v->h'.IsCell c v:=fun x c e v ⟨o,ho,hd⟩=>by
  have nch:c∉ch:=fun z=>(hch c z).2.2.1 x c e rfl
  by_cases hc:c∈X.fs
  ·obtain ⟨sl,q⟩:=slot c o (I.cne x c e) hc nch ho (I.freeC x c e)
   exact ⟨_,q,hd⟩
  ·exact ⟨o,keep c o (I.cne x c e) hc nch ho (I.freeC x c e),hd⟩
 refine ⟨I.ok,I.os,hg,⟨fun b o e n hb hx=>?_,fun b o e n hb hx=>?_,fun b o e n hx=>?_,fun b o e hx=>?_,fun b xs e=>tups b xs (I.base.tups b xs e),fun b o xs e=>frzs b o xs (I.base.frzs b o xs e),fun b ps e=>?_⟩,?_,fun x c e=>?_,?_,fun x c e=>?_,fun p hp=>?_,hok,I.len⟩
 ·exact keep b o (neL b o e) hb (neC b o e hx) (I.base.keep b o e n hb hx) (I.base.free b o e n hx)
 ·obtain ⟨sl,e1⟩:=I.base.slot b o e n hb hx
  obtain ⟨sl',e2⟩:=slot b _ (neL b o e) hb (neC b o e hx) e1 (I.base.free b o e n hx)
  exact ⟨sl',e2⟩
 ·obtain ⟨o',e1⟩:=I.base.there b o e hx
  exact free b o' (neC b o e hx) e1 (I.base.free b o e n hx)
 ·obtain ⟨o',e1⟩:=I.base.there b o e hx
  exact there b o' (neC b o e hx) e1
 ·obtain ⟨m1,e1⟩:=I.base.tbls b ps e
  obtain ⟨m2,e2⟩:=tbls b _ e1
  exact ⟨m1 ++ m2,by rw [e2,Array.append_assoc]⟩
 ·obtain ⟨m,hn,hl⟩:=I.loc
  refine ⟨m,ns m hn,fun i x v e1 e2 e3=>?_⟩
  obtain ⟨u,r,l⟩:=hl i x v e1 e2 e3
  refine ⟨u,r,?_⟩
  rcases l with l | ⟨k,c,e,z⟩
  ·exact .inl l
  ·exact .inr ⟨k,c,e,cellK x c e _ z⟩
 ·obtain ⟨v,z⟩:=I.cell x c e
  exact ⟨v,cellK x c e v z⟩
 ·obtain ⟨m,⟨o,_,_,ho,_⟩,_⟩:=I.loc
  exact free _ o (fun z=>(hch _ z).2.1 rfl) ho I.free
 ·obtain ⟨v,o,ho,hd⟩:=I.cell x c e
  exact free c o (fun z=>(hch c z).2.2.1 x c e rfl) ho (I.freeC x c e)
 ·obtain ⟨e,n,ne,nf,d⟩:=I.pin p hp
  have nch:p.1∉ch:=fun z=>(hch p.1 z).2.2.2 p hp rfl
  exact ⟨keep p.1 p.2 ne nf nch e n,free p.1 p.2 nch e n,ne,nf,d⟩
theorem Inv.un {t':Nat} (I:Inv X pins σ H s) (u:Un X.fs [] H H' s.heap h') (hok:HOk X.prog X.w H' h'):Inv X pins σ H' { s with heap:=h',toks:=t' }:=by
 obtain ⟨m,⟨o,es,ep,ho,r⟩,_⟩:=id I.loc
 obtain ⟨sl,hL⟩:=u.any ho I.free (by simp)
 exact I.step (g':=s.gens) (d':=s.drawn) (ch:=[]) (fun _ z=>nomatch z) (fun b o _ hb _ e n=>u.keep b o e n hb (by simp)) (fun b o _ hb _ e n=>u.slot b o e n hb (by simp)) (fun b o _ e n=>u.free b o e n (by simp)) (fun b o _ e=>u.there b o e (by simp)) u.tups u.frzs u.tbls (fun m' hm=>by
  obtain ⟨o',es',ep',ho',r'⟩:=hm
  rw [ho] at ho'; cases ho'
  exact ⟨_,es',ep',hL,r'⟩) hok I.bare
theorem Inv.call {g':Array GenState} {t':Nat} {d':Drawn} {ch:List Addr} (I:Inv X pins σ H s) (u:Un (frs X.stack) ch H H' s.heap h') (hok:HOk X.prog X.w H' h') (hg:AllBare g')
  (hch:∀ b∈ch,(b∈X.ex∨X.s₀.heap.objs.size<=b)/\b≠X.env.locals/\(∀ x c,X.env.cells.lookup x=some c->c≠b)/\∀ p∈X.pn ++ pins,p.1≠b) :
  Inv X pins σ H' { s with heap:=h',gens:=g',drawn:=d',toks:=t' }:=by
 obtain ⟨m,⟨o,es,ep,ho,r⟩,_⟩:=id I.loc
 obtain ⟨sl,hL⟩:=u.any ho I.free fun z=>(hch _ z).2.1 rfl
 exact I.step (ch:=ch) hch (fun b o hL hb hc e n=>u.keep b o e n (fun z=>(List.mem_cons.mp (I.stkSub b z)).elim hL hb) hc) (fun b o _ _ hc e n=>u.any e n hc) (fun b o hc e n=>u.free b o e n hc) (fun b o hc e=>u.there b o e hc) u.tups u.frzs u.tbls (fun m' hm=>by
  obtain ⟨o',es',ep',ho',r'⟩:=hm
  rw [ho] at ho'; cases ho'
  exact ⟨_,es',ep',hL,r'⟩) hok hg
theorem Inv.turned {t':Nat} {it:Addr} (I:Inv X pins σ H s) (k:∀ b o,b≠it->s.heap.get? b=some o->h'.get? b=some o) (hn:H it=none) (hL:it≠X.env.locals)
  (h1:it∈X.ex∨X.s₀.heap.objs.size<=it) (h2:∀ x c,X.env.cells.lookup x=some c->c≠it) (h3:∀ p∈X.pn ++ pins,p.1≠it):Inv X pins σ H { s with heap:=h',toks:=t' }:=by
 have nit:∀ b u,H b=some u->b≠it:=fun b u e z=>by rw [z,hn] at e; cases e
 refine I.step (g':=s.gens) (d':=s.drawn) (ch:=[it]) (fun b hb=>?_) (fun b o _ _ hc e _=>k b o (fun z=>hc (by simp [z])) e) (fun b o _ _ hc e _=>⟨o.slots,k b o (fun z=>hc (by simp [z])) e⟩) (fun _ _ _ _ n=>n)
  (fun b o hc e=>⟨o,k b o (fun z=>hc (by simp [z])) e⟩) (fun _ _ e=>e) (fun _ _ _ e=>e) (fun b ps e=>⟨#[],by rw [e]; simp⟩) (fun m hm=>?_) (fun b u e=>?_) I.bare
 ·have e:b=it:=by simpa using hb
  subst e
  exact ⟨h1,hL,h2,h3⟩
 ·obtain ⟨o,es,ep,ho,r⟩:=hm
  exact ⟨o,es,ep,k _ o (Ne.symm hL) ho,r⟩
 ·refine (I.hok b u e).stay (fun c v hc q=>k c v ?_ q) (fun _ q=>q) fun _ _ q=>q
  rcases hc with z | z
  ·rw [z]; exact nit b u e
  ·exact nit c _ z
theorem Inv.tok (I:Inv X pins σ H s) (t:Nat):Inv X pins σ H { s with toks:=t }:=I.un (h':=s.heap) (t':=t) Un.refl I.hok
theorem Inv.kept {t':Nat} (I:Inv X pins σ H s) (k:∀ b u,s.heap.get? b=some u->h'.get? b=some u):Inv X pins σ H { s with heap:=h',toks:=t' }:=I.un (Un.kept k) (I.hok.kept k)
theorem Inv.laid {a:Addr} {o:HO} {t':Nat} (I:Inv X pins σ H s) (k:∀ b u,s.heap.get? b=some u->h'.get? b=some u) (hp:s.heap.objs.size<=a) (new:ObjOk X.prog X.w (upd H a o) h' a o) :
  Inv X pins σ (upd H a o) { s with heap:=h',toks:=t' }:=I.un (Un.laid k hp (I.hok.fresh hp)) (I.hok.laid k hp new)
theorem Inv.write {x e:Addr} {o:HO} {t':Nat} (I:Inv X pins σ H s) (mu:Mut (H x)) (he:e=x∨H e=some (.own x)) (k:∀ b u,b≠e->s.heap.get? b=some u->h'.get? b=some u) (heo:∃ u,h'.get? e=some u)
  (new:ObjOk X.prog X.w (upd H x o) h' x o):Inv X pins σ (upd H x o) { s with heap:=h',toks:=t' }:=I.un (Un.write mu he k heo) (I.hok.write mu he k heo new)
theorem Inv.pins_of {pins':List (Addr×Obj)} (I:Inv X pins σ H s) (h:∀ p∈pins',s.heap.get? p.1=some p.2/\H p.1=none/\p.1≠X.env.locals/\p.1∉X.fs/\∀ v,p.2.data≠.cell v):Inv X pins' σ H s :=
 ⟨I.ok,I.os,I.bare,I.base,I.loc,I.cell,I.free,I.freeC,fun p hp=>(List.mem_append.mp hp).elim (fun z=>I.pin p (List.mem_append_left _ z)) (h p),I.hok,I.len⟩
theorem Fl {N:List Str} (hN:N.Nodup) {i j:Nat} {x:Str} (a:N[i]?=some x) (b:N[j]?=some x):i=j:=by
 obtain ⟨h1,e1⟩:=List.getElem?_eq_some_iff.mp a
 obtain ⟨h2,e2⟩:=List.getElem?_eq_some_iff.mp b
 exact (List.getElem_inj hN).mp (e1.trans e2.symm)
theorem Bk {M:Model} {A:Around} {E:Value->Shared->Prop} {i:Nat} {x:Str} {v:V} {u:Value} {Q:Unit->Shared->Prop} (I:Inv X pins σ H s) (hN:X.N.Nodup) (hi:X.N[i]?=some x) (hx:Loc X.env.scope x) (r:RelV v u)
  (h:∀ s',Inv X pins (σ.set i (some v)) H s'->(∃ a,Heap.SameBut a s.heap s'.heap/\(a=X.env.locals∨X.env.cells.lookup x=some a))->Q () s') (hf:X.fn x=true∨X.env.scope.names.lookup x=some .local:=by first | exact .inl rfl | exact .inr rfl | assumption):wpAny M A (storeName X.env x u) Q E s:=by
 obtain ⟨m,hn,hl⟩:=id I.loc
 have hcls:(X.env.scope.kind == .class || (X.env.scope.kind == .module && X.env.locals != X.env.globals))=false:=by rw [I.ok.kind]; rfl
 have hiσ:i < σ.length:=by rw [I.len]; exact (List.getElem?_eq_some_iff.mp hi).1
 have cne:=I.cne
 have tracked:∀ {a:Addr} {h':Heap},(∃ o,s.heap.get? a=some o/\H a=none)->Heap.SameBut a s.heap h'->HOk X.prog X.w H h':=fun {a h'} ha hs b ob e=>by
  obtain ⟨_,_,hfree⟩:=ha
  refine (I.hok b ob e).stay (fun c w' hc q=>(hs.2 c ?_).trans q) (fun _ q=>q) fun _ _ q=>q
  rintro rfl
  rcases hc with rfl | hc
  ·rw [hfree] at e; cases e
  ·rw [hfree] at hc; cases hc
 rcases hx with hk | hk
 ·refine wpAny_storeName_local hk hn (fun h' hn' hs=>?_) hcls
  obtain ⟨oL,_,_,hoL,_⟩:=id hn
  refine h _ ⟨I.ok,I.os,I.bare,⟨fun b o e n hb hx=>?_,fun b o e n hb hx=>?_,I.base.free,fun b o e hx=>?_,I.base.tups,I.base.frzs,I.base.tbls⟩,⟨_,hn',fun j y v' e1 e2 e3=>?_⟩,fun y c e=>?_,I.free,I.freeC,fun p hp=>?_,tracked ⟨oL,hoL,I.free⟩ hs,by simpa using I.len⟩ ⟨_,hs,.inl rfl⟩
  ·exact (hs.2 b (Nat.ne_of_lt (Nat.lt_of_lt_of_le (Heap.lt_size e) I.ok.above))).trans (I.base.keep b o e n hb hx)
  ·obtain ⟨sl,e1⟩:=I.base.slot b o e n hb hx
   exact ⟨sl,(hs.2 b (Nat.ne_of_lt (Nat.lt_of_lt_of_le (Heap.lt_size e) I.ok.above))).trans e1⟩
  ·obtain ⟨o',e1⟩:=I.base.there b o e hx
   exact ⟨o',(hs.2 b (Nat.ne_of_lt (Nat.lt_of_lt_of_le (Heap.lt_size e) I.ok.above))).trans e1⟩
  ·by_cases hj:j=i
   ·subst hj
    rw [hi] at e1; cases e1
    rw [List.getElem?_set_self hiσ] at e2
    cases e2
    exact ⟨u,r,.inl ⟨hk,by simp⟩⟩
   ·rw [List.getElem?_set_ne (Ne.symm hj)] at e2
    obtain ⟨u',r',q⟩:=hl j y v' e1 e2 e3
    refine ⟨u',r',?_⟩
    rcases q with ⟨k,e⟩ | ⟨k,c,e,z⟩
    ·refine .inl ⟨k,?_⟩
     have:y≠x:=fun e=>hj (Fl hN e1 (e ▸ hi))
     simp [this,e]
    ·exact .inr ⟨k,c,e,z.sameBut hs (cne y c e)⟩
  ·obtain ⟨w',z⟩:=I.cell y c e
   exact ⟨w',z.sameBut hs (cne y c e)⟩
  ·obtain ⟨e,n,ne,nf,d⟩:=I.pin p hp
   exact ⟨(hs.2 p.1 ne).trans e,n,ne,nf,d⟩
 ·have hfn:X.fn x=true:=by
   rcases hf with z | z
   ·exact z
   ·rw [z] at hk; cases hk
  obtain ⟨c,hc⟩:=I.ok.has x (.inl hk)
  obtain ⟨w',z⟩:=I.cell x c hc
  refine wpAny_storeName_cell I.ok.kind hk hc z (fun h' hc' hs=>?_)
  obtain ⟨oc,hoc,hocd⟩:=id z
  refine h { s with heap:=h' } ⟨I.ok,I.os,I.bare,⟨fun b o e n hb hx=>?_,fun b o e n hb hx=>?_,I.base.free,fun b o e hx=>?_,I.base.tups,I.base.frzs,I.base.tbls⟩,⟨m,hn.sameBut hs (Ne.symm (cne x c hc)),fun j y v' e1 e2 e3=>?_⟩,fun y c' e=>?_,I.free,I.freeC,fun p hp=>?_,tracked ⟨oc,hoc,I.freeC x c hc⟩ hs,by simpa using I.len⟩ ⟨c,hs,.inr hc⟩
  ·exact (hs.2 b (Nat.ne_of_lt (Nat.lt_of_lt_of_le (Heap.lt_size e) (I.ok.cab x c hfn hc)))).trans (I.base.keep b o e n hb hx)
  ·obtain ⟨sl,e1⟩:=I.base.slot b o e n hb hx
   exact ⟨sl,(hs.2 b (Nat.ne_of_lt (Nat.lt_of_lt_of_le (Heap.lt_size e) (I.ok.cab x c hfn hc)))).trans e1⟩
  ·obtain ⟨o',e1⟩:=I.base.there b o e hx
   exact ⟨o',(hs.2 b (Nat.ne_of_lt (Nat.lt_of_lt_of_le (Heap.lt_size e) (I.ok.cab x c hfn hc)))).trans e1⟩
  ·by_cases hj:j=i
   ·subst hj
    rw [hi] at e1; cases e1
    rw [List.getElem?_set_self hiσ] at e2
    cases e2
    exact ⟨u,r,.inr ⟨.inl hk,c,hc,hc'⟩⟩
   ·rw [List.getElem?_set_ne (Ne.symm hj)] at e2
    obtain ⟨u',r',q⟩:=hl j y v' e1 e2 e3
    refine ⟨u',r',?_⟩
    rcases q with q | ⟨k,c',e,z'⟩
    ·exact .inl q
    ·refine .inr ⟨k,c',e,z'.sameBut hs ?_⟩
     rintro rfl
     exact hj (Fl hN e1 (I.ok.inj _ _ _ e hc ▸ hi))
  ·by_cases hcc:c'=c
   ·subst hcc; exact ⟨_,hc'⟩
   ·obtain ⟨w2,z2⟩:=I.cell y c' e
    exact ⟨w2,z2.sameBut hs hcc⟩
  ·obtain ⟨e,n,ne,nf,d⟩:=I.pin p hp
   refine ⟨(hs.2 p.1 ?_).trans e,n,ne,nf,d⟩
   intro q
   rw [q,hoc] at e
   have q':oc=p.2:=Option.some.inj e
   exact d w' (by rw [← q']; exact hocd)
theorem Gs {M:Model} {A:Around} {E:Value->Shared->Prop} {i:Nat} {x:Str} {v:V} {u:Value} {Q:Unit->Shared->Prop} (I:Inv X pins σ H s) (hN:X.N.Nodup) (hi:X.N[i]?=some x) (hx:Loc X.env.scope x) (r:RelV v u)
  (h:∀ s',Inv X pins (σ.set i (some v)) H s'->Q () s') (hf:X.fn x=true∨X.env.scope.names.lookup x=some .local:=by first | exact .inl rfl | exact .inr rfl | assumption):wpAny M A (storeName X.env x u) Q E s :=
 Bk I hN hi hx r (fun s' I' _=>h s' I') hf
theorem Inv.call' {s':Shared} {ch:List Addr} (I:Inv X pins σ H s) (ho:s'.os=s.os) (u:Un (frs X.stack) ch H H' s.heap s'.heap) (hok:HOk X.prog X.w H' s'.heap) (hg:AllBare s'.gens)
  (hch:∀ b∈ch,(b∈X.ex∨X.s₀.heap.objs.size<=b)/\b≠X.env.locals/\(∀ x c,X.env.cells.lookup x=some c->c≠b)/\∀ p∈X.pn ++ pins,p.1≠b):Inv X pins σ H' s':=by
 obtain ⟨h',g',d',t',o'⟩:=s'
 have e:o'=s.os:=ho
 subst e
 exact I.call (g':=g') (t':=t') (d':=d') u hok hg hch
end
abbrev XK:=Value->Option Addr->Hp->Prop
abbrev St:=List (Option V)
abbrev VK:=V->Hp->Prop
abbrev TE:=St->Hp->VK->Prop
abbrev TT:=St->Hp->(Bool->Hp->Prop)->Prop
abbrev TA:=St->Hp->(List V->Hp->Prop)->Prop
structure Ends where
 nx:St->Hp->Prop
 rt:VK
 bk:St->Hp->Prop:=fun _ _=>False
 ct:St->Hp->Prop:=fun _ _=>False
abbrev TS:=Ends->St->Hp->Prop
def EP (X:Cx) (pins:List (Addr×Obj)) (σ:St) (Q:VK) (u:Value) (s':Shared):Prop:=∃ v H',Inv X pins σ H' s'/\RelV v u/\Q v H'
def TP (X:Cx) (pins:List (Addr×Obj)) (σ:St) (Q:Bool->Hp->Prop) (b:Bool) (s':Shared):Prop:=∃ H',Inv X pins σ H' s'/\Q b H'
def AP (X:Cx) (pins:List (Addr×Obj)) (σ:St) (Q:List V->Hp->Prop) (us:List Value) (s':Shared):Prop:=∃ vs H',Inv X pins σ H' s'/\Vals vs us/\Q vs H'
def SP (X:Cx) (pins:List (Addr×Obj)) (D:Ends) (f:Flow) (s':Shared):Prop :=
 match f with
 | .next=>∃ σ' H',Inv X pins σ' H' s'/\D.nx σ' H'
 | .brk=>∃ σ' H',Inv X pins σ' H' s'/\D.bk σ' H'
 | .cont=>∃ σ' H',Inv X pins σ' H' s'/\D.ct σ' H'
 | .ret u=>∃ v σ' H',Inv X pins σ' H' s'/\RelV v u/\D.rt v H'
def PE (X:Cx) (e:Expr) (t:TE):Prop :=
 ∀ (pins:List (Addr×Obj)) (s:Shared) (σ:St) (H:Hp) (Q:VK),Inv X pins σ H s->t σ H Q->wpAny (model X.prog X.w) X.A (eval e X.env) (EP X pins σ Q) X.xe s
def PT (X:Cx) (e:Expr) (t:TT):Prop :=
 ∀ (pins:List (Addr×Obj)) (s:Shared) (σ:St) (H:Hp) (Q:Bool->Hp->Prop),Inv X pins σ H s->t σ H Q->wpAny (model X.prog X.w) X.A (isTrue e X.env (eval e X.env)) (TP X pins σ Q) X.xe s
def PW (X:Cx) (e:Expr) (t:TT):Prop :=
 ∀ (whole:Sem Value) (pins:List (Addr×Obj)) (s:Shared) (σ:St) (H:Hp) (Q:Bool->Hp->Prop),Inv X pins σ H s->t σ H Q->wpAny (model X.prog X.w) X.A (isTrue e X.env whole) (TP X pins σ Q) X.xe s
theorem PW.pt {X:Cx} {e:Expr} {t:TT} (h:PW X e t):PT X e t:=h _
def PA (X:Cx) (es:List Expr) (t:TA):Prop :=
 ∀ (pos:Pos) (pins:List (Addr×Obj)) (s:Shared) (σ:St) (H:Hp) (Q:List V->Hp->Prop),Inv X pins σ H s->t σ H Q->wpAny (model X.prog X.w) X.A (spliced (backTo pos (starEach es X.env))) (AP X pins σ Q) X.xe s
def PS (X:Cx) (st:Stmt) (t:TS):Prop :=
 ∀ (pins:List (Addr×Obj)) (s:Shared) (σ:St) (H:Hp) (D:Ends),Inv X pins σ H s->t D σ H->wpAny (model X.prog X.w) X.A (exec st X.env) (SP X pins D) X.xe s
def PSs (X:Cx) (st:List Stmt) (t:TS):Prop :=
 ∀ (pins:List (Addr×Obj)) (s:Shared) (σ:St) (H:Hp) (D:Ends),Inv X pins σ H s->t D σ H->wpAny (model X.prog X.w) X.A (execs st X.env) (SP X pins D) X.xe s
theorem thn {α:Type} {t:Sem α} {Q Q':α->Shared->Prop} {M:Model} {A:Around} {E:Value->Shared->Prop} {s:Shared} (h:wpAny M A t Q E s) (hQ:∀ a s,Q a s->Q' a s):wpAny M A t Q' E s:=wpAny_mono h hQ fun _ _ x=>x
end L2
namespace L2
open PySem PySem.Spec PyProof.Rows
section
variable {X:Cx}
theorem bin {a b:Expr} {ta tb:TE} (ha:PE X a ta) (hb:PE X b tb) {pins:List (Addr×Obj)} {s:Shared} {σ:St} {H:Hp} {R:V->V->Hp->Prop} (I:Inv X pins σ H s) (h:ta σ H fun x H1=>tb σ H1 fun y H2=>R x y H2)
  {α:Type} {Q:α->Shared->Prop} {f:Value->Value->Sem α}
  (hf:∀ v u s2 x y H2,Inv X pins σ H2 s2->RelV x v->RelV y u->R x y H2->wpAny (model X.prog X.w) X.A (f v u) Q X.xe s2) :
  wpAny (model X.prog X.w) X.A (eval a X.env) (fun v s₁=>wpAny (model X.prog X.w) X.A (eval b X.env) (fun u s₂=>wpAny (model X.prog X.w) X.A (f v u) Q X.xe s₂) X.xe s₁) X.xe s:=by
 refine thn (ha pins s σ H _ I h) fun v s1 ⟨x,H1,I1,r1,q1⟩=>?_
 refine thn (hb pins s1 σ H1 _ I1 q1) fun u s2 ⟨y,H2,I2,r2,q2⟩=>?_
 exact hf v u s2 x y H2 I2 r1 r2 q2
def Lg (i:Nat):TE:=fun σ H Q=>∃ v,σ[i]?=some (some v)/\Q v H
def tC (v:V):TE:=fun _ H Q=>Q v H
theorem Ub {i:Nat} {x:Str} {pos:Pos} (hN:X.N[i]?=some x) (hv:Vis X.env.scope x) (hd:(x == ("__debug__":Str))=false:=by decide) (hcd:(x == ("__classdict__":Str))=false:=by decide):PE X (.Name x pos) (Lg i):=by
 intro pins s σ H Q I h
 obtain ⟨v,e,h⟩:=h
 obtain ⟨m,hn,hl⟩:=I.loc
 obtain ⟨u,r,l⟩:=hl i x v hN e hv
 have fin:EP X pins σ Q u s:=⟨v,H,I,r,h⟩
 rcases l with ⟨hk,hm⟩ | ⟨hk,c,hc,hcell⟩
 ·exact wpAny_Name (wpAny_loadName_local I.ok.kind hk hn hm fin) hd
 ·rcases hk with hk | hk
  ·exact wpAny_Name (wpAny_loadName_cell I.ok.kind hk hc hcell fin) hd
  ·exact wpAny_Name (wpAny_loadName_free I.ok.kind hk hc hcell fin hcd) hd
theorem aq {i j pos}:PE X (.Constant (.int i) j pos) (tC (.int i)):=fun _ _ _ H _ I h=>wpAny_Constant_int ⟨.int i,H,I.tok _,⟨_,rfl⟩,h⟩
theorem wL {b j pos}:PE X (.Constant (.bool b) j pos) (tC (.bl b)):=fun _ _ _ H _ I h=>Constant_bool ⟨.bl b,H,I,rfl,h⟩
theorem ph {j pos}:PE X (.Constant .none j pos) (tC .non):=fun _ _ _ H _ I h=>Constant_none ⟨.non,H,I,rfl,h⟩
theorem j7 {x j pos}:PE X (.Constant (.str x) j pos) (tC (.str x)):=fun _ _ _ H _ I h=>Calls.Constant_str ⟨.str x,H,I.tok _,⟨_,rfl⟩,h⟩
def Gl (X:Cx) (x:Str):Prop:=X.env.kindOf x=some .globalImplicit
theorem uT {E:Value->Shared->Prop} {pins:List (Addr×Obj)} {s:Shared} {σ:St} {H:Hp} {x:Str} {u:Value} {pos:Pos} {Q:Value->Shared->Prop} (I:Inv X pins σ H s) (hg:Gl X x) (hm:X.mg x=some u) (h:Q u s)
  (hd:(x == ("__debug__":Str))=false:=by decide):wpAny (model X.prog X.w) X.A (eval (.Name x pos) X.env) Q E s :=
 Calls.Name_function_global I.ok.kind hg (Calls.loadGlobal_global (by rw [I.ok.glob]; exact I.mod.glob.keeps I.bk) hm h) hd
theorem q9 {E:Value->Shared->Prop} {pins:List (Addr×Obj)} {s:Shared} {σ:St} {H:Hp} {x:Str} {u:Value} {pos:Pos} {Q:Value->Shared->Prop} (I:Inv X pins σ H s) (hg:Gl X x) (hm:X.mg x=none) (hv:bootBuiltins x=some u) (h:Q u s)
  (hn:x≠"__name__":=by decide) (hd:(x == ("__debug__":Str))=false:=by decide):wpAny (model X.prog X.w) X.A (eval (.Name x pos) X.env) Q E s:=by
 obtain ⟨mb,h1,h2⟩:=I.mod.blt
 exact Calls.Name_function_global I.ok.kind hg (Calls.loadGlobal_builtin (by rw [I.ok.glob]; exact I.mod.glob.keeps I.bk) hm (by rw [I.ok.blt]; exact h1.keeps I.bk) ((h2 x hn).trans hv) h) hd
theorem JT {x:Str} {v:V} {u:Value} {pos:Pos} (hg:Gl X x) (hm:X.mg x=some u) (r:RelV v u) (hd:(x == ("__debug__":Str))=false:=by decide):PE X (.Name x pos) (tC v) :=
 fun _ _ _ H _ I h=>uT I hg hm ⟨v,H,I,r,h⟩ hd
theorem Ru {x:Str} {v:V} {u:Value} {pos:Pos} (hg:Gl X x) (hm:X.mg x=none) (hv:bootBuiltins x=some u) (r:RelV v u) (hn:x≠"__name__":=by decide) (hd:(x == ("__debug__":Str))=false:=by decide):PE X (.Name x pos) (tC v) :=
 fun _ _ _ H _ I h=>q9 I hg hm hv ⟨v,H,I,r,h⟩ hn hd
variable {a b:Expr} {ta tb:TE} {pos:Pos}
def PC (X:Cx) (op:CmpOp) (a b:Expr) (t:TE):Prop :=
 ∀ (pins:List (Addr×Obj)) (s:Shared) (σ:St) (H:Hp) (Q:VK),Inv X pins σ H s->t σ H Q ->
  wpAny (model X.prog X.w) X.A (eval a X.env) (fun v s₁=>wpAny (model X.prog X.w) X.A (eval b X.env) (fun u s₂=>wpAny (model X.prog X.w) X.A (compareOp op v u) (EP X pins σ Q) X.xe s₂) X.xe s₁) X.xe s
def tB (t:TE):TT:=fun σ H Q=>t σ H fun x H1=>∃ c,x=.bl c/\Q c H1
theorem VB {op:CmpOp} {t:TE} (h:PC X op a b t) (h1:behindInMarks op b=false:=by first | exact nobehind _ (by decide) (by decide) | rfl):PT X (.Compare a [op] [b] pos) (tB t):=by
 intro pins s σ H Q I hw
 refine wpAny_isTrue_Compare1 (thn (h pins s σ H _ I hw) fun v s1 h1=>thn h1 fun u s2 h2=>thn h2 fun c s3 ⟨x,H1,I1,r1,q1⟩=>?_) h1
 obtain ⟨d,rfl,q⟩:=q1
 cases r1
 exact wpAny_truthy_bool ⟨H1,I1,q⟩
theorem T3 {e:Expr} {t:TE} (h:PE X e t) (he:∀ whole,isTrue e X.env whole=(do let v ← whole; standAt e.pos; holding [v] (truthy v)):=by intro _; rfl):PT X e (tB t):=by
 intro pins s σ H Q I hw
 refine isTrue_plain (thn (h pins s σ H _ I hw) fun v s1 ⟨x,H1,I1,r1,q1⟩=>?_) (he _)
 obtain ⟨d,rfl,q⟩:=q1
 cases r1
 exact wpAny_truthy_bool ⟨H1,I1,q⟩
variable {tA tB':TT} {rest:List Expr}
def WX (t u:TT):TT:=fun σ H Q=>t σ H fun c H1=>if c=true then u σ H1 Q else Q false H1
def tOr (t u:TT):TT:=fun σ H Q=>t σ H fun c H1=>if c=true then Q true H1 else u σ H1 Q
def Xj (t:TT):TT:=fun σ H Q=>t σ H fun c H1=>Q (!c) H1
theorem vf (ha:PT X a tA):PW X (.BoolOp .And [a] pos) tA:=by
 intro wh pins s σ H Q I h
 refine isTrue_and (thn (ha pins s σ H Q I h) fun c s1 e=>?_)
 cases c with
 | true=>exact isTrue_and_nil e
 | false=>exact e
theorem Cr (ha:PT X a tA):PW X (.BoolOp .Or [a] pos) tA:=by
 intro wh pins s σ H Q I h
 refine isTrue_or (thn (ha pins s σ H Q I h) fun c s1 e=>?_)
 cases c with
 | false=>exact isTrue_or_nil e
 | true=>exact e
theorem yf (ha:PT X a tA) (hb:PW X (.BoolOp .And (b :: rest) pos) tB'):PW X (.BoolOp .And (a :: b :: rest) pos) (WX tA tB'):=by
 intro wh pins s σ H Q I h
 refine isTrue_and (thn (ha pins s σ H _ I h) fun c s1 ⟨H1,I1,q1⟩=>?_)
 cases c with
 | true=>exact hb wh pins s1 σ H1 Q I1 q1
 | false=>exact ⟨H1,I1,q1⟩
theorem Bo (ha:PT X a tA) (hb:PW X (.BoolOp .Or (b :: rest) pos) tB'):PW X (.BoolOp .Or (a :: b :: rest) pos) (tOr tA tB'):=by
 intro wh pins s σ H Q I h
 refine isTrue_or (thn (ha pins s σ H _ I h) fun c s1 ⟨H1,I1,q1⟩=>?_)
 cases c with
 | true=>exact ⟨H1,I1,q1⟩
 | false=>exact hb wh pins s1 σ H1 Q I1 q1
theorem tZ (ha:PT X a tA):PT X (.UnaryOp .Not a pos) (Xj tA):=by
 intro pins s σ H Q I h
 exact isTrue_not (ha pins s σ H (fun c H1=>Q (!c) H1) I h)
def Sy (ta tb:TE):TE:=fun σ H Q=>ta σ H fun x H1=>∃ c,x=.bl c/\if c=true then tb σ H1 Q else Q (.bl false) H1
def Xp (ta tb:TE):TE:=fun σ H Q=>ta σ H fun x H1=>∃ c,x=.bl c/\if c=true then Q (.bl true) H1 else tb σ H1 Q
def TF (ta:TE):TE:=fun σ H Q=>ta σ H fun x H1=>∃ c,x=.bl c/\Q (.bl (!c)) H1
theorem xR {op} {t:TE} (h:PE X a t):PE X (.BoolOp op [a] pos) t:=fun pins s σ H Q I hw=>BoolOp_one (h pins s σ H Q I hw)
theorem BP (ha:PE X a ta) (hb:PE X (.BoolOp .And (b :: rest) pos) tb):PE X (.BoolOp .And (a :: b :: rest) pos) (Sy ta tb):=by
 intro pins s σ H Q I h
 refine BoolOp_and (thn (ha pins s σ H _ I h) fun v s1 ⟨x,H1,I1,r1,q1⟩=>?_)
 obtain ⟨c,rfl,q1⟩:=q1
 cases r1
 refine wpAny_truthy_bool ?_
 cases c with
 | true=>exact hb pins s1 σ H1 Q I1 q1
 | false=>exact ⟨.bl false,H1,I1,rfl,q1⟩
theorem W2 (ha:PE X a ta) (hb:PE X (.BoolOp .Or (b :: rest) pos) tb):PE X (.BoolOp .Or (a :: b :: rest) pos) (Xp ta tb):=by
 intro pins s σ H Q I h
 refine BoolOp_or (thn (ha pins s σ H _ I h) fun v s1 ⟨x,H1,I1,r1,q1⟩=>?_)
 obtain ⟨c,rfl,q1⟩:=q1
 cases r1
 refine wpAny_truthy_bool ?_
 cases c with
 | false=>exact hb pins s1 σ H1 Q I1 q1
 | true=>exact ⟨.bl true,H1,I1,rfl,q1⟩
theorem Ox (ha:PE X a ta):PE X (.UnaryOp .Not a pos) (TF ta):=by
 intro pins s σ H Q I h
 refine UnaryOp_ (thn (ha pins s σ H _ I h) fun v s1 ⟨x,H1,I1,r1,q1⟩=>?_)
 obtain ⟨c,rfl,q1⟩:=q1
 cases r1
 exact not_of (wpAny_truthy_bool ⟨.bl (!c),H1,I1,rfl,q1⟩)
def tIf (t:TT) (ta tb:TE):TE:=fun σ H Q=>t σ H fun c H1=>if c=true then ta σ H1 Q else tb σ H1 Q
theorem DY {c:Expr} (hc:PT X c tA) (ha:PE X a ta) (hb:PE X b tb):PE X (.IfExp c a b pos) (tIf tA ta tb):=by
 intro pins s σ H Q I h
 refine wpAny_IfExp (thn (hc pins s σ H _ I h) fun d s1 ⟨H1,I1,q1⟩=>?_)
 cases d with
 | true=>exact ha pins s1 σ H1 Q I1 q1
 | false=>exact hb pins s1 σ H1 Q I1 q1
end
end L2
namespace L2
open PySem PySem.Spec PyProof.Rows
def SqL (K:PySem.W.Frag) (H:Hp) (a:Addr) (xs:List V):Prop :=
 Rd H a (.lst xs) ∨
  ∃ (o:Obj) (its:Array Value) (n:Nat),K.lookup a=some o/\o.cls=.type "list"/\o.dict=none/\o.data=.seq its n/\its.size<=sizeLine/\Vals xs its.toList
def SqT (K:PySem.W.Frag) (H:Hp) (a:Addr) (xs:List V):Prop :=
 Rd H a (.tup xs) ∨
  ∃ (o:Obj) (its:Array Value) (n:Nat),K.lookup a=some o/\o.cls=.type "tuple"/\o.data=.seq its n/\its.size<=sizeLine/\Vals xs its.toList
def Yk:Value->Option V
 | .none=>some .non
 | .bool b=>some (.bl b)
 | .int i _=>some (.int i)
 | .str x _=>some (.str x)
 | .bytes b _=>some (.byt b)
 | .float b _=>some (.flt b)
 | .ref a=>some (.ref a)
 | .type n=>some (.ty n)
 | _=>none
theorem RelV.abs {x:V} {u:Value} (r:RelV x u):Yk u=some x:=by
 cases x with
 | non=>cases r; rfl
 | bl _=>cases r; rfl
 | int _=>obtain ⟨t,rfl⟩:=r; rfl
 | str _=>obtain ⟨t,rfl⟩:=r; rfl
 | byt _=>obtain ⟨t,rfl⟩:=r; rfl
 | flt _=>obtain ⟨t,rfl⟩:=r; rfl
 | ref _=>cases r; rfl
 | ty _=>cases r; rfl
theorem RelV.inj {x y:V} {u:Value} (r:RelV x u) (q:RelV y u):x=y:=Option.some.inj (r.abs.symm.trans q.abs)
theorem Vals.inj:∀ {xs ys:List V} {us:List Value},Vals xs us->Vals ys us->xs=ys
 | _,_,_,.nil,.nil=>rfl
 | _,_,_,.cons r t,.cons r' t'=>by rw [r.inj r',Vals.inj t t']
section
variable {X:Cx} {pins:List (Addr×Obj)} {σ:St} {H:Hp} {s:Shared} {a:Addr} {xs ys:List V}
theorem SqL.of {K:PySem.W.Frag} (h:H a=some (.lst xs)):SqL K H a xs:=.inl (.inl h)
theorem SqT.of {K:PySem.W.Frag} (h:H a=some (.tup xs)):SqT K H a xs:=.inl (.inl h)
theorem Inv.list (I:Inv X pins σ H s) (h:SqL X.K H a xs):∃ its:List Value,Vals xs its/\PlainL s.heap a its.toArray/\xs.length<=sizeLine:=by
 rcases h with h | ⟨o,its,n,hk,hc,hd,hs,hz,r⟩
 ·obtain ⟨z,its,n,r,e⟩:=h.ok I.hok
  exact ⟨its,r,⟨_,n,e,rfl,rfl,rfl⟩,z⟩
 ·refine ⟨its.toList,r,⟨o,n,I.kIn a o hk,hc,hd,by simpa using hs⟩,?_⟩
  have e:=r.length
  simp only [Array.length_toList] at e
  omega
theorem Inv.tuple (I:Inv X pins σ H s) (h:SqT X.K H a xs):∃ its:List Value,Vals xs its/\IsTup s.heap a its.toArray/\xs.length<=sizeLine:=by
 rcases h with h | ⟨o,its,n,hk,hc,hs,hz,r⟩
 ·obtain ⟨z,its,r,p⟩:=h.ok I.hok
  exact ⟨its,r,p.tup,z⟩
 ·refine ⟨its.toList,r,⟨o,I.kIn a o hk,hc,n,by simpa using hs⟩,?_⟩
  have e:=r.length
  simp only [Array.length_toList] at e
  omega
theorem Inv.list_inj (I:Inv X pins σ H s) (h:SqL X.K H a xs) (h':SqL X.K H a ys):xs=ys:=by
 obtain ⟨its,r,⟨o,n,e,_,_,d⟩,_⟩:=I.list h
 obtain ⟨its',r',⟨o',n',e',_,_,d'⟩,_⟩:=I.list h'
 rw [e] at e'; cases e'
 rw [d] at d'
 injection d' with d1 _
 have:its=its':=by simpa using congrArg Array.toList d1
 subst this
 exact r.inj r'
theorem Inv.tuple_inj (I:Inv X pins σ H s) (h:SqT X.K H a xs) (h':SqT X.K H a ys):xs=ys:=by
 obtain ⟨its,r,⟨o,e,_,n,d⟩,_⟩:=I.tuple h
 obtain ⟨its',r',⟨o',e',_,n',d'⟩,_⟩:=I.tuple h'
 rw [e] at e'; cases e'
 rw [d] at d'
 injection d' with d1 _
 have:its=its':=by simpa using congrArg Array.toList d1
 subst this
 exact r.inj r'
end
abbrev Cx.wish (X:Cx) (E:Value->Shared->Prop):Cx:={ X with xe:=E }
abbrev Cx.nox (X:Cx):Cx:=X.wish fun _ _=>False
theorem Cx.Ok.wish {X:Cx} (ok:X.Ok) (E:Value->Shared->Prop):(X.wish E).Ok :=
 ⟨ok.mod,ok.kind,ok.glob,ok.blt,ok.above,ok.inj,ok.has,ok.cab,ok.hd,ok.frames,ok.stk,ok.exf,ok.bs,ok.bsz,ok.noex,ok.exfs,ok.funs,ok.frf⟩
theorem Cx.Ok.unwish {X:Cx} {E:Value->Shared->Prop} (ok:(X.wish E).Ok):X.Ok :=
 ⟨ok.mod,ok.kind,ok.glob,ok.blt,ok.above,ok.inj,ok.has,ok.cab,ok.hd,ok.frames,ok.stk,ok.exf,ok.bs,ok.bsz,ok.noex,ok.exfs,ok.funs,ok.frf⟩
section
variable {X:Cx} {pins:List (Addr×Obj)} {σ:St} {H:Hp} {s:Shared} {E:Value->Shared->Prop}
theorem Inv.wish (I:Inv X pins σ H s) (E:Value->Shared->Prop):Inv (X.wish E) pins σ H s:=⟨I.ok.wish E,I.os,I.bare,I.base,I.loc,I.cell,I.free,I.freeC,I.pin,I.hok,I.len⟩
theorem Inv.unwish (I:Inv (X.wish E) pins σ H s):Inv X pins σ H s:=⟨I.ok.unwish,I.os,I.bare,I.base,I.loc,I.cell,I.free,I.freeC,I.pin,I.hok,I.len⟩
theorem SP.unwish {D:Ends} {f:Flow} {s':Shared} (h:SP (X.wish E) pins D f s'):SP X pins D f s':=by
 cases f with
 | next=>obtain ⟨σ',H',I,q⟩:=h; exact ⟨σ',H',I.unwish,q⟩
 | brk=>obtain ⟨σ',H',I,q⟩:=h; exact ⟨σ',H',I.unwish,q⟩
 | cont=>obtain ⟨σ',H',I,q⟩:=h; exact ⟨σ',H',I.unwish,q⟩
 | ret u=>obtain ⟨v,σ',H',I,r,q⟩:=h; exact ⟨v,σ',H',I.unwish,r,q⟩
theorem PSs.nox {st:List Stmt} {t:TS} (h:PSs X.nox st t):PSs X st t:=fun pins s σ H D I hw =>
 wpAny_mono (h pins s σ H D (I.wish _) hw) (fun _ _ q=>q.unwish) fun _ _ z=>False.elim z
end
section
variable {X:Cx} {st:Stmt} {rest:List Stmt} {t u:TS} {e:Expr} {te:TE} {pos:Pos}
def JB:TS:=fun D σ H=>D.nx σ H
def yC (t u:TS):TS:=fun D σ H=>t { D with nx:=u D } σ H
theorem bJ:PSs X [] JB:=fun _ _ σ H _ I h=>wpAny_execs_nil ⟨σ,H,I,h⟩
theorem aj (h1:PS X st t) (h2:PSs X rest u):PSs X (st :: rest) (yC t u):=by
 intro pins s σ H D I h
 refine wpAny_execs_cons (thn (h1 pins s σ H { D with nx:=u D } I h) fun f s1 q=>?_)
 cases f with
 | next =>
  obtain ⟨σ',H',I',q⟩:=q
  exact h2 pins s1 σ' H' D I' q
 | ret v=>exact q
 | brk=>exact q
 | cont=>exact q
theorem aC (h1:PS X st t):PSs X [st] t:=by
 intro pins s σ H D I h
 refine wpAny_execs_cons (thn (h1 pins s σ H D I h) fun f s1 q=>?_)
 cases f with
 | next=>exact wpAny_execs_nil q
 | ret v=>exact q
 | brk=>exact q
 | cont=>exact q
theorem Inv.quiet {pins:List (Addr×Obj)} {σ:St} {H:Hp} {s:Shared} (I:Inv X pins σ H s):interactive X.env=false:=by simp [interactive,I.ok.kind]
def Pa (te:TE):TS:=fun D σ H=>te σ H fun _ H1=>D.nx σ H1
theorem jy (he:PE X e te) (hs:swapsWith e none pos.line X.env=pure false:=by rfl):PS X (.Expr e pos) (Pa te):=by
 intro pins s σ H D I h
 exact wpAny_Expr_any (thn (he pins s σ H _ I h) fun v s1 ⟨x,H1,I1,r1,q1⟩=>⟨σ,H1,I1,q1⟩) I.quiet hs
def U0 (te:TE):TS:=fun D σ H=>te σ H D.rt
theorem aU (he:PE X e te):PS X (.Return (some e) pos) (U0 te):=by
 intro pins s σ H D I h
 exact wpAny_Return_some (thn (he pins s σ H _ I h) fun v s1 ⟨x,H1,I1,r1,q1⟩=>⟨x,σ,H1,I1,r1,q1⟩)
def RL (c:TT) (t u:TS):TS:=fun D σ H=>c σ H fun b H1=>if b=true then t D σ H1 else u D σ H1
theorem dD {c:Expr} {a b:List Stmt} {tc:TT} (hc:PT X c tc) (ha:PSs X a t) (hb:PSs X b u):PS X (.If c a b pos) (RL tc t u):=by
 intro pins s σ H D I h
 refine wpAny_If (thn (hc pins s σ H _ I h) fun d s1 ⟨H1,I1,q1⟩=>?_)
 cases d with
 | true=>exact ha pins s1 σ H1 D I1 q1
 | false=>exact hb pins s1 σ H1 D I1 q1
def N8:TS:=fun _ _ _=>False
theorem Fq:PS X st N8:=fun _ _ _ _ _ _ h=>h.elim
end
abbrev TG:=V->St->Hp->(St->Hp->Prop)->Prop
abbrev TGs:=List V->St->Hp->(St->Hp->Prop)->Prop
def PG (X:Cx) (target:Expr) (t:TG):Prop :=
 ∀ (pins:List (Addr×Obj)) (s:Shared) (σ:St) (H:Hp) (v:V) (u:Value) (Q:St->Hp->Prop),Inv X pins σ H s->RelV v u->t v σ H Q ->
  wpAny (model X.prog X.w) X.A (assign target X.env u) (fun _ s'=>∃ σ' H',Inv X pins σ' H' s'/\Q σ' H') X.xe s
def PGs (X:Cx) (ts:List Expr) (t:TGs):Prop :=
 ∀ (pins:List (Addr×Obj)) (s:Shared) (σ:St) (H:Hp) (vs:List V) (us:List Value) (Q:St->Hp->Prop),Inv X pins σ H s->Vals vs us->t vs σ H Q ->
  wpAny (model X.prog X.w) X.A (assignInOrder ((assignEach ts X.env).map (·.2)) us) (fun _ s'=>∃ σ' H',Inv X pins σ' H' s'/\Q σ' H') X.xe s
section
variable {X:Cx} {pos:Pos}
def yj (i:Nat):TG:=fun v σ H Q=>Q (σ.set i (some v)) H
theorem aX {i:Nat} {x:Str} (hN:X.N.Nodup) (hi:X.N[i]?=some x) (hx:Loc X.env.scope x) (hf:X.fn x=true∨X.env.scope.names.lookup x=some .local:=by first | exact .inl rfl | exact .inr rfl | assumption):PG X (.Name x pos) (yj i):=by
 intro pins s σ H v u Q I r h
 exact wpAny_assign_Name (Gs I hN hi hx r (fun s' I'=>⟨_,H,I',h⟩) hf)
def V7:TGs:=fun vs σ H Q=>vs=[]/\Q σ H
def Ji (t:TG) (u:TGs):TGs:=fun vs σ H Q=>∃ v r,vs=v :: r/\t v σ H fun σ' H'=>u r σ' H' Q
theorem xJ:PGs X [] V7:=by
 intro pins s σ H vs us Q I r h
 obtain ⟨e,h⟩:=h
 subst e
 cases r
 exact assignInOrder_nil ⟨σ,H,I,h⟩
theorem jt {e:Expr} {es:List Expr} {t:TG} {u:TGs} (h1:PG X e t) (h2:PGs X es u)
  (hs:(assignEach (e :: es) X.env).map (·.2)=assign e X.env :: (assignEach es X.env).map (·.2):=by rfl):PGs X (e :: es) (Ji t u):=by
 intro pins s σ H vs us Q I r h
 obtain ⟨v,vr,e1,h⟩:=h
 subst e1
 cases r with
 | cons r rr =>
  rw [hs]
  refine assignInOrder_cons (thn (h1 pins s σ H _ _ _ I r h) fun _ s1 ⟨σ1,H1,I1,q1⟩=>?_)
  exact h2 pins s1 σ1 H1 _ _ Q I1 rr q1
def QV (K:PySem.W.Frag) (n:Nat) (t:TGs):TG:=fun v σ H Q=>∃ a xs,v=.ref a/\SqT K H a xs/\xs.length=n/\t xs σ H Q
theorem Vy {es:List Expr} {k:Nat} {t:TGs} {n:Nat} (hc:X.calm=true) (h:PGs X es t)
  (hn:(assignEach es X.env).length=n:=by rfl) (hst:(assignEach es X.env).findIdx? (·.1)=none:=by rfl):PG X (.Tuple es k pos) (QV X.K n t):=by
 intro pins s σ H v u Q I r hw
 obtain ⟨a,xs,e1,hq,hl,hw⟩:=hw
 subst e1
 cases r
 obtain ⟨its,rv,ht,hz⟩:=I.tuple hq
 refine assign_Tuple_tuple (I.ok.hd hc) ht (by simp [hn,← hl,rv.length]) hst fun h' hx=>?_
 have I1:Inv X pins σ H { s with heap:=h' }:=I.kept (t':=s.toks) fun b o e=>hx b o (Nat.ne_of_lt (Heap.lt_size e)) e
 exact h pins _ σ H xs _ Q I1 (by simpa using rv) hw
def Oo (te:TE) (g:TG):TS:=fun D σ H=>te σ H fun x H1=>g x σ H1 D.nx
theorem Um {tg e:Expr} {te:TE} {g:TG} (he:PE X e te) (hg:PG X tg g) (hs:swapsWithSole [tg] e pos.line X.env=pure false:=by rfl) (hw:swappedStores [tg] e X.env=pure none:=by rfl)
  (h1:(assignEach [tg] X.env).map (·.2)=[assign tg X.env]:=by rfl):PS X (.Assign [tg] e pos) (Oo te g):=by
 intro pins s σ H D I h
 refine wpAny_Assign_stores (thn (he pins s σ H _ I h) fun v s1 ⟨x,H1,I1,r1,q1⟩=>?_) hs hw
 rw [h1]
 exact thn (hg pins s1 σ H1 x v _ I1 r1 q1) fun _ s2 q=>q
theorem aM {i:Nat} {x:Str} {e:Expr} {te:TE} {pos':Pos} (hN:X.N.Nodup) (hi:X.N[i]?=some x) (hx:Loc X.env.scope x) (he:PE X e te) (hs:swapsWith e (some (.Name x pos')) pos.line X.env=pure false:=by rfl) (hf:X.fn x=true∨X.env.scope.names.lookup x=some .local:=by first | exact .inl rfl | exact .inr rfl | assumption) :
  PS X (.Assign [.Name x pos'] e pos) (Oo te (yj i)):=by
 intro pins s σ H D I h
 refine wpAny_Assign_Name (thn (he pins s σ H _ I h) fun v s1 ⟨y,H1,I1,r1,q1⟩=>?_) hs
 exact Gs I1 hN hi hx r1 (fun s2 I2=>⟨_,H1,I2,q1⟩) hf
end
section
variable {X:Cx} {pos:Pos}
def HJ (c:TT) (tb:TS):TS:=fun D σ H=>∃ W:Nat->St->Hp->Prop,(∃ m,W m σ H)/\∀ m σ H,W m σ H ->
 c σ H fun b H1=>if b=true then ∃ N:St->Hp->Prop,(∀ σ' H',N σ' H'->∃ m',m' < m/\W m' σ' H')/\tb { D with nx:=N,ct:=N,bk:=D.nx } σ H1 else D.nx σ H1
theorem uV {c:Expr} {body:List Stmt} {tc:TT} {tb:TS} (hp:PassesOwn (model X.prog X.w) X.A X.env X.xe) (hc:PT X c tc) (hb:PSs X body tb):PS X (.While c body [] pos) (HJ tc tb):=by
 intro pins s σ H D I h
 obtain ⟨W,⟨m0,w0⟩,turn⟩:=h
 refine wpAny_While (codeAny_whileLoop (fun n s'=>∃ σ' H',Inv X pins σ' H' s'/\W n σ' H') ?_ m0 ⟨σ,H,I,w0⟩)
 rintro n s1 ⟨σ1,H1,I1,w1⟩
 refine wpAny_passesOwn hp (thn (hc pins s1 σ1 H1 _ I1 (turn n σ1 H1 w1)) fun b s2 ⟨H2,I2,q2⟩=>?_)
 cases b with
 | true =>
  obtain ⟨N,hN,q2⟩:=q2
  rw [if_pos rfl]
  refine wpAny_passesOwn hp (thn (hb pins s2 σ1 H2 _ I2 q2) fun f s3 q3=>?_)
  cases f with
  | next =>
   obtain ⟨σ3,H3,I3,n3⟩:=q3
   obtain ⟨m',hm,w3⟩:=hN σ3 H3 n3
   exact ⟨m',hm,σ3,H3,I3,w3⟩
  | cont =>
   obtain ⟨σ3,H3,I3,n3⟩:=q3
   obtain ⟨m',hm,w3⟩:=hN σ3 H3 n3
   exact ⟨m',hm,σ3,H3,I3,w3⟩
  | brk=>exact q3
  | ret v=>exact q3
 | false =>
  rw [if_neg Bool.false_ne_true]
  exact wpAny_execs_nil ⟨σ1,H2,I2,q2⟩
end
structure It where
 go:Nat->Hp->Prop
 yld:Nat->Hp->V->Hp->Prop
 stop:Nat->Hp->Prop
def vL (X:Cx) (pins:List (Addr×Obj)) (H:Hp) (b:Addr):Prop :=
 H b=none/\b≠X.env.locals/\b∉X.fs/\(b∈X.ex∨X.s₀.heap.objs.size<=b)/\(∀ x c,X.env.cells.lookup x=some c->c≠b)/\∀ p∈X.pn ++ pins,p.1≠b
theorem Inv.fpOk {X:Cx} {pins:List (Addr×Obj)} {σ:St} {H H':Hp} {s:Shared} {b:Addr} (I:Inv X pins σ H s) (hb:s.heap.objs.size<=b) (hn:H' b=none):vL X pins H' b:=by
 refine ⟨hn,Nat.ne_of_gt (Nat.lt_of_lt_of_le I.lt hb),I.nofs hb,.inr (Nat.le_trans I.sz hb),fun x c e z=>?_,fun p hp z=>?_⟩
 ·obtain ⟨v,q⟩:=I.cell x c e
  exact absurd (Nat.lt_of_lt_of_le q.lt (by rw [z]; exact hb)) (Nat.lt_irrefl _)
 ·exact absurd (Nat.lt_of_lt_of_le (Heap.lt_size (I.pin p hp).1) (by rw [z]; exact hb)) (Nat.lt_irrefl _)
structure Turn (P:Program) (w:World) (K:PySem.W.Frag) (tg:Expr) (J:It) (fp:List Addr) (it:Addr) (tn:Nat->Heap->Prop):Prop where
 mem:it∈fp
 obj:∀ i h,tn i h->∀ b∈fp,∃ o,h.get? b=some o/\∀ v,o.data≠.cell v
 keep:∀ i h h',tn i h->(∀ b∈fp,∀ o,h.get? b=some o->h'.get? b=some o)->tn i h'
 item:∀ (X:Cx),X.prog=P->X.w=w->X.K=K->X.calm=true->∀ (i:Nat) (pins:List (Addr×Obj)) (s:Shared) (σ:St) (H:Hp) (E:Value->Shared->Prop),Inv X pins σ H s->(∀ b∈fp,vL X pins H b)->tn i s.heap->J.go i H ->
  wpAny (model P w) X.A (pyNext (.ref it)) (fun r s1=>∃ u,r=some u /\
   wpAny (model P w) X.A (letOwnedTupleGo tg (.ref it) u) (fun _ s2=>∃ x H',Inv X pins σ H' s2/\RelV x u/\J.yld i H x H'/\tn (i + 1) s2.heap/\∀ b∈fp,H' b=none) E s1) E s
 done:∀ (X:Cx),X.prog=P->X.w=w->X.K=K->X.calm=true->∀ (i:Nat) (pins:List (Addr×Obj)) (s:Shared) (σ:St) (H:Hp) (E:Value->Shared->Prop),Inv X pins σ H s->(∀ b∈fp,vL X pins H b)->tn i s.heap->J.stop i H ->
  wpAny (model P w) X.A (pyNext (.ref it)) (fun r s1=>r=none/\Inv X pins σ H s1) E s
 self:∀ (A:Around) (i:Nat) (s:Shared) (Q:Value->Shared->Prop) (E:Value->Shared->Prop),tn i s.heap->Q (.ref it) s->wpAny (model P w) A (pyIter (.ref it)) Q E s
abbrev TI:=St->Hp->(It->Hp->Prop)->Prop
def PIE (X:Cx) (pins:List (Addr×Obj)) (σ:St) (tg:Expr) (R:It->Hp->Prop) (itv:Value) (s2:Shared):Prop :=
 ∃ (it:Addr) (fp:List Addr) (tn:Nat->Heap->Prop) (J:It) (H':Hp),itv=.ref it/\Inv X pins σ H' s2/\Turn X.prog X.w X.K tg J fp it tn/\tn 0 s2.heap/\(∀ b∈fp,vL X pins H' b)/\R J H'
def PI (X:Cx) (tg iter:Expr) (wi:TI):Prop :=
 ∀ (pins:List (Addr×Obj)) (s:Shared) (σ:St) (H:Hp) (R:It->Hp->Prop),Inv X pins σ H s->wi σ H R ->
  wpAny (model X.prog X.w) X.A (eval iter X.env) (fun v s1=>wpAny (model X.prog X.w) X.A (pyIter v) (PIE X pins σ tg R) X.xe s1) X.xe s
theorem J1 {M:Model} {A:Around} {E:Value->Shared->Prop} {s:Shared} {tg:Expr} {it:Addr} {u:Value} {o:Obj} {n:String} {vs:Array Value} {Q:Unit->Shared->Prop} (ho:s.heap.get? it=some o) (hc:o.cls=.type n) (hd:o.data=.fields vs)
  (hn:["enumerate","zip","dict_itemiterator","dict_reverseitemiterator","odict_iterator","itertools.zip_longest","itertools.pairwise"].contains n=false) (hQ:Q () s):wpAny M A (letOwnedTupleGo tg (.ref it) u) Q E s:=by
 unfold letOwnedTupleGo
 cases tg <;> first
  | exact wpAny_pure hQ
  | (cases u <;> first
    | exact wpAny_pure hQ
    | (refine wpAny_bind (wpAny_load ho ?_)
       rw [hc,hd]
       show wpAny M A (if (["enumerate","zip","dict_itemiterator","dict_reverseitemiterator","odict_iterator","itertools.zip_longest","itertools.pairwise"].contains n && vs[0]? == some (rawInt _))=true then _ else _) Q E s
       rw [if_neg (by intro h; rw [hn,Bool.false_and] at h; cases h)]
       exact wpAny_pure hQ))
def Itl (K:PySem.W.Frag) (a:Addr):It :=
 ⟨fun i H=>∃ xs x,SqL K H a xs/\xs[i]?=some x,fun i H x H'=>H'=H/\∀ xs,SqL K H a xs->xs[i]?=some x,fun i H=>∃ xs,SqL K H a xs/\xs.length<=i⟩
def Itt (K:PySem.W.Frag) (a:Addr):It :=
 ⟨fun i H=>∃ xs x,SqT K H a xs/\xs[i]?=some x,fun i H x H'=>H'=H/\∀ xs,SqT K H a xs->xs[i]?=some x,fun i H=>∃ xs,SqT K H a xs/\xs.length<=i⟩
def Itr (lo:Int) (n:Nat):It:=⟨fun i _=>i < n,fun i H x H'=>H'=H/\x=.int (lo + i),fun i _=>n<=i⟩
theorem Ai {P:Program} {w:World} {K:PySem.W.Frag} {tg:Expr} (a it:Addr):Turn P w K tg (Itl K a) [it] it (fun i h=>h.IsListIter it a i) where
 mem:=by simp
 obj:=fun i h st b hb=>by
  have e:b=it:=by simpa using hb
  subst e
  obtain ⟨o,e,c,d⟩:=st
  exact ⟨o,e,fun v z=>by rw [d] at z; cases z⟩
 keep:=fun i h h' st k=>st.at fun o e=>k it (by simp) o e
 item:=by
  intro X hP hw hK hc i pins s σ H E I hf st hg
  subst hP hw hK
  obtain ⟨xs,x,hq,hx⟩:=hg
  obtain ⟨its,rv,p,hz⟩:=I.list hq
  obtain ⟨u,hu,ru⟩:=rv.get hx
  obtain ⟨f0,f1,f2,f3,f4,f5⟩:=hf it (by simp)
  refine wpAny_pyNext_list_item st p.isList (x:=u) (by simpa using hu) fun h' st' sb=>?_
  have I1:Inv X pins σ H { s with heap:=h' }:=I.turned (t':=s.toks) (fun b o hb e=>(sb.2 b hb).trans e) f0 f1 f3 f4 f5
  obtain ⟨o,e,c,d⟩:=id st'
  exact ⟨u,rfl,J1 (s:={ s with heap:=h' }) e c d (by decide) ⟨x,H,I1,ru,⟨rfl,fun ys hy=>by rw [I.list_inj hy hq]; exact hx⟩,st',fun b hb=>(hf b hb).1⟩⟩
 done:=by
  intro X hP hw hK hc i pins s σ H E I hf st hg
  subst hP hw hK
  obtain ⟨xs,hq,hx⟩:=hg
  obtain ⟨its,rv,p,hz⟩:=I.list hq
  obtain ⟨f0,f1,f2,f3,f4,f5⟩:=hf it (by simp)
  have hl:=rv.length
  exact wpAny_pyNext_list_end (I.ok.hd hc) st p.isList (by simp; omega) fun h' eb=>⟨rfl,I.turned (t':=s.toks) (fun b o hb e=>eb b o hb e) f0 f1 f3 f4 f5⟩
 self:=fun _ _ _ _ _ st h=>wpAny_pyIter_listiter st h
theorem yP {P:Program} {w:World} {K:PySem.W.Frag} {tg:Expr} (a it:Addr):Turn P w K tg (Itt K a) [it] it (fun i h=>h.IsTupleIter it a i) where
 mem:=by simp
 obj:=fun i h st b hb=>by
  have e:b=it:=by simpa using hb
  subst e
  obtain ⟨o,e,c,d⟩:=st
  exact ⟨o,e,fun v z=>by rw [d] at z; cases z⟩
 keep:=fun i h h' st k=>st.at fun o e=>k it (by simp) o e
 item:=by
  intro X hP hw hK hc i pins s σ H E I hf st hg
  subst hP hw hK
  obtain ⟨xs,x,hq,hx⟩:=hg
  obtain ⟨its,rv,p,hz⟩:=I.tuple hq
  obtain ⟨u,hu,ru⟩:=rv.get hx
  obtain ⟨f0,f1,f2,f3,f4,f5⟩:=hf it (by simp)
  refine wpAny_pyNext_tuple_item st (show s.heap.IsTuple a its.toArray from p) (x:=u) (by simpa using hu) fun h' st' sb=>?_
  have I1:Inv X pins σ H { s with heap:=h' }:=I.turned (t':=s.toks) (fun b o hb e=>(sb.2 b hb).trans e) f0 f1 f3 f4 f5
  obtain ⟨o,e,c,d⟩:=id st'
  exact ⟨u,rfl,J1 (s:={ s with heap:=h' }) e c d (by decide) ⟨x,H,I1,ru,⟨rfl,fun ys hy=>by rw [I.tuple_inj hy hq]; exact hx⟩,st',fun b hb=>(hf b hb).1⟩⟩
 done:=by
  intro X hP hw hK hc i pins s σ H E I hf st hg
  subst hP hw hK
  obtain ⟨xs,hq,hx⟩:=hg
  obtain ⟨its,rv,p,hz⟩:=I.tuple hq
  obtain ⟨f0,f1,f2,f3,f4,f5⟩:=hf it (by simp)
  have hl:=rv.length
  exact wpAny_pyNext_tuple_end (I.ok.hd hc) st (show s.heap.IsTuple a its.toArray from p) (by simp; omega) fun h' eb=>⟨rfl,I.turned (t':=s.toks) (fun b o hb e=>eb b o hb e) f0 f1 f3 f4 f5⟩
 self:=fun _ _ _ _ _ st h=>wpAny_pyIter_tupleiter st h
theorem Ij {P:Program} {w:World} {K:PySem.W.Frag} {tg:Expr} (it:Addr) (lo:Int) (n:Nat):Turn P w K tg (Itr lo n) [it] it (fun i h=>IsRangeIter h it (lo + (i:Nat) * 1) ((n:Int) - (i:Nat)) 1) where
 mem:=by simp
 obj:=fun i h st b hb=>by
  have e:b=it:=by simpa using hb
  subst e
  exact ⟨_,st,fun v z=>by
   have z':Data.fields _=Data.cell v:=z
   cases z'⟩
 keep:=fun i h h' st k=>k it (by simp) _ st
 item:=by
  intro X hP hw hK hc i pins s σ H E I hf st hg
  subst hP hw hK
  obtain ⟨f0,f1,f2,f3,f4,f5⟩:=hf it (by simp)
  have W:=Walks.range (prog:=X.prog) (w:=X.w) (I.ok.hd hc) it lo 1 n
  refine W.item i s _ _ hg st fun v h' tk hv st' kk=>?_
  obtain ⟨t,rfl⟩:=hv
  have I1:Inv X pins σ H { s with heap:=h',toks:=tk }:=I.turned (fun b o hb e=>kk b o (by simpa using hb) e) f0 f1 f3 f4 f5
  refine ⟨_,rfl,J1 (s:={ s with heap:=h',toks:=tk }) (n:="range_iterator") st' rfl rfl (by decide) ⟨.int (lo + i),H,I1,⟨t,?_⟩,⟨rfl,rfl⟩,st',fun b hb=>(hf b hb).1⟩⟩
  rw [Int.mul_one]
 done:=by
  intro X hP hw hK hc i pins s σ H E I hf st hg
  subst hP hw hK
  obtain ⟨f0,f1,f2,f3,f4,f5⟩:=hf it (by simp)
  exact wpAny_pyNext_range_end (I.ok.hd hc) st (by have:n<=i:=hg; omega) fun h' eb=>⟨rfl,I.turned (t':=s.toks) (fun b o hb e=>eb b o hb e) f0 f1 f3 f4 f5⟩
 self:=fun _ _ _ _ _ st h=>wpAny_pyIter_rangeiter st h
end L2
namespace L2
open PySem PySem.Spec PyProof.Rows
section
variable {X:Cx} {tg:Expr}
def PB (K:PySem.W.Frag) (tl:TE):TI:=fun σ H R=>tl σ H fun x H1=>∃ a,x=.ref a/\(∃ xs,SqL K H1 a xs)/\R (Itl K a) H1
def Ud (K:PySem.W.Frag) (tl:TE):TI:=fun σ H R=>tl σ H fun x H1=>∃ a,x=.ref a/\(∃ xs,SqT K H1 a xs)/\R (Itt K a) H1
theorem QL {l:Expr} {tl:TE} (hl:PE X l tl):PI X tg l (PB X.K tl):=by
 intro pins s σ H R I h
 refine thn (hl pins s σ H _ I h) fun v s1 ⟨x,H1,I1,r1,q1⟩=>?_
 obtain ⟨a,e,⟨xs,hq⟩,q⟩:=q1
 subst e
 cases r1
 obtain ⟨its,rv,p,hz⟩:=I1.list hq
 refine wpAny_pyIter_list p.isList ?_
 refine ⟨s1.heap.objs.size,[s1.heap.objs.size],_,_,H1,rfl,I1.kept (t':=s1.toks) fun b o e=>Heap.get?_push_of_some _ e,Ai a _,⟨_,Heap.get?_push_size _ rfl,rfl,rfl⟩,fun b hb=>?_,q⟩
 have e:b=s1.heap.objs.size:=by simpa using hb
 subst e
 exact I1.fpOk (Nat.le_refl _) (I1.hok.fresh (Nat.le_refl _))
theorem Vj {l:Expr} {tl:TE} (hl:PE X l tl):PI X tg l (Ud X.K tl):=by
 intro pins s σ H R I h
 refine thn (hl pins s σ H _ I h) fun v s1 ⟨x,H1,I1,r1,q1⟩=>?_
 obtain ⟨a,e,⟨xs,hq⟩,q⟩:=q1
 subst e
 cases r1
 obtain ⟨its,rv,p,hz⟩:=I1.tuple hq
 refine wpAny_pyIter_tuple (show s1.heap.IsTuple a its.toArray from p) ?_
 refine ⟨s1.heap.objs.size,[s1.heap.objs.size],_,_,H1,rfl,I1.kept (t':=s1.toks) fun b o e=>Heap.get?_push_of_some _ e,yP a _,⟨_,Heap.get?_push_size _ rfl,rfl,rfl⟩,fun b hb=>?_,q⟩
 have e:b=s1.heap.objs.size:=by simpa using hb
 subst e
 exact I1.fpOk (Nat.le_refl _) (I1.hok.fresh (Nat.le_refl _))
theorem Ob {pins:List (Addr×Obj)} {σ:St} {H:Hp} {s:Shared} {R:It->Hp->Prop} {E:Value->Shared->Prop} {lo hi:Int} {t u v:Tok} {tk:Nat} (I:Inv X pins σ H s) (h1:-(2 ^ 62)<=lo) (h2:lo < 2 ^ 62) (h3:-(2 ^ 62)<=hi) (h4:hi < 2 ^ 62)
  (q:R (Itr lo (hi - lo).toNat) H):wpAny (model X.prog X.w) X.A (pyIter (.ref s.heap.objs.size)) (PIE X pins σ tg R) E { s with heap:=s.heap.push { cls:=.type "range",data:=.fields #[.int lo t,.int hi u,.int 1 v] },toks:=tk }:=by
 refine wpAny_pyIter_range (IsRange.new ..) (small_one h1 h2 h3 h4) ?_
 have I1:Inv X pins σ H { s with heap:=s.heap.push { cls:=.type "range",data:=.fields #[.int lo t,.int hi u,.int 1 v] },toks:=tk }:=I.kept fun b o e=>Heap.get?_push_of_some _ e
 refine ⟨(s.heap.push { cls:=.type "range",data:=.fields #[.int lo t,.int hi u,.int 1 v] }).objs.size,[(s.heap.push { cls:=.type "range",data:=.fields #[.int lo t,.int hi u,.int 1 v] }).objs.size],_,_,H,rfl,
  I1.kept (t':=tk) fun b o e=>Heap.get?_push_of_some _ e,Ij _ lo (hi - lo).toNat,?_,fun b hb=>?_,q⟩
 ·have e1:lo + ((0:Nat):Int) * 1=lo:=by simp
  have e2:(((hi - lo).toNat:Nat):Int) - ((0:Nat):Int)=Builtin.Range.rangeSize lo hi 1:=by rw [rangeSize_one]; split <;> omega
  show IsRangeIter _ _ (lo + ((0:Nat):Int) * 1) ((((hi - lo).toNat:Nat):Int) - ((0:Nat):Int)) 1
  rw [e1,e2]
  exact Heap.get?_push_size _ rfl
 ·have e:b=(s.heap.push { cls:=.type "range",data:=.fields #[.int lo t,.int hi u,.int 1 v] }).objs.size:=by simpa using hb
  subst e
  exact I1.fpOk (Nat.le_refl _) (I1.hok.fresh (Nat.le_refl _))
def Tp (ta:TA):TI:=fun σ H R=>ta σ H fun vs H1=>∃ j:Int,vs=[.int j]/\-(2 ^ 62)<=j/\j < 2 ^ 62/\R (Itr 0 j.toNat) H1
theorem jU {a:Expr} {ta:TA} {p pos:Pos} (hg:Gl X "range") (hm:X.mg "range"=none) (ha:PA X [a] ta) (hs:starEach [a] X.env=[(false,eval a X.env)]:=by rfl):PI X tg (.Call (.Name "range" p) [a] [] pos) (Tp ta):=by
 intro pins s σ H R I h
 refine Call_ (q9 I hg hm boot_range (PyProof.Rows.callWith_type1 (thn (ha pos pins s σ H _ I h) fun us s1 ⟨vs,H1,I1,r1,q1⟩=>?_) hs rfl))
 obtain ⟨j,e,q1,q2,q⟩:=q1
 subst e
 cases r1 with
 | cons r rr =>
  cases rr
  obtain ⟨t,rfl⟩:=r
  exact call_range_1 (Ob I1 (by omega) (by omega) q1 q2 (by simpa using q))
def RQ (wi:TI) (g:TG) (tb:TS):TS:=fun D σ H=>wi σ H fun J H1=>∃ W:Nat->Nat->St->Hp->Prop,(∃ m,W 0 m σ H1)/\∀ i m σ H,W i m σ H ->
 (J.stop i H/\D.nx σ H)∨(J.go i H/\∃ N:St->Hp->Prop,(∀ σ' H',N σ' H'->∃ m',m' < m/\W (i + 1) m' σ' H')/\∀ x H',J.yld i H x H'->g x σ H' fun σ2 H2=>tb { D with nx:=N,ct:=N,bk:=D.nx } σ2 H2)
def vP (fp:List Addr) (h:Heap):List (Addr×Obj):=fp.filterMap fun b=>(h.get? b).map fun o=>(b,o)
theorem jQ {fp:List Addr} {h:Heap} {b:Addr} {o:Obj} (hb:b∈fp) (e:h.get? b=some o):(b,o)∈vP fp h:=List.mem_filterMap.mpr ⟨b,hb,by rw [e]; rfl⟩
theorem Lp {fp:List Addr} {h:Heap} {p:Addr×Obj} (hp:p∈vP fp h):p.1∈fp/\h.get? p.1=some p.2:=by
 obtain ⟨b,hb,e⟩:=List.mem_filterMap.mp hp
 cases q:h.get? b with
 | none=>rw [q] at e; cases e
 | some o =>
  rw [q] at e
  have e':(b,o)=p:=Option.some.inj e
  subst e'
  exact ⟨hb,q⟩
theorem Inv.pinned {pins:List (Addr×Obj)} {σ:St} {H:Hp} {s:Shared} {fp:List Addr} (I:Inv X pins σ H s) (hf:∀ b∈fp,vL X pins H b) (ho:∀ b∈fp,∃ o,s.heap.get? b=some o/\∀ v,o.data≠.cell v):Inv X (pins ++ vP fp s.heap) σ H s :=
 I.pins_of fun p hp=>(List.mem_append.mp hp).elim (fun z=>I.pin p (List.mem_append_right _ z)) fun z=>by
  obtain ⟨hb,e⟩:=Lp z
  obtain ⟨f0,f1,f2,_⟩:=hf p.1 hb
  obtain ⟨o,e',d⟩:=ho p.1 hb
  rw [e] at e'; cases e'
  exact ⟨e,f0,f1,f2,d⟩
theorem Inv.unpinned {pins pl:List (Addr×Obj)} {σ:St} {H:Hp} {s:Shared} (I:Inv X (pins ++ pl) σ H s):Inv X pins σ H s:=I.pins_of fun p hp=>I.pin p (List.mem_append_right _ (List.mem_append_left _ hp))
theorem cP {iter:Expr} {body:List Stmt} {wi:TI} {g:TG} {tb:TS} {pos:Pos} (hp:PassesOwn (model X.prog X.w) X.A X.env X.xe) (hc:X.calm=true) (hi:PI X tg iter wi) (hg:PG X tg g) (hb:PSs X body tb)
  (hs:∀ x,foldedSetIterable iter X.env x=pure x:=by intro _; rfl):PS X (.For tg iter body [] pos) (RQ wi g tb):=by
 intro pins s σ H D I h
 refine wpAny_For (thn (hi pins s σ H _ I h) fun v s1 h1=>thn h1 fun itv s2 h2=>?_) hs
 obtain ⟨it,fp,tn,J,H2,e,I2,T,st2,f2,W,⟨m0,w0⟩,turn⟩:=h2
 subst e
 -- what stays true of the iterator's objects through the loop
 have stat:∀ {H':Hp},(∀ b∈fp,H' b=none)->∀ b∈fp,vL X pins H' b:=fun hn b hb=>⟨hn b hb,(f2 b hb).2⟩
 refine codeAny_forLoop_any (fun n s'=>∃ i σ' H',Inv X pins σ' H' s'/\tn i s'.heap/\(∀ b∈fp,H' b=none)/\W i n σ' H') ?_ m0 ⟨0,σ,H2,I2,st2,fun b hb=>(f2 b hb).1,w0⟩
 rintro n s3 ⟨i,σ3,H3,I3,st3,fr3,w3⟩
 rcases turn i n σ3 H3 w3 with ⟨stop,qn⟩ | ⟨go,N,hN,step⟩
 ·refine wpAny_passesOwn hp (thn (T.done X rfl rfl rfl hc i pins s3 σ3 H3 X.xe I3 (stat fr3) st3 stop) fun r s4 ⟨hr,I4⟩=>?_)
  subst hr
  exact wpAny_execs_nil ⟨σ3,H3,I4,qn⟩
 ·refine wpAny_passesOwn hp (thn (T.item X rfl rfl rfl hc i pins s3 σ3 H3 X.xe I3 (stat fr3) st3 go) fun r s4 ⟨u,hr,h4⟩=>?_)
  subst hr
  refine wpAny_passesOwn hp (thn h4 fun _ s5 ⟨x,H5,I5,r5,y5,st5,fr5⟩=>?_)
  have I5':=I5.pinned (stat fr5) (T.obj _ _ st5)
  refine wpAny_passesOwn hp (thn (hg _ s5 σ3 H5 x u _ I5' r5 (step x H5 y5)) fun _ s6 ⟨σ6,H6,I6,q6⟩=>?_)
  refine wpAny_passesOwn hp (thn (hb _ s6 σ6 H6 _ I6 q6) fun f s7 q7=>?_)
  have again:∀ {σ7:St} {H7:Hp},Inv X (pins ++ vP fp s5.heap) σ7 H7 s7->N σ7 H7->∃ m,m < n/\∃ i σ' H',Inv X pins σ' H' s7/\tn i s7.heap/\(∀ b∈fp,H' b=none)/\W i m σ' H':=fun {σ7 H7} I7 n7=>by
   obtain ⟨m',hm,w7⟩:=hN σ7 H7 n7
   refine ⟨m',hm,i + 1,σ7,H7,I7.unpinned,T.keep _ _ _ st5 fun b hb o e=>(I7.pin (b,o) (List.mem_append_right _ (List.mem_append_right _ (jQ hb e)))).1,fun b hb=>?_,w7⟩
   obtain ⟨o,e,d⟩:=T.obj _ _ st5 b hb
   exact (I7.pin (b,o) (List.mem_append_right _ (List.mem_append_right _ (jQ hb e)))).2.1
  cases f with
  | next=>obtain ⟨σ7,H7,I7,n7⟩:=q7; exact again I7 n7
  | cont=>obtain ⟨σ7,H7,I7,n7⟩:=q7; exact again I7 n7
  | brk=>obtain ⟨σ7,H7,I7,q7⟩:=q7; exact ⟨σ7,H7,I7.unpinned,q7⟩
  | ret v=>obtain ⟨x7,σ7,H7,I7,r7,q7⟩:=q7; exact ⟨x7,σ7,H7,I7.unpinned,r7,q7⟩
end
theorem fL {K:PySem.W.Frag} {a:Addr} {xs:List V} {g:TG} {tb:TS} {D:Ends} {σ:St} {H:Hp} (Pv:Nat->St->Hp->Prop) (h0:Pv 0 σ H) (hl:∀ i σ H,i<=xs.length->Pv i σ H->SqL K H a xs)
  (hs:∀ i x σ H,xs[i]?=some x->Pv i σ H->g x σ H fun σ2 H2=>tb { D with nx:=Pv (i + 1),ct:=Pv (i + 1),bk:=D.nx } σ2 H2) (hd:∀ σ H,Pv xs.length σ H->D.nx σ H) :
  ∃ W:Nat->Nat->St->Hp->Prop,(∃ m,W 0 m σ H)/\∀ i m σ H,W i m σ H ->
   ((Itl K a).stop i H/\D.nx σ H)∨((Itl K a).go i H/\∃ N:St->Hp->Prop,(∀ σ' H',N σ' H'->∃ m',m' < m/\W (i + 1) m' σ' H')/\∀ x H',(Itl K a).yld i H x H'->g x σ H' fun σ2 H2=>tb { D with nx:=N,ct:=N,bk:=D.nx } σ2 H2):=by
 refine ⟨fun i m σ H=>m=xs.length - i/\i<=xs.length/\Pv i σ H,⟨xs.length,by simp,Nat.zero_le _,h0⟩,?_⟩
 rintro i m σ H ⟨rfl,hi,p⟩
 have q:=hl i σ H hi p
 by_cases hlt:i < xs.length
 ·refine .inr ⟨⟨xs,xs[i],q,by simp [hlt]⟩,Pv (i + 1),fun σ' H' p'=>⟨xs.length - (i + 1),by omega,rfl,hlt,p'⟩,fun x H' y=>?_⟩
  obtain ⟨e,y⟩:=y
  subst e
  exact hs i x σ _ (y xs q) p
 ·have e:i=xs.length:=by omega
  subst e
  exact .inl ⟨⟨xs,q,Nat.le_refl _⟩,hd σ H p⟩
theorem uL {K:PySem.W.Frag} {a:Addr} {xs:List V} {g:TG} {tb:TS} {D:Ends} {σ:St} {H:Hp} (Pv:Nat->St->Hp->Prop) (h0:Pv 0 σ H) (hl:∀ i σ H,i<=xs.length->Pv i σ H->SqT K H a xs)
  (hs:∀ i x σ H,xs[i]?=some x->Pv i σ H->g x σ H fun σ2 H2=>tb { D with nx:=Pv (i + 1),ct:=Pv (i + 1),bk:=D.nx } σ2 H2) (hd:∀ σ H,Pv xs.length σ H->D.nx σ H) :
  ∃ W:Nat->Nat->St->Hp->Prop,(∃ m,W 0 m σ H)/\∀ i m σ H,W i m σ H ->
   ((Itt K a).stop i H/\D.nx σ H)∨((Itt K a).go i H/\∃ N:St->Hp->Prop,(∀ σ' H',N σ' H'->∃ m',m' < m/\W (i + 1) m' σ' H')/\∀ x H',(Itt K a).yld i H x H'->g x σ H' fun σ2 H2=>tb { D with nx:=N,ct:=N,bk:=D.nx } σ2 H2):=by
 refine ⟨fun i m σ H=>m=xs.length - i/\i<=xs.length/\Pv i σ H,⟨xs.length,by simp,Nat.zero_le _,h0⟩,?_⟩
 rintro i m σ H ⟨rfl,hi,p⟩
 have q:=hl i σ H hi p
 by_cases hlt:i < xs.length
 ·refine .inr ⟨⟨xs,xs[i],q,by simp [hlt]⟩,Pv (i + 1),fun σ' H' p'=>⟨xs.length - (i + 1),by omega,rfl,hlt,p'⟩,fun x H' y=>?_⟩
  obtain ⟨e,y⟩:=y
  subst e
  exact hs i x σ _ (y xs q) p
 ·have e:i=xs.length:=by omega
  subst e
  exact .inl ⟨⟨xs,q,Nat.le_refl _⟩,hd σ H p⟩
theorem mJ {lo:Int} {n:Nat} {g:TG} {tb:TS} {D:Ends} {σ:St} {H:Hp} (Pv:Nat->St->Hp->Prop) (h0:Pv 0 σ H)
  (hs:∀ i σ H,i < n->Pv i σ H->g (.int (lo + i)) σ H fun σ2 H2=>tb { D with nx:=Pv (i + 1),ct:=Pv (i + 1),bk:=D.nx } σ2 H2) (hd:∀ σ H,Pv n σ H->D.nx σ H) :
  ∃ W:Nat->Nat->St->Hp->Prop,(∃ m,W 0 m σ H)/\∀ i m σ H,W i m σ H ->
   ((Itr lo n).stop i H/\D.nx σ H)∨((Itr lo n).go i H/\∃ N:St->Hp->Prop,(∀ σ' H',N σ' H'->∃ m',m' < m/\W (i + 1) m' σ' H')/\∀ x H',(Itr lo n).yld i H x H'->g x σ H' fun σ2 H2=>tb { D with nx:=N,ct:=N,bk:=D.nx } σ2 H2):=by
 refine ⟨fun i m σ H=>m=n - i/\i<=n/\Pv i σ H,⟨n,by simp,Nat.zero_le _,h0⟩,?_⟩
 rintro i m σ H ⟨rfl,hi,p⟩
 by_cases hlt:i < n
 ·refine .inr ⟨hlt,Pv (i + 1),fun σ' H' p'=>⟨n - (i + 1),by omega,rfl,hlt,p'⟩,fun x H' y=>?_⟩
  obtain ⟨e,y⟩:=y
  subst e y
  exact hs i σ _ hlt p
 ·have e:i=n:=by omega
  subst e
  exact .inl ⟨Nat.le_refl _,hd σ H p⟩
end L2
namespace L2
open PySem PySem.Spec PyProof.Rows
abbrev R2:=V->V->Hp->VK->Prop
def OpR (X:Cx) (f:Value->Value->Sem Value) (r:R2):Prop :=
 ∀ (pins:List (Addr×Obj)) (s:Shared) (σ:St) (H:Hp) (x y:V) (v u:Value) (Q:VK),Inv X pins σ H s->RelV x v->RelV y u->r x y H Q ->
  wpAny (model X.prog X.w) X.A (f v u) (EP X pins σ Q) X.xe s
def UnR (X:Cx) (f:Value->Sem Value) (r:V->Hp->VK->Prop):Prop :=
 ∀ (pins:List (Addr×Obj)) (s:Shared) (σ:St) (H:Hp) (x:V) (v:Value) (Q:VK),Inv X pins σ H s->RelV x v->r x H Q ->
  wpAny (model X.prog X.w) X.A (f v) (EP X pins σ Q) X.xe s
def gC (X:Cx) (f:Value) (r:List V->Hp->VK->Prop):Prop :=
 ∀ (pins:List (Addr×Obj)) (s:Shared) (σ:St) (H:Hp) (xs:List V) (us:List Value) (Q:VK),Inv X pins σ H s->Vals xs us->r xs H Q ->
  wpAny (model X.prog X.w) X.A (call f us) (EP X pins σ Q) X.xe s
def Yh (X:Cx) (r:V->Hp->(Bool->Hp->Prop)->Prop):Prop :=
 ∀ (pins:List (Addr×Obj)) (s:Shared) (σ:St) (H:Hp) (x:V) (v:Value) (Q:Bool->Hp->Prop),Inv X pins σ H s->RelV x v->r x H Q ->
  wpAny (model X.prog X.w) X.A (truthy v) (TP X pins σ Q) X.xe s
def tOp (r:R2) (ta tb:TE):TE:=fun σ H Q=>ta σ H fun x H1=>tb σ H1 fun y H2=>r x y H2 Q
def tUn (r:V->Hp->VK->Prop) (ta:TE):TE:=fun σ H Q=>ta σ H fun x H1=>r x H1 Q
def rI (C:Int->Int->Prop) (g:Int->Int->V):R2:=fun x y H Q=>∃ i j,x=.int i/\y=.int j/\C i j/\Q (g i j) H
def rI0 (g:Int->Int->V):R2:=fun x y H Q=>∃ i j,x=.int i/\y=.int j/\Q (g i j) H
def rU (g:Int->V):V->Hp->VK->Prop:=fun x H Q=>∃ i,x=.int i/\Q (g i) H
section
variable {X:Cx} {a b c:Expr} {ta tb tc:TE} {pos:Pos}
theorem Vb (ha:PE X a ta) (hb:PE X b tb) {pins:List (Addr×Obj)} {s:Shared} {σ:St} {H:Hp} {R:V->V->Hp->Prop} (I:Inv X pins σ H s)
  (h:ta σ H fun x H1=>tb σ H1 fun y H2=>R x y H2) {Q:Value->Shared->Prop} {f:Value->Value->Sem Value}
  (hf:∀ v u s2 x y H2,Inv X pins σ H2 s2->RelV x v->RelV y u->R x y H2->wpAny (model X.prog X.w) X.A (f v u) Q X.xe s2) :
  wpAny (model X.prog X.w) X.A (eval a X.env) (fun v s₁=>wpAny (model X.prog X.w) X.A (eval b X.env) (fun u s₂=>wpAny (model X.prog X.w) X.A (f v u) Q X.xe s₂) X.xe s₁) X.xe s:=by
 refine thn (ha pins s σ H _ I h) fun v s1 ⟨x,H1,I1,r1,q1⟩=>?_
 refine thn (hb pins s1 σ H1 _ I1 q1) fun u s2 ⟨y,H2,I2,r2,q2⟩=>?_
 exact hf v u s2 x y H2 I2 r1 r2 q2
theorem aR {op:Operator} {r:R2} (ho:OpR X (binaryOp op) r) (ha:PE X a ta) (hb:PE X b tb):PE X (.BinOp a op b pos) (tOp r ta tb):=by
 intro pins s σ H Q I h
 exact wpAny_BinOp (Vb ha hb I h fun v u s2 x y H2 I2 rx ry q=>ho pins s2 σ H2 x y v u Q I2 rx ry q)
theorem Th {op:UnaryOp} {r:V->Hp->VK->Prop} (ho:UnR X (unaryOp op) r) (ha:PE X a ta):PE X (.UnaryOp op a pos) (tUn r ta):=by
 intro pins s σ H Q I h
 exact UnaryOp_ (thn (ha pins s σ H _ I h) fun v s1 ⟨x,H1,I1,r1,q1⟩=>ho pins s1 σ H1 x v Q I1 r1 q1)
theorem opI {f:Value->Value->Sem Value} {C:Int->Int->Prop} {g:Int->Int->Int}
  (rule:∀ (i j:Int) (t u:Tok) (s:Shared) (Q:Value->Shared->Prop) (E:Value->Shared->Prop),C i j->Q (.int (g i j) s.toks) { s with toks:=s.toks + 1 }->wpAny (model X.prog X.w) X.A (f (.int i t) (.int j u)) Q E s) :
  OpR X f (rI C fun i j=>.int (g i j)):=by
 intro pins s σ H x y v u Q I rx ry h
 obtain ⟨i,j,rfl,rfl,hc,q⟩:=h
 obtain ⟨t,rfl⟩:=rx
 obtain ⟨t',rfl⟩:=ry
 exact rule i j t t' s _ _ hc ⟨.int (g i j),H,I.tok _,⟨_,rfl⟩,q⟩
theorem RP {f:Value->Value->Sem Value} {g:Int->Int->Int}
  (rule:∀ (i j:Int) (t u:Tok) (s:Shared) (Q:Value->Shared->Prop) (E:Value->Shared->Prop),Q (.int (g i j) s.toks) { s with toks:=s.toks + 1 }->wpAny (model X.prog X.w) X.A (f (.int i t) (.int j u)) Q E s) :
  OpR X f (rI0 fun i j=>.int (g i j)):=by
 intro pins s σ H x y v u Q I rx ry h
 obtain ⟨i,j,rfl,rfl,q⟩:=h
 obtain ⟨t,rfl⟩:=rx
 obtain ⟨t',rfl⟩:=ry
 exact rule i j t t' s _ _ ⟨.int (g i j),H,I.tok _,⟨_,rfl⟩,q⟩
theorem V3 {f:Value->Value->Sem Value} {g:Int->Int->Bool}
  (rule:∀ (i j:Int) (t u:Tok) (s:Shared) (Q:Value->Shared->Prop) (E:Value->Shared->Prop),Q (.bool (g i j)) s->wpAny (model X.prog X.w) X.A (f (.int i t) (.int j u)) Q E s) :
  OpR X f (rI0 fun i j=>.bl (g i j)):=by
 intro pins s σ H x y v u Q I rx ry h
 obtain ⟨i,j,rfl,rfl,q⟩:=h
 obtain ⟨t,rfl⟩:=rx
 obtain ⟨t',rfl⟩:=ry
 exact rule i j t t' s _ _ ⟨.bl (g i j),H,I,rfl,q⟩
def Yi (i j:Int):Prop:=0 < j/\j < 1073741824
def U9 (i j:Int):Prop:=0<=j/\j<=1000000/\i.natAbs < 2 ^ 64
def CMul (i j:Int):Prop:=(-(2 ^ 64) < i/\i < 2 ^ 64)∨(-(2 ^ 64) < j/\j < 2 ^ 64)
theorem CMul.ok {i j:Int} (h:CMul i j):IntMulOk i j:=by
 rcases h with ⟨h1,h2⟩ | ⟨h1,h2⟩
 ·exact .of_left (intBits_le_64 h1 h2)
 ·exact .of_right (intBits_le_64 h1 h2)
theorem cB:OpR X (binaryOp .Add) (rI0 fun i j=>.int (i + j)):=RP fun _ _ _ _ _ _ _ q=>add_int q
theorem Hb:OpR X (binaryOp .Sub) (rI0 fun i j=>.int (i - j)):=RP fun _ _ _ _ _ _ _ q=>sub_int q
theorem qG:OpR X (binaryOp .Mult) (rI CMul fun i j=>.int (i * j)):=opI fun _ _ _ _ _ _ _ hc q=>mul_int q hc.ok
theorem j9:OpR X (binaryOp .FloorDiv) (rI Yi fun i j=>.int (i / j)):=opI fun i j _ _ _ _ _ hc q=>by
 have h1:(0:Int) < j:=hc.1
 have h2:j < 1073741824:=hc.2
 exact floordiv_int (by omega) (by rw [Int.fdiv_eq_ediv_of_nonneg i (by omega)]; exact q) (.inl (PyProof.noPylong_small (by omega)))
theorem cj:OpR X (binaryOp .Mod) (rI (fun _ j=>0 < j) fun i j=>.int (i % j)):=opI fun i j _ _ _ _ _ hc q=>by
 have h1:(0:Int) < j:=hc
 exact mod_int' (by omega) (by rw [Int.fmod_eq_emod_of_nonneg i (by omega)]; exact q)
theorem vY:OpR X (binaryOp .Pow) (rI U9 fun i j=>.int (i ^ j.toNat)):=opI fun _ _ _ _ _ _ _ hc q=>pow_int_small hc.1 hc.2.1 hc.2.2 q
theorem Nf:OpR X (binaryOp .LShift) (rI U9 fun i j=>.int (i * 2 ^ j.toNat)):=opI fun _ _ _ _ _ _ _ hc q=>lshift_int_small hc.1 hc.2.1 hc.2.2 q
theorem Vd:OpR X (binaryOp .BitAnd) (rI0 fun i j=>.int (Builtin.bitAnd i j)):=RP fun _ _ _ _ _ _ _ q=>and_int q
theorem Nh:OpR X (binaryOp .BitOr) (rI0 fun i j=>.int (Builtin.bitOr i j)):=RP fun _ _ _ _ _ _ _ q=>or_int q
theorem unI {f:Value->Sem Value} {g:Int->Int}
  (rule:∀ (i:Int) (t:Tok) (s:Shared) (Q:Value->Shared->Prop) (E:Value->Shared->Prop),Q (.int (g i) s.toks) { s with toks:=s.toks + 1 }->wpAny (model X.prog X.w) X.A (f (.int i t)) Q E s) :
  UnR X f (rU fun i=>.int (g i)):=by
 intro pins s σ H x v Q I rx h
 obtain ⟨i,rfl,q⟩:=h
 obtain ⟨t,rfl⟩:=rx
 exact rule i t s _ _ ⟨.int (g i),H,I.tok _,⟨_,rfl⟩,q⟩
theorem Uq:UnR X (unaryOp .USub) (rU fun i=>.int (-i)):=unI fun _ _ _ _ _ q=>neg_int q
theorem VV:UnR X (unaryOp .Invert) (rU fun i=>.int (Builtin.bitNot i)):=unI fun _ _ _ _ _ q=>invert_int q
end
def X4:V->V->Bool
 | .non,.non=>true | .non,.int _=>true | .int _,.non=>true | .non,.bl _=>true | .bl _,.non=>true | .non,.str _=>true | .str _,.non=>true
 | .int _,.int _=>true | .bl _,.bl _=>true | .str _,.str _=>true | .byt _,.byt _=>true
 | .int _,.str _=>true | .str _,.int _=>true | .bl _,.str _=>true | .str _,.bl _=>true
 | _,_=>false
def rEq:R2:=fun x y H Q=>X4 x y=true/\Q (.bl (decide (x=y))) H
def rNe:R2:=fun x y H Q=>X4 x y=true/\Q (.bl (!decide (x=y))) H
theorem Ju {i j:Int}:decide (V.int i=V.int j)=(i == j):=by
 rw [Bool.eq_iff_iff]
 simp
theorem Qo {i j:Bool}:decide (V.bl i=V.bl j)=(i == j):=by
 rw [Bool.eq_iff_iff]
 simp
theorem JV {i j:Str}:decide (V.str i=V.str j)=(i == j):=by
 rw [Bool.eq_iff_iff]
 simp
theorem Jx {i j:Array UInt8}:decide (V.byt i=V.byt j)=(i.toList == j.toList):=by
 rw [Bool.eq_iff_iff]
 cases i
 cases j
 simp
section
variable {X:Cx} {a b c:Expr} {ta tb tc:TE} {pos:Pos}
theorem bU {pins:List (Addr×Obj)} {σ:St} {H:Hp} {s:Shared} {Q:VK} {k k':Bool} (I:Inv X pins σ H s) (q:Q (.bl k) H) (e:k=k'):EP X pins σ Q (.bool k') s:=by
 subst e
 exact ⟨.bl k,H,I,rfl,q⟩
theorem sO:OpR X (compareOp .Eq) rEq:=by
 intro pins s σ H x y v u Q I rx ry h
 obtain ⟨hs,q⟩:=h
 cases x with
 | non =>
  cases rx
  cases y with
  | non=>cases ry; exact PySem.EqNone.eq_none_none (bU I q (by simp))
  | bl j=>cases ry; exact PySem.EqNone.eq_none_bool (bU I q (by simp))
  | int j=>obtain ⟨t',rfl⟩:=ry; exact PySem.EqNone.eq_none_int (bU I q (by simp))
  | str j=>obtain ⟨t',rfl⟩:=ry; exact PySem.EqNone.eq_none_str (bU I q (by simp))
  | _=>exact absurd (show false=true from hs) Bool.false_ne_true
 | bl i =>
  cases rx
  cases y with
  | non=>cases ry; exact PySem.EqNone.eq_bool_none (bU I q (by simp))
  | bl j=>cases ry; exact eq_bool (bU I q Qo)
  | str j=>obtain ⟨t',rfl⟩:=ry; exact PySem.EqMixed.eq_bool_str (bU I q (by simp))
  | _=>exact absurd (show false=true from hs) Bool.false_ne_true
 | int i =>
  obtain ⟨t,rfl⟩:=rx
  cases y with
  | non=>cases ry; exact PySem.EqNone.eq_int_none (bU I q (by simp))
  | int j=>obtain ⟨t',rfl⟩:=ry; exact eq_int (bU I q Ju)
  | str j=>obtain ⟨t',rfl⟩:=ry; exact PySem.EqMixed.eq_int_str (bU I q (by simp))
  | _=>exact absurd (show false=true from hs) Bool.false_ne_true
 | str i =>
  obtain ⟨t,rfl⟩:=rx
  cases y with
  | non=>cases ry; exact PySem.EqNone.eq_str_none (bU I q (by simp))
  | bl j=>cases ry; exact PySem.EqMixed.eq_str_bool (bU I q (by simp))
  | int j=>obtain ⟨t',rfl⟩:=ry; exact PySem.EqMixed.eq_str_int (bU I q (by simp))
  | str j=>obtain ⟨t',rfl⟩:=ry; exact eq_str (bU I q JV)
  | _=>exact absurd (show false=true from hs) Bool.false_ne_true
 | byt i =>
  obtain ⟨t,rfl⟩:=rx
  cases y with
  | byt j=>obtain ⟨t',rfl⟩:=ry; exact PySem.W.eq_bytes (bU I q Jx)
  | _=>exact absurd (show false=true from hs) Bool.false_ne_true
 | _=>cases y <;> exact absurd (show false=true from hs) Bool.false_ne_true
theorem JC:OpR X (compareOp .NotEq) rNe:=by
 intro pins s σ H x y v u Q I rx ry h
 obtain ⟨hs,q⟩:=h
 cases x with
 | non =>
  cases rx
  cases y with
  | non=>cases ry; exact PySem.EqNone.ne_none_none (bU I q (by simp))
  | bl j=>cases ry; exact PySem.EqNone.ne_none_bool (bU I q (by simp))
  | int j=>obtain ⟨t',rfl⟩:=ry; exact PySem.EqNone.ne_none_int (bU I q (by simp))
  | str j=>obtain ⟨t',rfl⟩:=ry; exact PySem.EqNone.ne_none_str (bU I q (by simp))
  | _=>exact absurd (show false=true from hs) Bool.false_ne_true
 | bl i =>
  cases rx
  cases y with
  | non=>cases ry; exact PySem.EqNone.ne_bool_none (bU I q (by simp))
  | bl j=>cases ry; exact ne_bool (bU I q (congrArg not Qo))
  | str j=>obtain ⟨t',rfl⟩:=ry; exact PySem.EqMixed.ne_bool_str (bU I q (by simp))
  | _=>exact absurd (show false=true from hs) Bool.false_ne_true
 | int i =>
  obtain ⟨t,rfl⟩:=rx
  cases y with
  | non=>cases ry; exact PySem.EqNone.ne_int_none (bU I q (by simp))
  | int j=>obtain ⟨t',rfl⟩:=ry; exact ne_int (bU I q (congrArg not Ju))
  | str j=>obtain ⟨t',rfl⟩:=ry; exact PySem.EqMixed.ne_int_str (bU I q (by simp))
  | _=>exact absurd (show false=true from hs) Bool.false_ne_true
 | str i =>
  obtain ⟨t,rfl⟩:=rx
  cases y with
  | non=>cases ry; exact PySem.EqNone.ne_str_none (bU I q (by simp))
  | bl j=>cases ry; exact PySem.EqMixed.ne_str_bool (bU I q (by simp))
  | int j=>obtain ⟨t',rfl⟩:=ry; exact PySem.EqMixed.ne_str_int (bU I q (by simp))
  | str j=>obtain ⟨t',rfl⟩:=ry; exact ne_str (bU I q (congrArg not JV))
  | _=>exact absurd (show false=true from hs) Bool.false_ne_true
 | byt i =>
  obtain ⟨t,rfl⟩:=rx
  cases y with
  | byt j=>obtain ⟨t',rfl⟩:=ry; exact PySem.W.ne_bytes (bU I q (congrArg not Jx))
  | _=>exact absurd (show false=true from hs) Bool.false_ne_true
 | _=>cases y <;> exact absurd (show false=true from hs) Bool.false_ne_true
theorem zj:OpR X (compareOp .Lt) (rI0 fun i j=>.bl (decide (i < j))):=V3 fun _ _ _ _ _ _ _ q=>lt_int q
theorem uK:OpR X (compareOp .Gt) (rI0 fun i j=>.bl (decide (j < i))):=V3 fun _ _ _ _ _ _ _ q=>gt_int q
theorem J3:OpR X (compareOp .GtE) (rI0 fun i j=>.bl (decide (j<=i))):=V3 fun _ _ _ _ _ _ _ q=>ge_int q
theorem V0:OpR X (compareOp .Is) (fun x y H Q=>y=.non/\Q (.bl (decide (x=.non))) H):=by
 intro pins s σ H x y v u Q I rx ry h
 obtain ⟨rfl,q⟩:=h
 cases ry
 refine is_none_gen (bU I q ?_)
 cases x <;> first
  | (cases rx; rfl)
  | (obtain ⟨t,rfl⟩:=rx; rfl)
theorem BW:OpR X (compareOp .IsNot) (fun x y H Q=>y=.non/\Q (.bl (!decide (x=.non))) H):=by
 intro pins s σ H x y v u Q I rx ry h
 obtain ⟨rfl,q⟩:=h
 cases ry
 refine isnot_none_gen (bU I q ?_)
 cases x <;> first
  | (cases rx; rfl)
  | (obtain ⟨t,rfl⟩:=rx; rfl)
theorem bx (b:Expr) {op:CmpOp} (h:op≠.In:=by decide) (h2:op≠.NotIn:=by decide):behindInMarks op b=false:=by
 have e1:(op == CmpOp.In)=false:=by cases op <;> first | rfl | exact absurd rfl h
 have e2:(op == CmpOp.NotIn)=false:=by cases op <;> first | rfl | exact absurd rfl h2
 cases b <;> simp [behindInMarks,e1,e2]
theorem pC {op:CmpOp} {r:R2} (ho:OpR X (compareOp op) r) (ha:PE X a ta) (hb:PE X b tb) (hm:behindInMarks op b=false):PE X (.Compare a [op] [b] pos) (tOp r ta tb):=by
 intro pins s σ H Q I h
 exact wpAny_Compare1 (Vb ha hb I h fun v u s2 x y H2 I2 rx ry q=>ho pins s2 σ H2 x y v u Q I2 rx ry q) hm
def N7 (t:TE):TT:=fun σ H Q=>t σ H fun x H'=>∃ k,x=.bl k/\Q k H'
theorem bh {op:CmpOp} {r:R2} (ho:OpR X (compareOp op) r) (ha:PE X a ta) (hb:PE X b tb) (hm:behindInMarks op b=false):PT X (.Compare a [op] [b] pos) (N7 (tOp r ta tb)):=by
 intro pins s σ H Q I h
 refine wpAny_isTrue_Compare1 (thn (ha pins s σ H _ I h) fun v s1 ⟨x,H1,I1,r1,q1⟩=>thn (hb pins s1 σ H1 _ I1 q1) fun u s2 ⟨y,H2,I2,r2,q2⟩ =>
  thn (ho pins s2 σ H2 x y v u _ I2 r1 r2 q2) fun c s3 ⟨z,H3,I3,r3,k,e,q3⟩=>?_) hm
 subst e
 cases r3
 exact wpAny_truthy_bool ⟨H3,I3,q3⟩
def Nx (K:PySem.W.Frag) (x:V) (H:Hp) (k:Bool):Prop :=
 match x with
 | .non=>k=false
 | .bl b=>k=b
 | .int i=>k=(i != 0)
 | .str y=>y.length<=sizeLine/\k=((y.length:Int) != 0)
 | .byt y=>y.size<=sizeLine/\k=((y.size:Int) != 0)
 | .ref p=>(∃ xs,SqL K H p xs/\k=!xs.isEmpty)∨(∃ xs,SqT K H p xs/\k=!xs.isEmpty)∨∃ kvs,H p=some (.dK kvs)/\k=!kvs.isEmpty
 | _=>False
theorem Hi {κ:Type} {kvs:List (κ×V)} {vs:List (κ×Value)} (r:KV kvs vs):(!vs.isEmpty)=!kvs.isEmpty:=by
 cases r <;> rfl
theorem xZ {xs:List V} {its:List Value} (r:Vals xs its):(!its.toArray.isEmpty)=!xs.isEmpty:=by
 cases r <;> simp
theorem vG:(sizeLine:Nat) < 2 ^ 63:=by rw [sizeLine_eq]; decide
theorem TY:Yh X (fun x H Q=>∃ k,Nx X.K x H k/\Q k H):=by
 intro pins s σ H x v Q I rx h
 obtain ⟨k,e,q⟩:=h
 have hl:=vG
 have hs:sizeLine=16777216:=sizeLine_eq
 cases x with
 | non =>
  cases rx
  have e':k=false:=e
  subst e'
  exact truthy_none ⟨H,I,q⟩
 | bl b =>
  cases rx
  have e':k=b:=e
  subst e'
  exact wpAny_truthy_bool ⟨H,I,q⟩
 | int i =>
  obtain ⟨t,rfl⟩:=rx
  have e':k=(i != 0):=e
  subst e'
  exact PySem.P.truthy_int ⟨H,I,q⟩
 | str y =>
  obtain ⟨t,rfl⟩:=rx
  obtain ⟨hy,e'⟩:y.length<=sizeLine/\k=((y.length:Int) != 0):=e
  subst e'
  exact PySem.P.truthy_str (by omega) ⟨H,I.tok _,q⟩
 | byt y =>
  obtain ⟨t,rfl⟩:=rx
  obtain ⟨hy,e'⟩:y.size<=sizeLine/\k=((y.size:Int) != 0):=e
  subst e'
  exact PySem.W.truthy_bytes (by omega) ⟨H,I.tok _,q⟩
 | ref p =>
  cases rx
  have e':(∃ xs,SqL X.K H p xs/\k=!xs.isEmpty)∨(∃ xs,SqT X.K H p xs/\k=!xs.isEmpty)∨∃ kvs,H p=some (.dK kvs)/\k=!kvs.isEmpty:=e
  rcases e' with ⟨xs,hx,e'⟩ | ⟨xs,hx,e'⟩ | ⟨kvs,hx,e'⟩
  ·subst e'
   obtain ⟨its,r,pl,hz⟩:=I.list hx
   have hlen:=r.length
   exact wpAny_truthy_list pl.isList (by simp only [List.size_toArray]; omega) ⟨H,I.tok _,by rw [xZ r]; exact q⟩
  ·subst e'
   obtain ⟨its,r,pl,hz⟩:=I.tuple hx
   have hlen:=r.length
   exact truthy_tuple pl (by simp only [List.size_toArray]; omega) ⟨H,I.tok _,by rw [xZ r]; exact q⟩
  ·subst e'
   obtain ⟨hz,hS,vs,r,m⟩:kvs.length<=sizeLine/\(p == sysModules)=false/\∃ vs,KV kvs vs/\s.heap.DictOf (bI X.prog X.w) p vs:=I.hok p _ hx
   have hlen:kvs.length=vs.length:=Paired.length r
   exact wpAny_truthy_dict hS m (by omega) ⟨H,I.tok _,by rw [Hi r]; exact q⟩
 | _=>exact (show False from e).elim
theorem Qa (ha:PE X a ta) (he:∀ whole,isTrue a X.env whole=(do let v ← whole; standAt a.pos; holding [v] (truthy v))) :
  PT X a (fun σ H Q=>ta σ H fun x H'=>∃ k,Nx X.K x H' k/\Q k H'):=by
 intro pins s σ H Q I h
 exact isTrue_plain (thn (ha pins s σ H _ I h) fun v s1 ⟨x,H1,I1,r1,q1⟩=>TY pins s1 σ H1 x v Q I1 r1 q1) (he _)
theorem vals1 {x:V} {us:List Value} (r:Vals [x] us):∃ u,us=[u]/\RelV x u:=by
 cases r with
 | cons r1 r2=>cases r2; exact ⟨_,rfl,r1⟩
theorem vals2 {x y:V} {us:List Value} (r:Vals [x,y] us):∃ u w',us=[u,w']/\RelV x u/\RelV y w':=by
 cases r with
 | cons r1 r2 =>
  cases r2 with
  | cons r3 r4=>cases r4; exact ⟨_,_,rfl,r1,r3⟩
theorem NQ:gC X (.builtin "abs") (fun xs H Q=>∃ i,xs=[.int i]/\Q (.int (if i < 0 then -i else i)) H):=by
 intro pins s σ H xs us Q I r h
 obtain ⟨i,rfl,q⟩:=h
 obtain ⟨u,rfl,t,rfl⟩:=vals1 r
 exact call_abs_int fun u tk=>⟨.int (if i < 0 then -i else i),H,I.tok _,⟨_,rfl⟩,q⟩
theorem Ad (hc:X.calm=true):gC X (.builtin "max") (fun xs H Q=>∃ i j,xs=[.int i,.int j]/\Q (.int (if j > i then j else i)) H):=by
 intro pins s σ H xs us Q I r h
 obtain ⟨i,j,rfl,q⟩:=h
 obtain ⟨u,w',rfl,⟨t,rfl⟩,⟨t',rfl⟩⟩:=vals2 r
 refine max_two_ints (I.ok.hd hc) fun h' tk k=>⟨_,H,I.kept k,?_,q⟩
 by_cases hj:j > i
 ·rw [if_pos hj,if_pos hj]; exact ⟨_,rfl⟩
 ·rw [if_neg hj,if_neg hj]; exact ⟨_,rfl⟩
end
end L2
namespace L2
open PySem PySem.Spec PyProof.Rows
structure ObjM (h:Heap) (x dx C:Addr) (mA:Str->Option Value):Prop where
 obj:h.get? x=some (PySem.W.instObj C dx)
 ns:h.Ns1 dx mA
 ne:dx≠x
theorem K9 {h:Heap} {dx:Addr} {mA:Str->Option Value} (n:h.Ns1 dx mA):∃ od,h.get? dx=some od/\∀ name,PySem.W.lookIn name od=some (mA name):=by
 obtain ⟨o,es,ep,ho,hd,hk,_,hm⟩:=n
 refine ⟨o,ho,fun name=>?_⟩
 have e:=hm name
 unfold nsFind findBy at e
 rw [← Array.find?_toList] at e
 unfold PySem.W.lookIn
 rw [hd]
 dsimp only
 split
 ·rename_i y q
  rw [q] at e
  exact congrArg some e
 ·rename_i q
  rw [q] at e
  have a:es.toList.any (·.refKey)=false:=by
   rw [List.any_eq_false]
   intro y hy
   obtain ⟨z,t,hkey⟩:=hk y (Array.mem_toList_iff.mp hy)
   simp [DictEntry.refKey,hkey]
  have a':¬ es.toList.any (·.refKey)=true:=by rw [a]; exact Bool.false_ne_true
  rw [if_neg a']
  exact congrArg some e
theorem ObjM.look {h:Heap} {x dx C:Addr} {mA:Str->Option Value} (I:ObjM h x dx C mA):∃ od,PySem.W.InstAt h x (PySem.W.instObj C dx) C (some od)/\∀ name,PySem.W.lookIn name od=some (mA name) :=
 let ⟨od,ho,hl⟩:=K9 I.ns
 ⟨od,⟨I.obj,rfl,rfl,ho⟩,hl⟩
section
variable {prog:Program} {w:World} {A:Around} {E:Value->Shared->Prop} {s:Shared} {K:PySem.W.Frag} {x dx C f:Addr} {mA:Str->Option Value} {name:Str} {v:Value}
theorem QJ {expr:Bool} {Q:Value->Shared->Prop} (X:K.In s.heap) (I:ObjM s.heap x dx C mA) (hg:PySem.W.plainGet K C name=true) (hh:PySem.W.hasDictIn K C=true)
  (ha:PySem.W.findIn K (.ref C) name=some none) (hv:mA name=some v) (hv':PySem.W.handedIn v=true) (h:Q v { s with toks:=s.toks + 1 }) :
  wpAny (model prog w) A (getAttr (.ref x) name expr) Q E s:=by
 obtain ⟨od,J,hl⟩:=I.look
 exact PySem.W.get_value X J (PySem.W.plainGet_of hg).1 (PySem.W.findObj_own hh ha rfl (by rw [hl,hv])) hv' h
theorem Oi {pl:Sem Bool} {Q:Value×List Value->Shared->Prop} (X:K.In s.heap) (I:ObjM s.heap x dx C mA) (hg:PySem.W.plainGet K C name=true)
  (hf:PySem.W.findIn K (.ref C) name=some (some (.ref f))) (ht:PySem.W.isFn K (.ref f)=true) (hv:mA name=none) (h:Q (.ref f,[.ref x]) s) :
  wpAny (model prog w) A (getMethod (.ref x) name pl) Q E s:=by
 obtain ⟨od,J,hl⟩:=I.look
 exact PySem.W.method_fn X J (PySem.W.plainGet_of hg).1 (PySem.W.plainGet_of hg).2 hf (beq_iff_eq.mp ht) (by show (PySem.W.lookIn name od).map (·.isSome)=some false; rw [hl,hv]; rfl) h
theorem QZ {ns:List Str} {Q:Unit->Shared->Prop} (X:K.In s.heap) (I:ObjM s.heap x dx C mA)
  (hs:PySem.W.findIn K (.ref C) "__setattr__"=some (some (.builtin "object.__setattr__"))) (hp:PySem.W.plainOver K C=true) (ht:PySem.W.takerIn K C name=some none) (hh:PySem.W.hasDictIn K C=true)
  (hw:PySem.Within mA ns) (hsz:ns.length<=sizeLine)
  (h:∀ h',ObjM h' x dx C (fun y=>if y=name then some v else mA y)->Heap.SameBut dx s.heap h'->Q () { s with heap:=h',toks:=s.toks + 2 }) :
  wpAny (model prog w) A (setAttr (.ref x) name v) Q E s:=by
 obtain ⟨od,J,hl⟩:=I.look
 refine PySem.W.set_plain X J hs (PySem.W.osa_open (s:={ s with toks:=s.toks + 1 }) (r:=none) X J hp ht fun b=>?_)
 obtain ⟨cd,hc,hd'⟩:=PySem.W.any_some hh
 have hx:s.heap.get? x=some ⟨.ref C,some dx,.plain,#[]⟩:=I.obj
 refine wpAny_bind (wpAny_pure (wpAny_bind (wpAny_bind (wpAny_loadPart hx (wpAny_bind (PySem.W.Looks.here (s:={ s with toks:=s.toks + 1 }) (PySem.W.looks_clsIn X hc) ?_))))))
 rw [hd']
 refine wpAny_pure (a:=some dx) (wpAny_bind (wpAny_pure (wpAny_bind ?_)))
 refine wpAny_nsSet1 (s:={ s with toks:=s.toks + 1 }) I.ns fun h' hn2 hs2=>?_
 obtain ⟨oD,esD,epD,hoD,hdD,hcD⟩:=hn2.count (PySem.Within.cons name v hw)
 refine wpAny_bind (wpAny_lookBehind hoD (by rw [hdD]; exact pastItsLine_dict (Nat.le_trans hcD (by rw [List.length_cons]; omega))) ?_)
 exact wpAny_pure (h _ ⟨(hs2.2 _ (Ne.symm I.ne)).trans I.obj,hn2,I.ne⟩ hs2)
theorem Ma {R:Result->Shared->Prop} {vs:List Value} {kw:List (Str×Value)} (X:K.In s.heap) (hm:PySem.W.makesIn K C=true)
  (hi:PySem.W.findIn K (.ref C) "__init__"=some (some (.ref f))) (hf:PySem.W.typeIn K (.ref f)=some (.type "function"))
  (h:codeAny (model prog w) (A.under (.builtin "type.__call__" ⟨.ref C :: vs,kw⟩)) (.call (.ref f) ⟨.ref (s.heap.objs.size + 1) :: vs,kw⟩) (PySem.W.InitBack (s.heap.objs.size + 1) R)
   { s with heap:=(s.heap.push PySem.W.emptyDict).push (PySem.W.instObj C s.heap.objs.size) }) :
  codeAny (model prog w) A (.call (.ref C) ⟨vs,kw⟩) R s:=by
 obtain ⟨hh,g,d,t,os⟩:=s
 exact PySem.W.make_core (PySem.W.makes_of X hm) (PySem.W.looks_findIn X hi) (fun self=>PySem.W.bind_fn X self hf) (.inl rfl) h
end
def lY (f:Str) (v:V):List (Str×V)->List (Str×V)
 | []=>[(f,v)]
 | (g,x) :: r=>if g=f then (g,v) :: r else (g,x) :: lY f v r
theorem wF (f g:Str) (v:V):∀ fs:List (Str×V),(lY f v fs).lookup g=if g=f then some v else fs.lookup g
 | []=>by
  show List.lookup g [(f,v)]=_
  by_cases h:g=f
  ·have hb:(g == f)=true:=beq_iff_eq.mpr h
   simp only [List.lookup,hb,if_pos h]
  ·have hb:(g == f)=false:=beq_eq_false_iff_ne.mpr h
   simp only [List.lookup,hb,if_neg h]
 | (k,x) :: r=>by
  have ih:=wF f g v r
  rw [show lY f v ((k,x) :: r)=(if k=f then (k,v) :: r else (k,x) :: lY f v r) from rfl]
  by_cases hk:k=f
  ·rw [if_pos hk]
   by_cases h:g=k
   ·have hb:(g == k)=true:=beq_iff_eq.mpr h
    simp only [List.lookup,hb,if_pos (h.trans hk)]
   ·have hb:(g == k)=false:=beq_eq_false_iff_ne.mpr h
    simp only [List.lookup,hb,if_neg (fun e:g=f=>h (e.trans hk.symm))]
  ·rw [if_neg hk]
   by_cases h:g=k
   ·have hb:(g == k)=true:=beq_iff_eq.mpr h
    simp only [List.lookup,hb,if_neg (fun e:g=f=>hk (h.symm.trans e))]
   ·have hb:(g == k)=false:=beq_eq_false_iff_ne.mpr h
    simp only [List.lookup,hb]
    exact ih
theorem vZ (f:Str) (v:V):∀ fs:List (Str×V),f∈(lY f v fs).map (·.1)/\∀ g,g∈fs.map (·.1)->g∈(lY f v fs).map (·.1)
 | []=>⟨by simp [lY],fun g h=>by simp at h⟩
 | (k,x) :: r=>by
  obtain ⟨i1,i2⟩:=vZ f v r
  rw [show lY f v ((k,x) :: r)=(if k=f then (k,v) :: r else (k,x) :: lY f v r) from rfl]
  by_cases hk:k=f
  ·rw [if_pos hk]
   subst hk
   exact ⟨by simp,fun g h=>by simpa using h⟩
  ·rw [if_neg hk]
   refine ⟨?_,fun g h=>?_⟩
   ·rw [List.map_cons]
    exact List.mem_cons_of_mem _ i1
   ·rw [List.map_cons] at h ⊢
    rcases List.mem_cons.mp h with e | e
    ·exact List.mem_cons.mpr (.inl e)
    ·exact List.mem_cons_of_mem _ (i2 g e)
theorem wG (f:Str) (v:V):∀ fs:List (Str×V),(lY f v fs).length<=fs.length + 1
 | []=>by simp [lY]
 | (k,x) :: r=>by
  have ih:=wG f v r
  rw [show lY f v ((k,x) :: r)=(if k=f then (k,v) :: r else (k,x) :: lY f v r) from rfl]
  by_cases hk:k=f
  ·rw [if_pos hk,List.length_cons,List.length_cons]; omega
  ·rw [if_neg hk,List.length_cons,List.length_cons]; omega
theorem RelO.some_of {v:V} {o:Option Value} (r:RelO (some v) o):∃ u,o=some u/\RelV v u:=by
 cases o with
 | none=>exact (show False from r).elim
 | some u=>exact ⟨u,rfl,r⟩
theorem RelO.none_of {o:Option Value} (r:RelO none o):o=none:=by
 cases o with
 | none=>rfl
 | some u=>exact (show False from r).elim
theorem K6 {v:V} {u:Value} (r:RelV v u):PySem.W.handedIn u=true:=by
 cases v with
 | non=>cases (show u=Value.none from r); rfl
 | bl b=>cases (show u=Value.bool b from r); rfl
 | int i=>obtain ⟨t,e⟩:=(show ∃ t,u=Value.int i t from r); cases e; rfl
 | str x=>obtain ⟨t,e⟩:=(show ∃ t,u=Value.str x t from r); cases e; rfl
 | byt b=>obtain ⟨t,e⟩:=(show ∃ t,u=Value.bytes b t from r); cases e; rfl
 | flt b=>obtain ⟨t,e⟩:=(show ∃ t,u=Value.float b t from r); cases e; rfl
 | ref a=>cases (show u=Value.ref a from r); rfl
 | ty n=>cases (show u=Value.type n from r); rfl
section
variable {P:Program} {w:World} {H H':Hp} {h h':Heap} {a C dx:Addr} {fs fs':List (Str×V)}
theorem xP (hok:HOk P w H h) (e:H a=some (.ins C dx fs)):∃ mA,ObjM h a dx C mA/\(∀ f,RelO (fs.lookup f) (mA f))/\PySem.Within mA (fs.map (·.1))/\fs.length<=1000/\H dx=some (.own a):=by
 obtain ⟨d,z,ne,ob,mA,n,r,q⟩:=(show ObjOk P w H h a (.ins C dx fs) from hok a _ e)
 exact ⟨mA,⟨ob,n,ne⟩,r,q,z,d⟩
end
structure Cls (K:PySem.W.Frag) (C:Addr):Prop where
 pg:PySem.W.plainGet K C Str.empty=true
 hd:PySem.W.hasDictIn K C=true
 po:PySem.W.plainOver K C=true
 sa:PySem.W.findIn K (.ref C) "__setattr__"=some (some (.builtin "object.__setattr__"))
theorem Cls.get {K:PySem.W.Frag} {C:Addr} (c:Cls K C) (f:Str):PySem.W.plainGet K C f=true:=c.pg
def NoAttr (K:PySem.W.Frag) (C:Addr) (f:Str):Prop:=PySem.W.findIn K (.ref C) f=some none
theorem NoAttr.taker {K:PySem.W.Frag} {C:Addr} {f:Str} (n:NoAttr K C f):PySem.W.takerIn K C f=some none:=by
 unfold PySem.W.takerIn
 rw [show PySem.W.findIn K (.ref C) f=some none from n]
 rfl
structure Meth (K:PySem.W.Frag) (C:Addr) (m:Str) (f:Addr):Prop where
 at_:PySem.W.findIn K (.ref C) m=some (some (.ref f))
 fn:PySem.W.isFn K (.ref f)=true
 kp:PySem.W.keepIn K (.ref f)=true
section
variable {X:Cx} {pins:List (Addr×Obj)} {σ:St} {H:Hp} {s:Shared} {a C dx:Addr} {fs:List (Str×V)} {f:Str} {v:V} {A:Around} {E:Value->Shared->Prop}
theorem Iz {b:Bool} {Q:Value->Shared->Prop} (I:Inv X pins σ H s) (e:H a=some (.ins C dx fs)) (c:Cls X.K C) (n:NoAttr X.K C f) (l:fs.lookup f=some v)
  (h:∀ u s',Inv X pins σ H s'->RelV v u->Q u s'):wpAny (model X.prog X.w) A (getAttr (.ref a) f b) Q E s:=by
 obtain ⟨mA,O,r,_,_,_⟩:=xP I.hok e
 obtain ⟨u,hu,ru⟩:=RelO.some_of (v:=v) (o:=mA f) (by rw [← l]; exact r f)
 exact QJ I.kIn O (c.get f) c.hd n hu (K6 ru) (h u _ (I.tok _) ru)
theorem yH {m:Str} {g:Addr} {pl:Sem Bool} {Q:Value×List Value->Shared->Prop} (I:Inv X pins σ H s) (e:H a=some (.ins C dx fs)) (c:Cls X.K C) (k:Meth X.K C m g) (l:fs.lookup m=none)
  (h:Q (.ref g,[.ref a]) s):wpAny (model X.prog X.w) A (getMethod (.ref a) m pl) Q E s:=by
 obtain ⟨mA,O,r,_,_,_⟩:=xP I.hok e
 have hn:mA m=none:=RelO.none_of (by rw [← l]; exact r m)
 exact Oi I.kIn O (c.get m) k.at_ k.fn hn h
theorem Je {y:V} {u:Value} {Q:Unit->Shared->Prop} (I:Inv X pins σ H s) (e:H a=some (.ins C dx fs)) (c:Cls X.K C) (n:NoAttr X.K C f) (hl:fs.length < 1000) (ry:RelV y u)
  (h:∀ s',Inv X pins σ (upd H a (.ins C dx (lY f y fs))) s'->Q () s'):wpAny (model X.prog X.w) A (setAttr (.ref a) f u) Q E s:=by
 obtain ⟨mA,O,r,wi,_,ho⟩:=xP I.hok e
 have hz:(fs.map (·.1)).length<=sizeLine:=by rw [List.length_map,sizeLine_eq]; omega
 refine QZ I.kIn O c.sa c.po n.taker c.hd wi hz fun h' O' sb=>h _ ?_
 have hd:∃ o,h'.get? dx=some o:=let ⟨o,_,_,e',_⟩:=O'.ns; ⟨o,e'⟩
 refine I.write (x:=a) (e:=dx) (by rw [e]; exact True.intro) (.inr ho) (fun b q hb z=>(sb.2 b hb).trans z) hd ?_
 refine ⟨by rw [aF O.ne]; exact ho,?_,O.ne,O'.obj,_,O'.ns,fun g=>?_,fun g hg=>?_⟩
 ·have:=wG f y fs; omega
 ·show RelO ((lY f y fs).lookup g) (if g=f then some u else mA g)
  rw [wF]
  by_cases q:g=f
  ·rw [if_pos q,if_pos q]; exact ry
  ·rw [if_neg q,if_neg q]; exact r g
 ·by_cases q:g=f
  ·rw [q]; exact (vZ f y fs).1
  ·refine (vZ f y fs).2 g (wi g fun z=>hg ?_)
   show (if g=f then some u else mA g)=none
   rw [if_neg q]; exact z
theorem Inv.made (I:Inv X pins σ H s):Inv X pins σ (upd (upd H s.heap.objs.size (.own (s.heap.objs.size + 1))) (s.heap.objs.size + 1) (.ins C s.heap.objs.size []))
  { s with heap:=(s.heap.push PySem.W.emptyDict).push (PySem.W.instObj C s.heap.objs.size) }:=by
 have e1:(s.heap.push PySem.W.emptyDict).get? s.heap.objs.size=some PySem.W.emptyDict:=Heap.get?_push_size s.heap rfl
 have e2:((s.heap.push PySem.W.emptyDict).push (PySem.W.instObj C s.heap.objs.size)).get? (s.heap.objs.size + 1)=some (PySem.W.instObj C s.heap.objs.size):=by
  have:=Heap.get?_push_size (s.heap.push PySem.W.emptyDict) (o:=PySem.W.instObj C s.heap.objs.size) rfl
  rwa [Heap.size_push] at this
 have e3:(s.heap.push PySem.W.emptyDict).Ns s.heap.objs.size (fun _=>none):=⟨PySem.W.emptyDict,#[],_,e1,rfl,(fun e he=>absurd he (by simp)),fun _=>rfl⟩
 have I1:=I.laid (a:=s.heap.objs.size) (o:=.own (s.heap.objs.size + 1)) (h':=s.heap.push PySem.W.emptyDict) (t':=s.toks) (fun b u q=>Heap.get?_push_of_some _ q) (Nat.le_refl _) ⟨_,e1⟩
 refine I1.laid (a:=s.heap.objs.size + 1) (o:=.ins C s.heap.objs.size []) (t':=s.toks) (fun b u q=>Heap.get?_push_of_some _ q) (Nat.le_of_eq (Heap.size_push _ _)) ?_
 have ne:s.heap.objs.size≠s.heap.objs.size + 1:=Nat.ne_of_lt (Nat.lt_succ_self _)
 refine ⟨by rw [aF ne,az],Nat.zero_le _,ne,e2,fun _=>none,(Heap.Ns1.of_empty e3).at fun o q=>Heap.get?_push_of_some _ q,fun _=>True.intro,fun y hy=>absurd rfl hy⟩
theorem RM {prog:Program} {w:World} {env:Env} {e:Expr} {f:Str} {pos:Pos} {s:Shared} {Q:Value->Shared->Prop} (hb:attributeBase e f env (eval e env)=eval e env)
  (h:wpAny (model prog w) A (eval e env) (fun o s₁=>wpAny (model prog w) A (getAttr o f true) Q E s₁) E s):wpAny (model prog w) A (eval (.Attribute e f pos) env) Q E s :=
 Attribute_any_ h (by rw [arm_eval_Attribute,hb])
end
def Wa (K:PySem.W.Frag) (ta:TE) (f:Str):TE:=fun σ H Q=>ta σ H fun x H1=>∃ a C dx fs v,x=.ref a/\H1 a=some (.ins C dx fs)/\Cls K C/\NoAttr K C f/\fs.lookup f=some v/\Q v H1
def M8 (K:PySem.W.Frag) (ta tv:TE) (f:Str):TS:=fun D σ H=>tv σ H fun y H1=>ta σ H1 fun x H2=>∃ a C dx fs,x=.ref a/\H2 a=some (.ins C dx fs)/\Cls K C/\NoAttr K C f/\fs.length < 1000 /\
 D.nx σ (upd H2 a (.ins C dx (lY f y fs)))
section
variable {X:Cx} {o e value:Expr} {f:Str} {pos pos' tpos:Pos} {ta tv:TE}
theorem V8 (he:PE X e ta) (hb:attributeBase e f X.env (eval e X.env)=eval e X.env):PE X (.Attribute e f pos) (Wa X.K ta f):=by
 intro pins s σ H Q I h
 refine RM hb (thn (he pins s σ H _ I h) fun u s1 ⟨x,H1,I1,rx,a,C,dx,fs,v,ex,ea,c,n,l,q⟩=>?_)
 subst ex
 obtain rfl:u=Value.ref a:=rx
 exact Iz I1 ea c n l fun u' s2 I2 ru=>⟨v,H1,I2,ru,q⟩
theorem U6 (ha:PE X o ta) (hv:PE X value tv) (hs:swapsWith value (some (.Attribute o f pos')) pos.line X.env=pure false):PS X (.Assign [.Attribute o f pos'] value pos) (M8 X.K ta tv f):=by
 intro pins s σ H D I h
 refine plainObj_wpAny_Assign_Attribute (thn (hv pins s σ H _ I h) fun u s1 ⟨y,H1,I1,ry,q⟩=>thn (ha pins s1 σ H1 _ I1 q) fun ov s2 ⟨x,H2,I2,rx,a,C,dx,fs,ex,ea,c,n,l,q2⟩=>?_) hs
 subst ex
 obtain rfl:ov=Value.ref a:=rx
 exact Je I2 ea c n l ry fun s3 I3=>⟨σ,_,I3,q2⟩
end
section
variable {X:Cx} {pins:List (Addr×Obj)} {σ:St} {H:Hp} {s:Shared} {A:Around} {E:Value->Shared->Prop} {Q:Value->Shared->Prop} {c:Value} {b:Bool}
inductive TyOf (K:PySem.W.Frag) (H:Hp):V->Value->Prop where
 | non:TyOf K H .non (.type "NoneType")
 | bl (x:Bool):TyOf K H (.bl x) (.type "bool")
 | int (i:Int):TyOf K H (.int i) (.type "int")
 | str (x:Str):TyOf K H (.str x) (.type "str")
 | flt (x:UInt64):TyOf K H (.flt x) (.type "float")
 | lst {a:Addr} {xs:List V} (e:H a=some (.lst xs)):TyOf K H (.ref a) (.type "list")
 | frz {a:Addr} {o:Obj} {xs:List V} (e:H a=some (.frz o (.lst xs))):TyOf K H (.ref a) (.type "list")
 | tup {a:Addr} {xs:List V} (e:H a=some (.tup xs)):TyOf K H (.ref a) (.type "tuple")
 | dK {a:Addr} {kvs:List (Key×V)} (e:H a=some (.dK kvs)):TyOf K H (.ref a) (.type "dict")
 | dT {a:Addr} {kvs:List (List Key×V)} (e:H a=some (.dT kvs)):TyOf K H (.ref a) (.type "dict")
 | ins {a C dx:Addr} {fs:List (Str×V)} (e:H a=some (.ins C dx fs)) (cl:Cls K C) (ha:PySem.W.findIn K (.ref C) "__class__"=some (some (.builtin "object.__class__")))
   (hn:PySem.W.specialIn K (.builtin "object.__class__") "__get__"=some (some (.builtin "getset_descriptor.__get__"))) (htk:PySem.W.takesIn K (.builtin "object.__class__")=some true)
   (hm:PySem.W.mroIn K C (.type "object")=some true):TyOf K H (.ref a) (.ref C)
theorem K8 {x:V} {u t:Value} (I:Inv X pins σ H s) (rx:RelV x u) (ty:TyOf X.K H x t) (e:PySem.W.kitOne X.K t c=some b) (h:∀ tk,Q (.bool b) { s with toks:=tk }) :
  wpAny (model X.prog X.w) A (call (.builtin "isinstance") [u,c]) Q E s:=by
 cases ty with
 | non=>cases (show u=Value.none from rx); exact PySem.W.kia_one PySem.W.kitx_none I.kIn True.intro e (fun z=>nomatch z) h
 | bl y=>cases (show u=Value.bool y from rx); exact PySem.W.kia_one PySem.W.kitx_bool I.kIn True.intro e (fun z=>nomatch z) h
 | int i=>obtain ⟨t,q⟩:=(show ∃ t,u=Value.int i t from rx); cases q; exact PySem.W.kia_one PySem.W.kitx_int I.kIn True.intro e (fun z=>nomatch z) h
 | str y=>obtain ⟨t,q⟩:=(show ∃ t,u=Value.str y t from rx); cases q; exact PySem.W.kia_one PySem.W.kitx_str I.kIn True.intro e (fun z=>nomatch z) h
 | flt y=>obtain ⟨t,q⟩:=(show ∃ t,u=Value.float y t from rx); cases q; exact PySem.W.kia_one PySem.W.kitx_float I.kIn True.intro e (fun z=>nomatch z) h
 | @lst a xs ea =>
  cases (show u=Value.ref a from rx)
  obtain ⟨_,_,n,_,h1⟩:=(show ObjOk X.prog X.w H s.heap a (.lst xs) from I.hok a _ ea)
  exact PySem.W.kia_one PySem.W.kitx_list I.kIn ⟨_,h1,rfl⟩ e (fun z=>nomatch z) h
 | @frz a ob xs ea =>
  cases (show u=Value.ref a from rx)
  obtain ⟨_,_,_,n,_,h1⟩:=(show ObjOk X.prog X.w H s.heap a (.frz ob (.lst xs)) from I.hok a _ ea)
  exact PySem.W.kia_one PySem.W.kitx_list I.kIn ⟨_,h1,rfl⟩ e (fun z=>nomatch z) h
 | @tup a xs ea =>
  cases (show u=Value.ref a from rx)
  obtain ⟨_,_,_,p⟩:=(show ObjOk X.prog X.w H s.heap a (.tup xs) from I.hok a _ ea)
  obtain ⟨o,h1,h2,_⟩:=p
  exact PySem.W.kia_one PySem.W.kitx_tuple I.kIn ⟨o,h1,h2⟩ e (fun z=>nomatch z) h
 | @dK a kvs ea =>
  cases (show u=Value.ref a from rx)
  obtain ⟨_,_,vs,_,p⟩:=(show ObjOk X.prog X.w H s.heap a (.dK kvs) from I.hok a _ ea)
  obtain ⟨o,es,ep,h1,h2,_⟩:=p
  exact PySem.W.kia_one PySem.W.kitx_dict I.kIn ⟨o,h1,h2.1⟩ e (fun z=>nomatch z) h
 | @dT a kvs ea =>
  cases (show u=Value.ref a from rx)
  obtain ⟨_,_,xs,_,o,es,ep,h1,h2,_⟩:=(show ObjOk X.prog X.w H s.heap a (.dT kvs) from I.hok a _ ea)
  exact PySem.W.kia_one PySem.W.kitx_dict I.kIn ⟨o,h1,h2.1⟩ e (fun z=>nomatch z) h
 | @ins a C dx fs ea cl ha hn htk hm =>
  cases (show u=Value.ref a from rx)
  obtain ⟨mA,O,_⟩:=xP I.hok ea
  obtain ⟨od,J,_⟩:=O.look
  exact PySem.W.kia_one (PySem.W.kitx_own (cl.get _) cl.hd ha hn htk hm) I.kIn J e (fun z=>nomatch z) h
end
end L2
namespace L2
open PySem PySem.Spec PyProof.Rows
structure Room (k:Nat) (A:Around):Prop where
 hd:A.handled=none
 dp:A.depth + 3 * k + 5 < recursionLimit
 un:A.units + 16 * k + 200 < cLine
theorem Room.mono {j k:Nat} {A:Around} (r:Room k A) (h:j<=k):Room j A:=⟨r.hd,by have:=r.dp; omega,by have:=r.un; omega⟩
theorem Room.deeper {k:Nat} {A:Around} (r:Room (k + 1) A) (env:Env):Room k (A.deeper env) :=
 ⟨r.hd,by have:=r.dp; show A.depth + 1 + 3 * k + 5 < _; omega,by have:=r.un; show A.units + 3 + 16 * k + 200 < _; omega⟩
theorem Ja {A:Around} {C:Addr} {us:List Value} {kw:List (Str×Value)}:(A.under (.builtin "type.__call__" ⟨.ref C :: us,kw⟩)).depth=A.depth + 1:=by
 first | rfl | simp [Around.under,Code.weight,Code.isCreation,Code.isGuard,Code.isCaller,Code.frames,Code.isFrame,guardIds]
theorem Iu {A:Around} {C:Addr} {us:List Value} {kw:List (Str×Value)}:(A.under (.builtin "type.__call__" ⟨.ref C :: us,kw⟩)).units=A.units + 1:=by
 first | rfl | simp [Around.under,Code.cUnits,Code.frames,Code.isFrame]
theorem Room.make {k:Nat} {A:Around} (r:Room (k + 1) A) (C:Addr) (us:List Value) (kw:List (Str×Value)):Room k (A.under (.builtin "type.__call__" ⟨.ref C :: us,kw⟩)) :=
 ⟨r.hd,by have:=r.dp; rw [Ja]; omega,by have:=r.un; rw [Iu]; omega⟩
theorem Room.depth {k:Nat} {A:Around} (r:Room k A):A.depth < recursionLimit:=by have:=r.dp; omega
theorem Room.units {k:Nat} {A:Around} (r:Room k A):A.units + 64 < cLine:=by have:=r.un; omega
theorem Room.units0 {k:Nat} {A:Around} (r:Room k A):A.units < cLine:=by have:=r.un; omega
def Ig:TA:=fun _ H Q=>Q [] H
def yE (ta:TE) (tr:TA):TA:=fun σ H Q=>ta σ H fun x H1=>tr σ H1 fun xs H2=>Q (x :: xs) H2
section
variable {X:Cx} {e:Expr} {es:List Expr} {te:TE} {t:TA} {pos:Pos}
theorem ak:PA X [] Ig:=fun _ _ _ _ H Q I h=>Calls.spliced_nil ⟨[],H,I,.nil,h⟩
theorem aa (ha:PE X e te) (hr:PA X es t) (hs:starEach (e :: es) X.env=(false,eval e X.env) :: starEach es X.env:=by rfl):PA X (e :: es) (yE te t):=by
 intro pos pins s σ H Q I h
 rw [hs]
 show wpAny _ _ (spliced ((false,eval e X.env) :: backTo pos (starEach es X.env))) _ _ s
 refine Calls.spliced_cons (thn (ha pins s σ H _ I h) fun u s1 ⟨x,H1,I1,r1,q1⟩=>?_)
 exact thn (hr pos pins s1 σ H1 _ I1 q1) fun us s2 ⟨xs,H2,I2,r2,q2⟩=>⟨x :: xs,H2,I2,.cons r1 r2,q2⟩
def Ur (t:TA):TE:=fun σ H Q=>t σ H fun xs H1=>xs.length<=sizeLine/\∀ p,H1 p=none->Q (.ref p) (upd H1 p (.tup xs))
def XQ (t:TA):TE:=fun σ H Q=>t σ H fun xs H1=>xs.length<=sizeLine/\∀ p,H1 p=none->Q (.ref p) (upd H1 p (.lst xs))
theorem fu {x1} (h:PA X es t):PE X (.Tuple es x1 pos) (Ur t):=by
 intro pins s σ H Q I hq
 refine wpAny_Tuple_spliced (thn (h pos pins s σ H _ I hq) fun us s1 ⟨xs,H1,I1,r,z,q⟩=>⟨by rw [← r.length]; exact z,?_⟩)
 have hf:H1 s1.heap.objs.size=none:=I1.hok.fresh (Nat.le_refl _)
 refine ⟨.ref s1.heap.objs.size,upd H1 s1.heap.objs.size (.tup xs),I1.laid (t':=s1.toks) (fun b u e=>Heap.get?_push_of_some _ e) (Nat.le_refl _) ?_,rfl,q _ hf⟩
 exact ⟨z,us,r,IsTpl.new _ _⟩
theorem dR (h:PA X es t):PE X (.List es pos) (XQ t):=by
 intro pins s σ H Q I hq
 refine wpAny_List_spliced (thn (h pos pins s σ H _ I hq) fun us s1 ⟨xs,H1,I1,r,z,q⟩=>⟨by rw [← r.length]; exact z,?_⟩)
 have hf:H1 s1.heap.objs.size=none:=I1.hok.fresh (Nat.le_refl _)
 refine ⟨.ref s1.heap.objs.size,upd H1 s1.heap.objs.size (.lst xs),I1.laid (t':=s1.toks) (fun b u e=>Heap.get?_push_of_some _ e) (Nat.le_refl _) ?_,rfl,q _ hf⟩
 exact ⟨z,us,0,r,Heap.get?_push_size _ rfl⟩
end
abbrev Sp:=List V->Hp->VK->XK->Prop
abbrev CXT:=List Env->Hp->Shared->XK->Value->Shared->Prop
structure Env0 (P:Program) (w:World) (K:PySem.W.Frag) (mg:Str->Option Value) (base:Heap) (A:Around) (outer:List Env) (s:Shared) (H:Hp):Prop where
 frames:A.frames=some outer
 mod:Mod K mg base
 bs:∀ b o,base.get? b=some o->s.heap.get? b=some o/\H b=none
 bsz:base.objs.size<=s.heap.objs.size
 funs:s.heap.FunFrames base outer
 frf:∀ b∈frs outer,H b=none
 hok:HOk P w H s.heap
 bare:AllBare s.gens
def CE (outer:List Env) (P:Program) (w:World) (H:Hp) (s:Shared) (Q:VK) (u:Value) (s':Shared):Prop :=
 ∃ v H',s'.os=s.os/\AllBare s'.gens/\Un (frs outer) [] H H' s.heap s'.heap/\HOk P w H' s'.heap/\RelV v u/\Q v H'
def CR (CX:CXT) (outer:List Env) (P:Program) (w:World) (H:Hp) (s:Shared) (Q:VK) (E:XK) (r:Result) (s':Shared):Prop :=
 match r with
 | .ok (.ret u)=>CE outer P w H s Q u s'
 | .ok _=>False
 | .error e=>CX outer H s E e s'
structure FnOk (P:Program) (w:World) (K:PySem.W.Frag) (mg:Str->Option Value) (base:Heap) (CX:CXT) (k:Nat) (f:Addr) (fd:FuncData) (ps:List Str) (sp:Sp):Prop where
 len:∀ vs H Q E,sp vs H Q E->vs.length=ps.length
 run:∀ (A:Around) (outer:List Env) (s:Shared) (H:Hp) (args:Args) (us:List Value) (vs:List V) (Q:VK) (E:XK),Room k A->Env0 P w K mg base A outer s H->BindsTo s fd args (ps.zip us)->Vals vs us->sp vs H Q E ->
  codeAny (model P w) A (.call (.ref f) args) (CR CX outer P w H s Q E) s
theorem FnOk.mono {P:Program} {w:World} {K:PySem.W.Frag} {mg:Str->Option Value} {base:Heap} {CX:CXT} {j k:Nat} {f:Addr} {fd:FuncData} {ps:List Str} {sp:Sp} (F:FnOk P w K mg base CX j f fd ps sp) (h:j<=k) :
  FnOk P w K mg base CX k f fd ps sp:=⟨F.len,fun A outer s H args us vs Q E hr=>F.run A outer s H args us vs Q E (hr.mono h)⟩
theorem Env0.make {P:Program} {w:World} {K:PySem.W.Frag} {mg:Str->Option Value} {base:Heap} {A:Around} {outer:List Env} {s:Shared} {H:Hp} (e:Env0 P w K mg base A outer s H) (C:Addr) (us:List Value) (kw:List (Str×Value)) :
  Env0 P w K mg base (A.under (.builtin "type.__call__" ⟨.ref C :: us,kw⟩)) outer s H:=⟨by first | exact e.frames | (simpa [Around.under,Code.envs,Code.isFrame,pushEnvs] using e.frames),e.mod,e.bs,e.bsz,e.funs,e.frf,e.hok,e.bare⟩
section
variable {X:Cx} {pins:List (Addr×Obj)} {σ:St} {H:Hp} {s s':Shared}
theorem Inv.env0 (I:Inv X pins σ H s):Env0 X.prog X.w X.K X.mg X.base X.A X.stack s H :=
 ⟨I.ok.frames,I.ok.mod,I.bs,Nat.le_trans I.ok.bsz I.sz,I.stack,I.stkFree,I.hok,I.bare⟩
theorem Inv.after {Q:VK} {u:Value} (I:Inv X pins σ H s) (h:CE X.stack X.prog X.w H s Q u s'):EP X pins σ Q u s':=by
 obtain ⟨v,H',os,bare,un,hok,r,q⟩:=h
 obtain ⟨hh,g,d,t,os'⟩:=s'
 obtain rfl:os'=s.os:=os
 exact ⟨v,H',I.call (h':=hh) (g':=g) (d':=d) (t':=t) (ch:=[]) un hok bare (fun b z=>absurd z (by simp)),r,q⟩
end
def Jp (sp:Sp) (dvs:List V) (E:XK) (t:TA):TE:=fun σ H Q=>t σ H fun vs H1=>sp (vs ++ dvs) H1 Q E
def S7 (C:Addr) (sp:Sp) (dvs:List V) (E:XK) (t:TA):TE:=fun σ H Q=>t σ H fun vs H1=>∀ x dx,H1 x=none->H1 dx=none->dx≠x ->
 sp (.ref x :: (vs ++ dvs)) (upd (upd H1 dx (.own x)) x (.ins C dx [])) (fun v H2=>v=.non/\Q (.ref x) H2) E
def Binds (K:PySem.W.Frag) (fd:FuncData) (ps:List Str) (ds:List Value):Prop :=
 ∀ (s:Shared) (us:List Value),K.In s.heap->(us ++ ds).length=ps.length->BindsTo s fd ⟨us,[]⟩ (ps.zip (us ++ ds))
theorem Binds.all {K:PySem.W.Frag} {fd:FuncData} {ps:List Str} (h:∀ us:List Value,us.length=ps.length->bindArgs fd ⟨us,[]⟩=pure (ps.zip us)):Binds K fd ps []:=fun s us _ hl=>by
 rw [List.append_nil] at hl ⊢
 exact .of_eq (h us hl)
def yX (CX:CXT) (X:Cx) (E:XK):Prop:=∀ (pins:List (Addr×Obj)) (σ:St) (H:Hp) (s:Shared) (e:Value) (s':Shared),Inv X pins σ H s->CX X.stack H s E e s'->X.xe e s'
section
variable {X:Cx} {CX:CXT} {k:Nat} {f C:Addr} {fd:FuncData} {ps:List Str} {sp:Sp} {dvs:List V} {ds:List Value} {E:XK} {x m:Str} {p pos apos:Pos} {e o:Expr} {es:List Expr} {ta:TE} {t:TA}
theorem vN {pins:List (Addr×Obj)} {σ:St} {H:Hp} {s:Shared} {Q:VK} {us:List Value} {vs:List V} (F:FnOk X.prog X.w X.K X.mg X.base CX k f fd ps sp) (hr:Room k X.A) (hb:Binds X.K fd ps ds) (hd:Vals dvs ds) (hx:yX CX X E)
  (I:Inv X pins σ H s) (r:Vals vs us) (h:sp (vs ++ dvs) H Q E):wpAny (model X.prog X.w) X.A (call (.ref f) us) (EP X pins σ Q) X.xe s:=by
 have r2:Vals (vs ++ dvs) (us ++ ds):=r.append hd
 have hl:(us ++ ds).length=ps.length:=by rw [← r2.length]; exact F.len _ _ _ _ h
 refine wpAny_call (codeAny_mono (F.run X.A X.stack s H ⟨us,[]⟩ (us ++ ds) (vs ++ dvs) Q E hr I.env0 (hb s us I.kIn hl) r2 h) fun r s' hq=>?_)
 cases r with
 | error e=>exact hx pins σ H s e s' I hq
 | ok fl =>
  cases fl with
  | ret u=>exact I.after hq
  | next=>exact False.elim hq
  | brk=>exact False.elim hq
  | cont=>exact False.elim hq
theorem Rh (F:FnOk X.prog X.w X.K X.mg X.base CX k f fd ps sp) (hr:Room k X.A) (hg:Gl X x) (hm:X.mg x=some (.ref f)) (hk:PySem.W.keepIn X.K (.ref f)=true) (hb:Binds X.K fd ps ds) (hd:Vals dvs ds) (hx:yX CX X E)
  (ha:PA X (e :: es) t) (hdb:(x == ("__debug__":Str))=false:=by decide) (he:starEach (e :: es) X.env=(false,eval e X.env) :: starEach es X.env:=by rfl) (hpl:(backTo pos (starEach es X.env)).any (·.1)=false:=by rfl) :
  PE X (.Call (.Name x p) (e :: es) [] pos) (Jp sp dvs E t):=by
 intro pins s σ H Q I h
 refine wpAny_Call_Name_kw (uT I hg hm ?_ hdb)
 refine PySem.W.callWith_K (h₀:=X.base) I.ok.mod.kin hk (thn (ha pos pins s σ H _ I h) fun us s1 ⟨vs,H1,I1,r,q⟩=>⟨I1.kIn,?_⟩) he hpl
 exact vN F hr hb hd hx I1 r q
structure Mk (K:PySem.W.Frag) (C f:Addr):Prop where
 makes:PySem.W.makesIn K C=true
 init:PySem.W.findIn K (.ref C) "__init__"=some (some (.ref f))
 fn:PySem.W.isFn K (.ref f)=true
 kp:PySem.W.keepIn K (.ref C)=true
theorem NP {pins:List (Addr×Obj)} {σ:St} {H:Hp} {s:Shared} {Q:VK} {us:List Value} {vs:List V} (M:Mk X.K C f) (F:FnOk X.prog X.w X.K X.mg X.base CX k f fd ps sp) (hr:Room (k + 1) X.A) (hb:Binds X.K fd ps ds) (hd:Vals dvs ds)
  (hx:yX CX X E) (I:Inv X pins σ H s) (r:Vals vs us)
  (h:∀ x dx,H x=none->H dx=none->dx≠x->sp (.ref x :: (vs ++ dvs)) (upd (upd H dx (.own x)) x (.ins C dx [])) (fun v H2=>v=.non/\Q (.ref x) H2) E) :
  wpAny (model X.prog X.w) X.A (call (.ref C) us) (EP X pins σ Q) X.xe s:=by
 have hq:=h (s.heap.objs.size + 1) s.heap.objs.size (I.hok.fresh (Nat.le_succ _)) (I.hok.fresh (Nat.le_refl _)) (Nat.ne_of_lt (Nat.lt_succ_self _))
 have I2:=Inv.made (C:=C) I
 have r2:Vals (V.ref (s.heap.objs.size + 1) :: (vs ++ dvs)) (Value.ref (s.heap.objs.size + 1) :: (us ++ ds)):=.cons rfl (r.append hd)
 have hl:(Value.ref (s.heap.objs.size + 1) :: us ++ ds).length=ps.length:=by
  have e:=r2.length
  rw [F.len _ _ _ _ hq] at e
  exact e.symm
 refine wpAny_call (Ma (f:=f) I.kIn M.makes M.init (beq_iff_eq.mp M.fn) (codeAny_mono (F.run _ X.stack _ _ ⟨Value.ref (s.heap.objs.size + 1) :: us,[]⟩ (Value.ref (s.heap.objs.size + 1) :: (us ++ ds)) _ _ E (hr.make C us [])
  (I2.env0.make C us []) (hb _ (Value.ref (s.heap.objs.size + 1) :: us) I2.kIn hl) r2 hq) fun r s' hq'=>?_))
 cases r with
 | error e=>exact hx pins σ _ _ e s' I2 hq'
 | ok fl =>
  cases fl with
  | ret u =>
   obtain ⟨v,H',I3,rv,ev,q3⟩:=I2.after hq'
   subst ev
   exact ⟨rv,⟨V.ref (s.heap.objs.size + 1),H',I3,rfl,q3⟩⟩
  | next=>exact False.elim hq'
  | brk=>exact False.elim hq'
  | cont=>exact False.elim hq'
theorem Di (M:Mk X.K C f) (F:FnOk X.prog X.w X.K X.mg X.base CX k f fd ps sp) (hr:Room (k + 1) X.A) (hg:Gl X x) (hm:X.mg x=some (.ref C)) (hb:Binds X.K fd ps ds) (hd:Vals dvs ds) (hx:yX CX X E)
  (ha:PA X (e :: es) t) (hdb:(x == ("__debug__":Str))=false:=by decide) (he:starEach (e :: es) X.env=(false,eval e X.env) :: starEach es X.env:=by rfl) (hpl:(backTo pos (starEach es X.env)).any (·.1)=false:=by rfl) :
  PE X (.Call (.Name x p) (e :: es) [] pos) (S7 C sp dvs E t):=by
 intro pins s σ H Q I h
 refine wpAny_Call_Name_kw (uT I hg hm ?_ hdb)
 refine PySem.W.callWith_K (h₀:=X.base) I.ok.mod.kin M.kp (thn (ha pos pins s σ H _ I h) fun us s1 ⟨vs,H1,I1,r,q⟩=>⟨I1.kIn,?_⟩) he hpl
 exact NP M F hr hb hd hx I1 r q
end
section
variable {X:Cx} {CX:CXT} {k:Nat} {f C:Addr} {fd:FuncData} {ps ks:List Str} {sp:Sp} {E:XK} {x m:Str} {p pos apos kpos:Pos} {e o:Expr} {es:List Expr} {kws:List Keyword} {te ta:TE} {t tk:TA} {nm:Option Str}
variable {g:List Value->List Value->List Value} {gV:List V->List V->List V}
end
structure FnScope (N P:List Str) (sc:Scope):Prop where
 kind:sc.kind=.function
 co:sc.isCoroutine=false
 gen:sc.isGenerator=false
 nd:N.Nodup
 pre:N.take P.length=P
 par:∀ x∈P,sc.names.lookup x=some .local∨sc.names.lookup x=some .cell
 nofree:∀ y∈sc.names,y.2≠.free
theorem Bb {kindOf:Str->Option NameKind} {x:Str}:∀ {binds:List (Str×Value)} {m:Str->Option Value},(∀ v,(x,v)∉binds)->bindL kindOf binds m x=m x
 | [],_,_=>rfl
 | (n,v) :: r,m,h=>by
  unfold bindL
  rw [Bb fun w hw=>h w (List.mem_cons_of_mem _ hw)]
  split
  ·have:x≠n:=by rintro rfl; exact h v List.mem_cons_self
   simp [this]
  ·rfl
theorem Am {kindOf:Str->Option NameKind} {x:Str}:∀ {binds:List (Str×Value)} {m:Str->Option Value},(∀ v,(x,v)∉binds)->bindC kindOf binds m x=m x
 | [],_,_=>rfl
 | (n,v) :: r,m,h=>by
  unfold bindC
  rw [Am fun w hw=>h w (List.mem_cons_of_mem _ hw)]
  split
  ·rfl
  ·have:x≠n:=by rintro rfl; exact h v List.mem_cons_self
   simp [this]
theorem Ax {kindOf:Str->Option NameKind} {x:Str} {v:Value}:∀ {P:List Str} {vs:List Value} {i:Nat} {m:Str->Option Value},P.Nodup->P[i]?=some x->vs[i]?=some v->kindOf x=some .local ->
  bindL kindOf (P.zip vs) m x=some v
 | [],_,_,_,_,h,_,_=>by simp at h
 | _ :: _,[],_,_,_,_,h,_=>by simp at h
 | p :: P,w :: vs,0,m,nd,h1,h2,hk=>by
  simp at h1 h2; subst h1; subst h2
  show bindL kindOf ((p,w) :: P.zip vs) m p=_
  unfold bindL
  rw [Bb fun v hv=>(List.nodup_cons.mp nd).1 (List.of_mem_zip hv).1,if_pos hk]
  simp
 | p :: P,w :: vs,i + 1,m,nd,h1,h2,hk=>by
  show bindL kindOf ((p,w) :: P.zip vs) m x=_
  unfold bindL
  exact Ax (i:=i) (List.nodup_cons.mp nd).2 (by simpa using h1) (by simpa using h2) hk
theorem Bg {kindOf:Str->Option NameKind} {x:Str} {v:Value}:∀ {P:List Str} {vs:List Value} {i:Nat} {m:Str->Option Value},P.Nodup->P[i]?=some x->vs[i]?=some v->kindOf x≠some .local ->
  bindC kindOf (P.zip vs) m x=some v
 | [],_,_,_,_,h,_,_=>by simp at h
 | _ :: _,[],_,_,_,_,h,_=>by simp at h
 | p :: P,w :: vs,0,m,nd,h1,h2,hk=>by
  simp at h1 h2; subst h1; subst h2
  show bindC kindOf ((p,w) :: P.zip vs) m p=_
  unfold bindC
  rw [Am fun v hv=>(List.nodup_cons.mp nd).1 (List.of_mem_zip hv).1,if_neg hk]
  simp
 | p :: P,w :: vs,i + 1,m,nd,h1,h2,hk=>by
  show bindC kindOf ((p,w) :: P.zip vs) m x=_
  unfold bindC
  exact Bg (i:=i) (List.nodup_cons.mp nd).2 (by simpa using h1) (by simpa using h2) hk
def start (N:List Str) (vs:List V):St:=vs.map some ++ List.replicate (N.length - vs.length) none
def Kq (CX:CXT) (P:Program) (w:World) (K:PySem.W.Frag) (mg:Str->Option Value) (base:Heap) (N:List Str) (qual:Str) (scope:Scope) (f:Addr) (cd:Value) (A:Around) (outer:List Env) (s:Shared) (H:Hp) (E:XK):Cx where
 prog:=P
 w:=w
 K:=K
 mg:=mg
 base:=base
 A:=A.deeper (envOfC qual scope s.heap.objs.size f cd)
 N:=N
 s₀:=s
 H₀:=H
 env:=envOfC qual scope s.heap.objs.size f cd
 outer:=outer
 stack:=envOfC qual scope s.heap.objs.size f cd :: outer
 ex:=[]
 calm:=true
 fn:=fun _=>true
 pn:=[]
 xe:=fun e s'=>wpAny (model P w) (A.deeper (envOfC qual scope s.heap.objs.size f cd)) (leaving (envOfC qual scope s.heap.objs.size f cd) e) (fun _ s''=>CX outer H s E e s'') (fun e' s''=>CX outer H s E e' s'') s'
theorem Gi {sc:Scope} {n:Nat} {x:Str} (h:sc.names.lookup x=some .cell):∃ c,(cellsFrom n sc.names []).lookup x=some c:=by
 have q:=PySem.W.cellsFrom_some sc.names n [] (.inl h)
 exact Option.isSome_iff_exists.mp q
theorem Kd {CX:CXT} {P:Program} {w:World} {K:PySem.W.Frag} {mg:Str->Option Value} {base:Heap} {N ps:List Str} {qual:Str} {scope:Scope} {f:Addr} {cd:Value} {A:Around} {outer:List Env} {s s1:Shared} {H:Hp} {E:XK} {us:List Value} {vs:List V}
  (S:FnScope N ps scope) (hd:A.handled=none) (e0:Env0 P w K mg base A outer s H) (hl:vs.length=ps.length) (r:Vals vs us)
  (x:InCallC s s.heap.objs.size (bindL (envOfC qual scope s.heap.objs.size f cd).kindOf (ps.zip us) fun _=>none) (cellsFrom (s.heap.objs.size + 1) scope.names []) (bindC (envOfC qual scope s.heap.objs.size f cd).kindOf (ps.zip us) fun _=>none) s1) :
  Inv (Kq CX P w K mg base N qual scope f cd A outer s H E) [] (start N vs) H s1:=by
 have hpl:ps.length<=N.length:=by have:=congrArg List.length S.pre; rw [List.length_take] at this; omega
 obtain ⟨h1,tk,rfl,hk⟩:=x.done
 have noA:∀ b:Addr,b∉(Kq CX P w K mg base N qual scope f cd A outer s H E).ex:=fun b z=>absurd (show b∈([]:List Addr) from z) (by simp)
 refine ⟨⟨e0.mod,S.kind,rfl,rfl,Nat.le_refl _,fun y z c h1 h2=>?_,fun y hy=>?_,fun y c _ h=>?_,fun _=>hd,Around.frames_deeper e0.frames,.inr ⟨rfl,rfl⟩,fun b z=>absurd z (noA b),e0.bs,e0.bsz,fun b _ _=>noA b,fun b z=>absurd z (noA b),e0.funs,e0.frf⟩,
  rfl,e0.bare,Un.kept hk,⟨_,x.toInCall.ns,fun i y v h1 h2 h3=>?_⟩,fun y c h=>⟨_,x.cell y c h⟩,e0.hok.fresh (Nat.le_refl _),fun y c h=>?_,fun p hp=>absurd (show p∈([]:List (Addr×Obj)) from hp) (by simp),e0.hok.kept hk,?_⟩
 ·exact name_of_addr x.apart (PySem.mem_of_lookup h1) (PySem.mem_of_lookup h2)
 ·have hy:scope.names.lookup y=some .cell∨scope.names.lookup y=some .free:=hy
  rcases hy with hy | hy
  ·exact Gi hy
  ·exact absurd rfl (S.nofree _ (PySem.mem_of_lookup hy))
 ·exact Nat.le_of_lt (x.above y c (PySem.mem_of_lookup h))
 ·have hi:i < vs.length:=by
   unfold start at h2
   by_cases hi:i < vs.length
   ·exact hi
   ·rw [List.getElem?_append_right (by simpa using hi)] at h2
    rw [List.getElem?_replicate] at h2
    split at h2 <;> cases h2
  have ha:vs[i]?=some v:=by
   unfold start at h2
   rw [List.getElem?_append_left (by simpa using hi),List.getElem?_map] at h2
   cases e:vs[i]? with
   | none=>rw [e] at h2; cases h2
   | some a=>rw [e] at h2; cases h2; rfl
  obtain ⟨u,hu,rv⟩:=r.get ha
  have hp:ps[i]?=some y:=by
   rw [← S.pre,List.getElem?_take_of_lt (by omega)]; exact h1
  have ndP:ps.Nodup:=by rw [← S.pre]; exact S.nd.sublist (List.take_sublist _ _)
  refine ⟨u,rv,?_⟩
  rcases S.par y (List.mem_of_getElem? hp) with k | k
  ·exact .inl ⟨k,Ax ndP hp hu k⟩
  ·obtain ⟨c,e⟩:=Gi (n:=s.heap.objs.size + 1) k
   refine .inr ⟨.inl k,c,e,?_⟩
   have q:=x.cell y c e
   rw [Bg ndP hp hu (by show scope.names.lookup y≠_; rw [k]; decide)] at q
   exact q
 ·exact e0.hok.fresh (Nat.le_of_lt (x.above y c (PySem.mem_of_lookup h)))
 ·unfold start
  show _=N.length
  rw [List.length_append,List.length_map,List.length_replicate]
  omega
theorem WQ {CX:CXT} {P:Program} {w:World} {K:PySem.W.Frag} {mg:Str->Option Value} {base:Heap} {k:Nat} {f:Addr} {name qual:Str} {params:Arguments} {body:List Stmt} {scope:Scope} {dV kV doc pm cdv ct oc:Value} {an od:Option Addr}
  {osl:Array (Option Value)} {N ps:List Str} {sp:Sp} (lk:K.lookup f=some ⟨oc,od,.func (PySem.W.fnOf name qual params body scope dV kV doc pm an cdv ct),osl⟩) (hcd:PySem.W.codeIn K cdv qual=true) (S:FnScope N ps scope)
  (len:∀ vs H Q E,sp vs H Q E->vs.length=ps.length)
  (hbody:∀ (A:Around) (outer:List Env) (s:Shared) (H:Hp) (vs:List V) (Q:VK) (E:XK),Room k (A.deeper (envOfC qual scope s.heap.objs.size f cdv))->sp vs H Q E ->
   ∃ t,PSs (Kq CX P w K mg base N qual scope f cdv A outer s H E) body t/\t { nx:=fun _ H'=>Q .non H',rt:=Q } (start N vs) H) :
  FnOk P w K mg base CX (k + 1) f (PySem.W.fnOf name qual params body scope dV kV doc pm an cdv ct) ps sp:=by
 refine ⟨len,fun A outer s H args us vs Q E hr e0 hb r hsp=>?_⟩
 have hl:=len _ _ _ _ hsp
 have KX:K.In s.heap:=e0.mod.kin.keeps fun b o e=>(e0.bs b o e).1
 have lim:s.heap.NoLimit:=e0.mod.nolimit.keeps fun b o e=>(e0.bs b o e).1
 have hkind:∀ y∈ps.zip us,scope.names.lookup y.1=some .local∨(scope.names.lookup y.1=some .cell/\((cellsFrom (s.heap.objs.size + 1) scope.names []).lookup y.1).isSome=true):=fun ⟨n,v⟩ hy=>by
  rcases S.par n (List.of_mem_zip hy).1 with q | q
  ·exact .inl q
  ·exact .inr ⟨q,PySem.W.cellsFrom_some _ _ _ (.inl q)⟩
 refine codeAny_call_function hr.depth (KX _ _ lk) rfl S.co S.gen rfl (PySem.W.codeRec_of KX hcd) (hb _ _ _ _ ?_)
 refine wpAny_newFunctionEnv_cells S.kind hkind fun env he s1 x=>?_
 subst he
 refine ⟨lim.keeps x.toInCall.keep,codeAny_func ?_⟩
 obtain ⟨t,ht,hq⟩:=hbody A outer s H vs Q E (hr.deeper _) hsp
 have I:Inv (Kq CX P w K mg base N qual scope f cdv A outer s H E) [] (start N vs) H s1:=Kd S hr.hd e0 hl r x
 refine wpAny_mono (ht [] s1 (start N vs) H _ I hq) (fun fl s' hs=>?_) fun e s' hs=>hs
 have fin:∀ {σ':St} {H':Hp} {v:V} {u:Value},Inv (Kq CX P w K mg base N qual scope f cdv A outer s H E) [] σ' H' s'->RelV v u->Q v H'->CE outer P w H s Q u s' :=
  fun {σ' H' v u} J rv q=>⟨v,H',J.os,J.bare,J.base,J.hok,rv,q⟩
 cases fl with
 | ret u =>
  obtain ⟨v,σ',H',J,rv,q⟩:=hs
  exact fin J rv q
 | next =>
  obtain ⟨σ',H',J,q⟩:=hs
  exact fin (v:=V.non) (u:=Value.none) J rfl q
 | brk =>
  obtain ⟨_,_,_,q⟩:=hs
  exact False.elim q
 | cont =>
  obtain ⟨_,_,_,q⟩:=hs
  exact False.elim q
end L2
namespace L2
open PySem PySem.Spec PyProof.Rows
section
variable {X:Cx} {x:Str} {p pos:Pos} {e:Expr} {es:List Expr} {t:TA} {id T:String} {r:List V->Hp->VK->Prop}
def tCB (r:List V->Hp->VK->Prop) (t:TA):TE:=fun σ H Q=>t σ H fun vs H1=>r vs H1 Q
theorem bw (hc:gC X (.builtin id) r) (hg:Gl X x) (hm:X.mg x=none) (hv:bootBuiltins x=some (.builtin id)) (ha:PA X (e :: es) t) (hn:x≠"__name__":=by decide) (hdb:(x == ("__debug__":Str))=false:=by decide)
  (he:starEach (e :: es) X.env=(false,eval e X.env) :: starEach es X.env:=by rfl) (hpl:(backTo pos (starEach es X.env)).any (·.1)=false:=by rfl):PE X (.Call (.Name x p) (e :: es) [] pos) (tCB r t):=by
 intro pins s σ H Q I h
 refine wpAny_Call_Name_kw (q9 I hg hm hv ?_ hn hdb)
 exact PyProof.Rows.callWith_builtin1 (thn (ha pos pins s σ H _ I h) fun us s1 ⟨vs,H1,I1,r1,q1⟩=>hc pins s1 σ H1 vs us Q I1 r1 q1) he hpl
theorem bT (hc:gC X (.type T) r) (hg:Gl X x) (hm:X.mg x=none) (hv:bootBuiltins x=some (.type T)) (ha:PA X (e :: es) t) (hn:x≠"__name__":=by decide) (hdb:(x == ("__debug__":Str))=false:=by decide)
  (he:starEach (e :: es) X.env=(false,eval e X.env) :: starEach es X.env:=by rfl) (hpl:(backTo pos (starEach es X.env)).any (·.1)=false:=by rfl):PE X (.Call (.Name x p) (e :: es) [] pos) (tCB r t):=by
 intro pins s σ H Q I h
 refine wpAny_Call_Name_kw (q9 I hg hm hv ?_ hn hdb)
 exact PyProof.Rows.callWith_type1 (thn (ha pos pins s σ H _ I h) fun us s1 ⟨vs,H1,I1,r1,q1⟩=>hc pins s1 σ H1 vs us Q I1 r1 q1) he hpl
end
end L2
namespace L2
open PySem PySem.Spec PyProof.Rows
section
variable {κ:Type} [DecidableEq κ]
def fZ (kvs:List (κ×V)) (k:κ):Option V:=(kvs.find? fun kv=>decide (kv.1=k)).map (·.2)
def putK (kvs:List (κ×V)) (k:κ) (v:V):List (κ×V) :=
 if (kvs.any fun kv=>decide (kv.1=k))=true then kvs.map (fun kv=>if kv.1=k then (kv.1,v) else kv) else kvs ++ [(k,v)]
theorem eV {p:κ×V} {r:List (κ×V)} {k:κ} (e:p.1=k):fZ (p :: r) k=some p.2:=by simp [fZ,List.find?_cons,e]
theorem eQ {p:κ×V} {r:List (κ×V)} {k:κ} (e:¬ p.1=k):fZ (p :: r) k=fZ r k:=by simp [fZ,List.find?_cons,e]
theorem oZ (k:κ):∀ kvs:List (κ×V),(kvs.any fun kv=>decide (kv.1=k))=(fZ kvs k).isSome
 | []=>rfl
 | p :: r=>by
  rw [List.any_cons]
  by_cases e:p.1=k
  ·simp only [eV e,decide_eq_true e,Bool.true_or,Option.isSome_some]
  ·rw [eQ e,decide_eq_false e,Bool.false_or]; exact oZ k r
theorem FN (k j:κ) (y:V):∀ kvs:List (κ×V),fZ (kvs.map fun kv=>if kv.1=k then (kv.1,y) else kv) j=(fZ kvs j).map fun x=>if j=k then y else x
 | []=>rfl
 | p :: r=>by
  have ih:=FN k j y r
  rw [List.map_cons]
  by_cases h:p.1=k
  ·rw [if_pos h]
   by_cases e:p.1=j
   ·rw [eV (p:=(p.1,y)) e,eV e,Option.map_some,if_pos (e.symm.trans h)]
   ·rw [eQ (p:=(p.1,y)) e,eQ e,ih]
  ·rw [if_neg h]
   by_cases e:p.1=j
   ·rw [eV (p:=p) e,eV e,Option.map_some,if_neg (fun z=>h (e.trans z))]
   ·rw [eQ (p:=p) e,eQ e,ih]
theorem Bd (k j:κ) (y:V):∀ kvs:List (κ×V),fZ kvs k=none->fZ (kvs ++ [(k,y)]) j=if j=k then some y else fZ kvs j
 | [],_=>by
  by_cases e:k=j
  ·rw [if_pos e.symm]; exact eV (p:=(k,y)) e
  ·rw [if_neg (fun z=>e z.symm)]; exact eQ (p:=(k,y)) e
 | p :: r,hn=>by
  rw [List.cons_append]
  have hk:¬ p.1=k:=fun z=>by rw [eV z] at hn; cases hn
  rw [eQ hk] at hn
  have ih:=Bd k j y r hn
  by_cases e:p.1=j
  ·rw [eV e,eV e,if_neg (fun z=>hk (e.trans z))]
  ·rw [eQ e,eQ e,ih]
theorem MP (kvs:List (κ×V)) (k j:κ) (y:V):fZ (putK kvs k y) j=if j=k then some y else fZ kvs j:=by
 unfold putK
 by_cases a:(kvs.any fun kv=>decide (kv.1=k))=true
 ·rw [if_pos a,FN]
  rw [oZ] at a
  by_cases e:j=k
  ·obtain ⟨x,hx⟩:=Option.isSome_iff_exists.mp a
   rw [if_pos e,e,hx,Option.map_some,if_pos rfl]
  ·rw [if_neg e]
   cases fZ kvs j with
   | none=>rfl
   | some x=>rw [Option.map_some,if_neg e]
 ·rw [if_neg a]
  refine Bd k j y kvs ?_
  rw [oZ] at a
  cases q:fZ kvs k with
  | none=>rfl
  | some x=>rw [q] at a; exact (a rfl).elim
theorem nG (kvs:List (κ×V)) (k:κ) (v:V):(putK kvs k v).length<=kvs.length + 1:=by
 unfold putK
 split
 ·rw [List.length_map]; omega
 ·rw [List.length_append,List.length_cons,List.length_nil]; omega
theorem RelO.isSome_eq {o:Option V} {u:Option Value} (r:RelO o u):o.isSome=u.isSome:=by
 cases o with
 | none=>cases u with
  | none=>rfl
  | some _=>exact (show False from r).elim
 | some _=>cases u with
  | none=>exact (show False from r).elim
  | some _=>rfl
theorem RelO.getD {o:Option V} {u:Option Value} {d:V} {d':Value} (r:RelO o u) (rd:RelV d d'):RelV (o.getD d) (u.getD d'):=by
 cases o with
 | none=>cases u with
  | none=>exact rd
  | some _=>exact (show False from r).elim
 | some _=>cases u with
  | none=>exact (show False from r).elim
  | some _=>exact r
theorem KV.val {kvs:List (κ×V)} {vs:List (κ×Value)} (r:KV kvs vs) (k:κ):RelO (fZ kvs k) (valueAt vs k):=by
 unfold KV at r
 induction r with
 | nil=>exact True.intro
 | @cons p q ps qs h t ih =>
  obtain ⟨h1,h2⟩:=h
  by_cases e:p.1=k
  ·have e':q.1=k:=h1.symm.trans e
   have b:valueAt (q :: qs) k=some q.2:=by simp [valueAt,List.find?_cons,e']
   rw [eV e,b]; exact h2
  ·have e':¬ q.1=k:=fun z=>e (h1.trans z)
   have b:valueAt (q :: qs) k=valueAt qs k:=by simp [valueAt,List.find?_cons,e']
   rw [eQ e,b]; exact ih
theorem KV.any {kvs:List (κ×V)} {vs:List (κ×Value)} (r:KV kvs vs) (k:κ):(kvs.any fun kv=>decide (kv.1=k))=vs.any fun kv=>decide (kv.1=k):=by
 unfold KV at r
 induction r with
 | nil=>rfl
 | cons h t ih=>rw [List.any_cons,List.any_cons,ih,h.1]
theorem KV.repl {kvs:List (κ×V)} {vs:List (κ×Value)} (r:KV kvs vs) (k:κ) {y:V} {u:Value} (ry:RelV y u) :
  KV (kvs.map fun kv=>if kv.1=k then (kv.1,y) else kv) (vs.map fun kv=>if kv.1=k then (kv.1,u) else kv):=by
 unfold KV at r ⊢
 induction r with
 | nil=>exact .nil
 | @cons p q ps qs h t ih =>
  rw [List.map_cons,List.map_cons]
  refine .cons ?_ ih
  obtain ⟨h1,h2⟩:=h
  by_cases e:p.1=k
  ·rw [if_pos e,if_pos (h1.symm.trans e)]; exact ⟨h1,ry⟩
  ·rw [if_neg e,if_neg (fun z=>e (h1.trans z))]; exact ⟨h1,h2⟩
theorem KV.put {kvs:List (κ×V)} {vs:List (κ×Value)} (r:KV kvs vs) (k:κ) {y:V} {u:Value} (ry:RelV y u):KV (putK kvs k y) (stored vs k u):=by
 unfold putK stored
 rw [r.any k]
 by_cases e:(vs.any fun kv=>decide (kv.1=k))=true
 ·rw [if_pos e,if_pos e]; exact r.repl k ry
 ·rw [if_neg e,if_neg e]; exact Paired.snoc r ⟨rfl,ry⟩
theorem KV.length {kvs:List (κ×V)} {vs:List (κ×Value)} (r:KV kvs vs):kvs.length=vs.length:=Paired.length r
end
theorem Aq {P:Program} {w:World} {k:Key} {u:Value} (r:RelV (kV k) u):(bI P w).is k u=true:=by
 cases k with
 | inl i=>obtain ⟨t,e⟩:=(show ∃ t,u=Value.int i t from r); subst e; exact qp P w i t
 | inr x=>obtain ⟨t,e⟩:=(show ∃ t,u=Value.str x t from r); subst e; exact DN P w x t
theorem Be {P:Program} {w:World}:∀ {ks:List Key} {us:List Value},Vals (ks.map kV) us->ItemsAre (bI P w) ks us
 | [],_,r=>by rw [List.map_nil] at r; cases r; exact .nil
 | k :: ks,_,r=>by
  rw [List.map_cons] at r
  cases r with
  | cons h t=>exact .cons (Aq h) (Be t)
abbrev KT (H:Hp):List (List Key×V)->List (List Key×Addr×Value)->Prop:=Paired fun p q=>p.1=q.1/\H q.2.1=some (.tup (p.1.map kV))/\RelV p.2 q.2.2
theorem KT.val {H:Hp} {kvs:List (List Key×V)} {xs:List (List Key×Addr×Value)} (r:KT H kvs xs) (k:List Key):RelO (fZ kvs k) ((atKey xs k).map (·.2)):=by
 induction r with
 | nil=>exact True.intro
 | @cons p q ps qs h t ih =>
  obtain ⟨h1,_,h2⟩:=h
  by_cases e:p.1=k
  ·have e':q.1=k:=h1.symm.trans e
   have b:atKey (q :: qs) k=some q.2:=by simp [atKey,List.find?_cons,e']
   rw [eV e,b]; exact h2
  ·have e':¬ q.1=k:=fun z=>e (h1.trans z)
   have b:atKey (q :: qs) k=atKey qs k:=by simp [atKey,List.find?_cons,e']
   rw [eQ e,b]; exact ih
theorem KT.repl {H:Hp} {kvs:List (List Key×V)} {xs:List (List Key×Addr×Value)} (r:KT H kvs xs) (k:List Key) {y:V} {u:Value} (ry:RelV y u) :
  KT H (kvs.map fun kv=>if kv.1=k then (kv.1,y) else kv) (xs.map (putAt k u)):=by
 induction r with
 | nil=>exact .nil
 | @cons p q ps qs h t ih =>
  rw [List.map_cons,List.map_cons]
  refine .cons ?_ ih
  obtain ⟨h1,h2,h3⟩:=h
  unfold putAt
  by_cases e:p.1=k
  ·rw [if_pos e,if_pos (h1.symm.trans e)]; exact ⟨h1,h2,ry⟩
  ·rw [if_neg e,if_neg (fun z=>e (h1.trans z))]; exact ⟨h1,h2,h3⟩
theorem KT.put {H:Hp} {kvs:List (List Key×V)} {xs:List (List Key×Addr×Value)} (r:KT H kvs xs) (k:List Key) {b:Addr} {y:V} {u:Value} (hb:H b=some (.tup (k.map kV))) (ry:RelV y u) :
  KT H (putK kvs k y) (storedH xs k b u):=by
 have e:(kvs.any fun kv=>decide (kv.1=k))=(atKey xs k).isSome:=by
  rw [oZ,(r.val k).isSome_eq,Option.isSome_map]
 unfold putK storedH
 rw [e]
 by_cases q:(atKey xs k).isSome=true
 ·rw [if_pos q,if_pos q]; exact r.repl k ry
 ·rw [if_neg q,if_neg q]; exact Paired.snoc r ⟨rfl,hb,ry⟩
theorem KT.keeps {H H':Hp} {kvs:List (List Key×V)} {xs:List (List Key×Addr×Value)} (r:KT H kvs xs) (ht:∀ b ys,H b=some (.tup ys)->H' b=some (.tup ys)):KT H' kvs xs :=
 Paired.mapP r fun _ _ z=>⟨z.1,ht _ _ z.2.1,z.2.2⟩
section
variable {P:Program} {w:World} {H:Hp} {h:Heap} {a:Addr}
theorem Te {u:HO} (ok:HOk P w H h) (e:Rd H a u):ObjOk P w H h a u:=e.ok ok
theorem uG {kvs:List (Key×V)} (ok:HOk P w H h) (e:Rd H a (.dK kvs)):kvs.length<=sizeLine/\(a == sysModules)=false/\∃ vs,KV kvs vs/\h.DictOf (bI P w) a vs :=
 show ObjOk P w H h a (.dK kvs) from Te ok e
theorem Tg {kvs:List (Key×V)} (ok:HOk P w H h) (e:H a=some (.dK kvs)):kvs.length<=sizeLine/\(a == sysModules)=false/\∃ vs,KV kvs vs/\h.DictOf (bI P w) a vs:=uG ok (.inl e)
theorem key_of {ks:List Key} (ok:HOk P w H h) (e:H a=some (.tup (ks.map kV))):(tupleKind (bI P w)).is h ks a:=by
 obtain ⟨_,its,r,o,h1,h2,n,h3⟩:=(show ObjOk P w H h a (.tup (ks.map kV)) from ok a _ e)
 exact ⟨o,its.toArray,n,h1,h2,h3.1,by simpa using Be r⟩
theorem wA {kvs:List (List Key×V)} (ok:HOk P w H h) (e:Rd H a (.dT kvs)):kvs.length<=sizeLine/\(a == sysModules)=false /\
  ∃ xs,KT H kvs xs/\h.DictOfH (tupleKind (bI P w)) a xs:=by
 obtain ⟨z,y,xs,r,o,es,ep,h1,h2,h3,h4,h5⟩:=(show ObjOk P w H h a (.dT kvs) from Te ok e)
 refine ⟨z,y,xs,r,o,es,ep,h1,h2,h3,h4,fun x hx=>?_,h5⟩
 have all:∀ {l:List (List Key×V)} {m:List (List Key×Addr×Value)},KT H l m->∀ x∈m,(tupleKind (bI P w)).is h x.1 x.2.1:=by
  intro l m q
  induction q with
  | nil=>intro x hx; exact nomatch hx
  | @cons p q ps qs hq t ih =>
   intro x hx
   rcases List.mem_cons.mp hx with e | hx
   ·subst e
    exact key_of ok (by rw [← hq.1]; exact hq.2.1)
   ·exact ih x hx
 exact all r x hx
theorem S9 {kvs:List (List Key×V)} (ok:HOk P w H h) (e:H a=some (.dT kvs)):kvs.length<=sizeLine/\(a == sysModules)=false /\
  ∃ xs,KT H kvs xs/\h.DictOfH (tupleKind (bI P w)) a xs:=wA ok (.inl e)
end
def DGet (H:Hp) (a:Addr) (y:V) (r:Option V):Prop :=
 (∃ kvs k,Rd H a (.dK kvs)/\y=kV k/\r=fZ kvs k)∨∃ kvs k b,Rd H a (.dT kvs)/\y=.ref b/\H b=some (.tup (k.map kV))/\r=fZ kvs k
def DPut (H:Hp) (a:Addr) (y v:V) (H':Hp):Prop :=
 (∃ kvs k,H a=some (.dK kvs)/\y=kV k/\kvs.length < sizeLine/\H'=upd H a (.dK (putK kvs k v))) ∨
 ∃ kvs k b,H a=some (.dT kvs)/\y=.ref b/\H b=some (.tup (k.map kV))/\kvs.length < sizeLine/\H'=upd H a (.dT (putK kvs k v))
theorem DGet.t {H:Hp} {a b:Addr} {kvs:List (List Key×V)} {k:List Key} (e:H a=some (.dT kvs)) (eb:H b=some (.tup (k.map kV))):DGet H a (.ref b) (fZ kvs k):=.inr ⟨kvs,k,b,.inl e,rfl,eb,rfl⟩
theorem DPut.t {H:Hp} {a b:Addr} {kvs:List (List Key×V)} {k:List Key} {v:V} (e:H a=some (.dT kvs)) (eb:H b=some (.tup (k.map kV))) (hl:kvs.length < sizeLine) :
  DPut H a (.ref b) v (upd H a (.dT (putK kvs k v))):=.inr ⟨kvs,k,b,e,rfl,eb,hl,rfl⟩
section
variable {X:Cx} {pins:List (Addr×Obj)} {σ:St} {H:Hp} {s:Shared} {a:Addr} {y v:V} {u r:Value} {o:Option V} {A:Around} {E:Value->Shared->Prop}
theorem Inv.big (I:Inv X pins σ H s):sysModules < s.heap.objs.size:=by
 have h:mainGlobals < s.heap.objs.size:=(I.mod.glob.keeps I.bk).lt
 exact Nat.lt_trans (by decide) h
theorem Kl {Q:Value->Shared->Prop} (hu:A.units + 1 < cLine) (I:Inv X pins σ H s) (g:DGet H a y (some v)) (ry:RelV y u) (h:∀ w' s',Inv X pins σ H s'->RelV v w'->Q w' s') :
  wpAny (model X.prog X.w) A (getItem (.ref a) u) Q E s:=by
 rcases g with ⟨kvs,k,e,ey,l⟩ | ⟨kvs,k,b,e,ey,eb,l⟩
 ·subst ey
  obtain ⟨z,hd,vs,rel,dd⟩:=uG I.hok e
  obtain ⟨w',hw,rw'⟩:=RelO.some_of (v:=v) (o:=valueAt vs k) (by rw [l]; exact rel.val k)
  exact wpAny_getItem_of (Aq ry) dd.mapOf hw (h w' _ (I.tok _) rw')
 ·subst ey
  cases (show u=Value.ref b from ry)
  obtain ⟨z,hd,xs,rel,dd⟩:=wA I.hok e
  obtain ⟨w',hw,rw'⟩:=RelO.some_of (v:=v) (o:=(atKey xs k).map (·.2)) (by rw [l]; exact rel.val k)
  obtain ⟨p,hp,hp2⟩:=Option.map_eq_some_iff.mp hw
  refine wpAny_getItem_heap (tupleKind_room_in1 hu) (key_of I.hok eb) dd hp ?_
  rw [hp2]
  exact h w' _ (I.tok _) rw'
theorem Rg {Q:Value->Shared->Prop} (hu:A.units + 1 < cLine) (I:Inv X pins σ H s) (g:DGet H a y o) (ry:RelV y u) (h:∀ s',Inv X pins σ H s'->Q (.bool (!o.isSome)) s') :
  wpAny (model X.prog X.w) A (compareOp .NotIn u (.ref a)) Q E s:=by
 rcases g with ⟨kvs,k,e,ey,l⟩ | ⟨kvs,k,b,e,ey,eb,l⟩
 ·subst ey
  obtain ⟨z,hd,vs,rel,dd⟩:=uG I.hok e
  refine wpAny_notIn_of (Aq ry) hd dd.mapOf ?_
  rw [← (rel.val k).isSome_eq,← l]
  exact h _ (I.tok _)
 ·subst ey
  cases (show u=Value.ref b from ry)
  obtain ⟨z,hd,xs,rel,dd⟩:=wA I.hok e
  refine wpAny_notIn_heap (tupleKind_room_in1 hu) (key_of I.hok eb) hd dd ?_
  have q:=(rel.val k).isSome_eq
  rw [Option.isSome_map] at q
  rw [← q,← l]
  exact h _ (I.tok _)
theorem Dq {h':Heap} {t':Nat} {ob:HO} (I:Inv X pins σ H s) (mu:Mut (H a)) (hs:Heap.SameBut a s.heap h') (he:∃ q,h'.get? a=some q) (new:ObjOk X.prog X.w (upd H a ob) h' a ob) :
  Inv X pins σ (upd H a ob) { s with heap:=h',toks:=t' } :=
 I.write (x:=a) (e:=a) mu (.inl rfl) (fun b q hb z=>(hs.2 b hb).trans z) he new
theorem Jg {P:Program} {w:World} {H':Hp} {h':Heap} {kvs:List (Key×V)} {vs:List (Key×Value)} (z:kvs.length<=sizeLine) (hd:(a == sysModules)=false) (rel:KV kvs vs) (dd:h'.DictOf (bI P w) a vs) :
  ObjOk P w H' h' a (.dK kvs):=⟨z,hd,vs,rel,dd⟩
theorem KD {H':Hp} {Q:Unit->Shared->Prop} (hu:A.units + 1 < cLine) (I:Inv X pins σ H s) (g:DPut H a y v H') (ry:RelV y u) (rv:RelV v r) (h:∀ s',Inv X pins σ H' s'->Q () s') :
  wpAny (model X.prog X.w) A (setItem (.ref a) u r) Q E s:=by
 rcases g with ⟨kvs,k,e,ey,l,eH⟩ | ⟨kvs,k,b,e,ey,eb,l,eH⟩
 ·subst ey eH
  obtain ⟨z,hd,vs,rel,dd⟩:=Tg I.hok e
  have hz:vs.length<=sizeLine:=by rw [← rel.length]; exact z
  have hl:(putK kvs k v).length<=sizeLine:=by have:=nG kvs k v; omega
  refine wpAny_setItem_pairs (hsz:=hz) (Aq ry) dd fun h' dd' hs=>h _ ?_
  have he:∃ q,h'.get? a=some q:=let ⟨q,_,_,hq,_⟩:=dd'; ⟨q,hq⟩
  exact Dq I (by rw [e]; exact True.intro) hs he (Jg hl hd (rel.put k rv) dd')
 ·subst ey eH
  cases (show u=Value.ref b from ry)
  obtain ⟨z,hd,xs,rel,dd⟩:=S9 I.hok e
  have hz:xs.length<=sizeLine:=by rw [← Paired.length rel]; exact z
  have hl:(putK kvs k v).length<=sizeLine:=by have:=nG kvs k v; omega
  refine wpAny_setItem_heap (hsz:=hz) (tupleKind_room_in1 hu) (key_of I.hok eb) dd fun h' dd' hs=>h _ ?_
  obtain ⟨q,es,ep,hq,h2,h3,h4,_,h5⟩:=dd'
  refine Dq I (by rw [e]; exact True.intro) hs ⟨q,hq⟩ ⟨hl,hd,_,(rel.put k eb rv).keeps fun c ys ec=>?_,q,es,ep,hq,h2,h3,h4,h5⟩
  rw [aF (jM ec e (fun z=>nomatch z))]
  exact ec
end
section
variable {X:Cx} {pins:List (Addr×Obj)} {σ:St} {H:Hp} {s:Shared} {a:Addr} {kvs:List (Key×V)} {k:Key} {u:Value} {A:Around} {E:Value->Shared->Prop}
end
def Xk (i:Expr):Prop:=∀ ov iv,subscripted i false ov iv=operate [ov,iv] (getItem ov iv)
theorem R1 {prog:Program} {w:World} {A:Around} {E:Value->Shared->Prop} {s:Shared} {env:Env} {value slice:Expr} {pos:Pos} {T id:String} {Q:Value->Shared->Prop}
  (hl:typeLookup (.type T) "__getitem__"=pure (some (.builtin id))) (hs:Xk slice)
  (h:wpAny (model prog w) A (eval value env) (fun o s₁=>wpAny (model prog w) A (eval slice env) (fun i s₂=>s₂.TypeIs o T/\wpAny (model prog w) A (getItem o i) Q E s₂) E s₁) E s) :
  wpAny (model prog w) A (eval (.Subscript value slice pos) env) Q E s:=by
 refine Subscript_ (wpAny_mono h (fun o s₁ h₁=>wpAny_mono h₁ (fun i s₂ h₂=>?_) fun _ _ x=>x) fun _ _ x=>x)
 obtain ⟨hT,h₂⟩:=h₂
 unfold subscriptTail
 refine wpAny_bind ?_
 rw [getitemInPython_of_ne hT.not_modules]
 refine wpAny_bind (wpAny_specialOf hT hl ?_)
 have fin:wpAny (model prog w) A (subscripted slice false o i) (fun r s₃=>wpAny (model prog w) A (letTemporaryGo value o r >>= fun _=>pure r) Q E s₃) E s₂:=by
  rw [hs o i]
  exact wpAny_operating (wpAny_mono h₂ (fun r s₃ h₃=>wpAny_bind (wpAny_letTemporaryGo (wpAny_pure h₃))) fun _ _ x=>x)
 first
  | exact wpAny_pure (wpAny_bind fin)
  | exact wpAny_bind (wpAny_pure (wpAny_bind fin))
  | exact wpAny_bind fin
theorem Ek {X:Cx} {pins:List (Addr×Obj)} {σ:St} {H:Hp} {s:Shared} {a:Addr} {y:V} {o:Option V} (I:Inv X pins σ H s) (g:DGet H a y o):s.TypeIs (.ref a) "dict":=by
 rcases g with ⟨kvs,k,e,_,_⟩ | ⟨kvs,k,b,e,_,_,_⟩
 ·obtain ⟨_,_,vs,_,dd⟩:=uG I.hok e
  exact dd.typeIs
 ·obtain ⟨_,_,xs,_,dd⟩:=wA I.hok e
  exact dd.typeIs
def S6 (td ty:TE):TE:=fun σ H Q=>td σ H fun x H1=>ty σ H1 fun y H2=>∃ a v,x=.ref a/\DGet H2 a y (some v)/\Q v H2
def Jm (ty td:TE):TE:=fun σ H Q=>ty σ H fun y H1=>td σ H1 fun x H2=>∃ a o,x=.ref a/\DGet H2 a y o/\Q (.bl (!o.isSome)) H2
def J6 (td ty tv:TE):TS:=fun D σ H=>tv σ H fun v H1=>td σ H1 fun x H2=>ty σ H2 fun y H3=>∃ a H4,x=.ref a/\DPut H3 a y v H4/\D.nx σ H4
section
variable {X:Cx} {o i e value:Expr} {pos pos' tpos:Pos} {td ty tv:TE}
theorem Bu (hu:X.A.units + 1 < cLine) (ho:PE X o td) (hi:PE X i ty) (hs:Xk i):PE X (.Subscript o i pos) (S6 td ty):=by
 intro pins s σ H Q I h
 refine R1 PySem.F.slot_dict_getitem.lookup hs (thn (ho pins s σ H _ I h) fun u s1 ⟨x,H1,I1,rx,q1⟩=>thn (hi pins s1 σ H1 _ I1 q1) fun iv s2 ⟨y,H2,I2,ry,a,v,ex,g,q2⟩=>?_)
 subst ex
 obtain rfl:u=Value.ref a:=rx
 exact ⟨Ek I2 g,Kl hu I2 g ry fun w' s3 I3 rw'=>⟨v,H2,I3,rw',q2⟩⟩
theorem KJ (hu:X.A.units + 1 < cLine) (hi:PE X i ty) (ho:PE X o td):PC X .NotIn i o (Jm ty td):=by
 intro pins s σ H Q I h
 refine thn (hi pins s σ H _ I h) fun iv s1 ⟨y,H1,I1,ry,q1⟩=>thn (ho pins s1 σ H1 _ I1 q1) fun u s2 ⟨x,H2,I2,rx,a,ov,ex,g,q2⟩=>?_
 subst ex
 obtain rfl:u=Value.ref a:=rx
 exact Rg hu I2 g ry fun s3 I3=>⟨.bl (!ov.isSome),H2,I3,rfl,q2⟩
theorem lU (hu:X.A.units + 1 < cLine) (ho:PE X o td) (hi:PE X i ty) (hv:PE X value tv) (hs:swapsWith value (some (.Subscript o i pos')) pos.line X.env=pure false) :
  PS X (.Assign [.Subscript o i pos'] value pos) (J6 td ty tv):=by
 intro pins s σ H D I h
 refine wpAny_Assign_Subscript (thn (hv pins s σ H _ I h) fun r s1 ⟨v,H1,I1,rv,q1⟩=>thn (ho pins s1 σ H1 _ I1 q1) fun u s2 ⟨x,H2,I2,rx,q2⟩=>thn (hi pins s2 σ H2 _ I2 q2) fun iv s3 ⟨y,H3,I3,ry,a,H4,ex,g,q3⟩=>?_) hs
 subst ex
 obtain rfl:u=Value.ref a:=rx
 exact KD hu I3 g ry rv fun s4 I4=>⟨σ,H4,I4,q3⟩
end
theorem Qd {P:Program} {w:World} {H:Hp} (h:Heap) (hb:sysModules < h.objs.size):ObjOk P w H (h.push { cls:=.type "dict",data:=.dict #[] }) h.objs.size (.dK []) :=
 ⟨Nat.zero_le _,beq_eq_false_iff_ne.mpr (Ne.symm (Nat.ne_of_lt hb)),[],.nil,Heap.DictOf.new h⟩
theorem MT {P:Program} {w:World} {H:Hp} (h:Heap) (hb:sysModules < h.objs.size):ObjOk P w H (h.push { cls:=.type "dict",data:=.dict #[] }) h.objs.size (.dT []) :=
 ⟨Nat.zero_le _,beq_eq_false_iff_ne.mpr (Ne.symm (Nat.ne_of_lt hb)),[],.nil,_,#[],0,Heap.get?_push_size _ rfl,⟨rfl,rfl,rfl⟩,rfl,rfl,List.nodup_nil⟩
def Oa:TE:=fun _ H Q=>∀ p,H p=none->Q (.ref p) (upd H p (.dK []))
def VM:TE:=fun _ H Q=>∀ p,H p=none->Q (.ref p) (upd H p (.dT []))
section
variable {X:Cx} {pos:Pos}
theorem mX:PE X (.Dict [] [] pos) Oa:=fun pins s σ H Q I h =>
 wpAny_Dict_empty ⟨.ref s.heap.objs.size,_,I.laid (a:=s.heap.objs.size) (o:=.dK []) (t':=s.toks) (fun _ _ q=>Heap.get?_push_of_some _ q) (Nat.le_refl _) (Qd s.heap I.big),rfl,h _ (I.hok.fresh (Nat.le_refl _))⟩
theorem EY:PE X (.Dict [] [] pos) VM:=fun pins s σ H Q I h =>
 wpAny_Dict_empty ⟨.ref s.heap.objs.size,_,I.laid (a:=s.heap.objs.size) (o:=.dT []) (t':=s.toks) (fun _ _ q=>Heap.get?_push_of_some _ q) (Nat.le_refl _) (MT s.heap I.big),rfl,h _ (I.hok.fresh (Nat.le_refl _))⟩
end
def Iv (kvs more:List (Key×V)):List (Key×V):=more.foldl (fun acc kv=>putK acc kv.1 kv.2) kvs
theorem KV.merge:∀ {more:List (Key×V)} {rs:List (Key×Value)} {kvs:List (Key×V)} {vs:List (Key×Value)},KV more rs->KV kvs vs->KV (Iv kvs more) (merged vs rs):=by
 intro more rs kvs vs r
 unfold KV at r
 induction r generalizing kvs vs with
 | nil=>intro q; exact q
 | @cons p q ps qs h t ih =>
  intro r0
  have e:KV (putK kvs p.1 p.2) (stored vs q.1 q.2):=by
   have:=r0.put p.1 h.2
   rw [← h.1]; exact this
  exact ih e
structure M1 (X:Cx) (o:Expr) (m:Str) (apos:Pos) (e:Expr) (cpos:Pos):Prop where
 base:attributeBase o m X.env (eval o X.env)=eval o X.env
 few:((backTo cpos (starEach [e] X.env)).all (fun x=>!x.1) && (backToKw cpos (keywordEach [] X.env)).all (fun x=>x.1.isSome)
  && decide (([e]:List Expr).length + ([]:List Keyword).length + (if ([]:List Keyword).isEmpty then 0 else 1) < 30))=true
 line:(apos.endLine == cpos.line)=true
 trees:backTo cpos (starEach [e] X.env)=[(false,eval e X.env)]
structure M2 (X:Cx) (o:Expr) (m:Str) (apos:Pos) (e f:Expr) (cpos:Pos):Prop where
 base:attributeBase o m X.env (eval o X.env)=eval o X.env
 few:((backTo cpos (starEach [e,f] X.env)).all (fun x=>!x.1) && (backToKw cpos (keywordEach [] X.env)).all (fun x=>x.1.isSome)
  && decide (([e,f]:List Expr).length + ([]:List Keyword).length + (if ([]:List Keyword).isEmpty then 0 else 1) < 30))=true
 line:(apos.endLine == cpos.line)=true
 trees:backTo cpos (starEach [e,f] X.env)=[(false,eval e X.env),(false,eval f X.env)]
def IsD (H:Hp) (a:Addr):Prop:=(∃ kvs,Rd H a (.dK kvs))∨∃ kvs,Rd H a (.dT kvs)
theorem O1 {X:Cx} {pins:List (Addr×Obj)} {σ:St} {H:Hp} {s:Shared} {a:Addr} (I:Inv X pins σ H s) (d:IsD H a) :
  s.TypeIs (.ref a) "dict"/\(∀ b,Value.ref a=.ref b->∃ ob,s.heap.get? b=some ob/\ob.dict=none)/\(a == sysModules)=false:=by
 rcases d with ⟨kvs,e⟩ | ⟨kvs,e⟩
 ·obtain ⟨_,hd,vs,_,dd⟩:=uG I.hok e
  refine ⟨dd.typeIs,fun b q=>?_,hd⟩
  cases q
  obtain ⟨ob,_,_,h1,h2,_⟩:=dd
  exact ⟨ob,h1,h2.2.1⟩
 ·obtain ⟨_,hd,xs,_,dd⟩:=wA I.hok e
  refine ⟨dd.typeIs,fun b q=>?_,hd⟩
  cases q
  obtain ⟨ob,_,_,h1,h2,_⟩:=dd
  exact ⟨ob,h1,h2.2.1⟩
section
variable {X:Cx} {pins:List (Addr×Obj)} {σ:St} {H:Hp} {s:Shared} {a:Addr} {y d:V} {u r:Value} {o:Option V} {A:Around} {E:Value->Shared->Prop}
theorem Ve {Q:Value->Shared->Prop} (hu:A.units + 1 < cLine) (I:Inv X pins σ H s) (g:DGet H a y o) (ry:RelV y u) (h:∀ w' s',Inv X pins σ H s'->RelV (o.getD .non) w'->Q w' s') :
  wpAny (model X.prog X.w) A (call (.builtin "dict.get") [.ref a,u]) Q E s:=by
 rcases g with ⟨kvs,k,e,ey,l⟩ | ⟨kvs,k,b,e,ey,eb,l⟩
 ·subst ey
  obtain ⟨z,hd,vs,rel,dd⟩:=uG I.hok e
  refine call_meetsIn PySem.F.slot_dict_get dd.typeIs PySem.F.entry_dict_get (PySem.F.args_dict_get_2 _ _) (meets_dict_get (bI X.prog X.w) a (Aq ry) hd) ⟨_,dd.mapOf,h _ _ (I.tok _) ?_⟩
  rw [l]
  exact (rel.val k).getD rfl
 ·subst ey
  cases (show u=Value.ref b from ry)
  obtain ⟨z,hd,xs,rel,dd⟩:=wA I.hok e
  refine call_meetsIn PySem.F.slot_dict_get dd.typeIs PySem.F.entry_dict_get (PySem.F.args_dict_get_2 _ _) (meetsH_dict_get (tupleKind (bI X.prog X.w)) a b hd) ⟨tupleKind_room_in1 hu,k,xs,key_of I.hok eb,dd,h _ _ (I.tok _) ?_⟩
  rw [l]
  exact (rel.val k).getD rfl
theorem Wg {Q:Value->Shared->Prop} (hu:A.units + 1 < cLine) (I:Inv X pins σ H s) (g:DGet H a y o) (ry:RelV y u) (rd:RelV d r) (h:∀ w' s',Inv X pins σ H s'->RelV (o.getD d) w'->Q w' s') :
  wpAny (model X.prog X.w) A (call (.builtin "dict.get") [.ref a,u,r]) Q E s:=by
 rcases g with ⟨kvs,k,e,ey,l⟩ | ⟨kvs,k,b,e,ey,eb,l⟩
 ·subst ey
  obtain ⟨z,hd,vs,rel,dd⟩:=uG I.hok e
  refine call_meetsIn PySem.F.slot_dict_get dd.typeIs PySem.F.entry_dict_get (PySem.F.args_dict_get_3 _ _ _) (meets_dict_get_default (bI X.prog X.w) a (Aq ry) hd r) ⟨_,dd.mapOf,h _ _ (I.tok _) ?_⟩
  rw [l]
  exact (rel.val k).getD rd
 ·subst ey
  cases (show u=Value.ref b from ry)
  obtain ⟨z,hd,xs,rel,dd⟩:=wA I.hok e
  refine call_meetsIn PySem.F.slot_dict_get dd.typeIs PySem.F.entry_dict_get (PySem.F.args_dict_get_3 _ _ _) (meetsH_dict_get_default (tupleKind (bI X.prog X.w)) a b hd r) ⟨tupleKind_room_in1 hu,k,xs,key_of I.hok eb,dd,h _ _ (I.tok _) ?_⟩
  rw [l]
  exact (rel.val k).getD rd
end
def Oz (td ty:TE):TE:=fun σ H Q=>td σ H fun x H1=>∃ a,x=.ref a/\IsD H1 a/\ty σ H1 fun y H2=>∃ o,DGet H2 a y o/\Q (o.getD .non) H2
def Mh (td ty tx:TE):TE:=fun σ H Q=>td σ H fun x H1=>∃ a,x=.ref a/\IsD H1 a/\ty σ H1 fun y H2=>tx σ H2 fun z H3=>∃ o,DGet H3 a y o/\Q (o.getD z) H3
section
variable {X:Cx} {o e f:Expr} {apos cpos:Pos} {td ty tx:TE}
theorem Gn (hu:X.A.units + 1 < cLine) (ho:PE X o td) (he:PE X e ty) (m:M1 X o "get" apos e cpos):PE X (.Call (.Attribute o "get" apos) [e] [] cpos) (Oz td ty):=by
 intro pins s σ H Q I h
 refine wpAny_Call_method m.base m.few m.line PySem.F.plainAttrs_dict PySem.F.slot_dict_get PySem.F.type_dict_get (thn (ho pins s σ H _ I h) fun u s1 ⟨x,H1,I1,rx,a,ex,d,q1⟩=>?_)
 subst ex
 obtain rfl:u=Value.ref a:=rx
 obtain ⟨t1,t2,_⟩:=O1 I1 d
 refine ⟨t1,t2,?_⟩
 rw [m.trees]
 refine Calls.callWith_builtin rfl (Calls.evalArgs_plain (Calls.spliced_cons (thn (he pins s1 σ H1 _ I1 q1) fun iv s2 ⟨y,H2,I2,ry,ov,g,q2⟩=>Calls.spliced_nil ?_)))
 exact Ve hu I2 g ry fun w' s3 I3 rw'=>⟨_,H2,I3,rw',q2⟩
theorem gZ (hu:X.A.units + 1 < cLine) (ho:PE X o td) (he:PE X e ty) (hf:PE X f tx) (m:M2 X o "get" apos e f cpos):PE X (.Call (.Attribute o "get" apos) [e,f] [] cpos) (Mh td ty tx):=by
 intro pins s σ H Q I h
 refine wpAny_Call_method m.base m.few m.line PySem.F.plainAttrs_dict PySem.F.slot_dict_get PySem.F.type_dict_get (thn (ho pins s σ H _ I h) fun u s1 ⟨x,H1,I1,rx,a,ex,d,q1⟩=>?_)
 subst ex
 obtain rfl:u=Value.ref a:=rx
 obtain ⟨t1,t2,_⟩:=O1 I1 d
 refine ⟨t1,t2,?_⟩
 rw [m.trees]
 refine Calls.callWith_builtin rfl (Calls.evalArgs_plain (Calls.spliced_cons (thn (he pins s1 σ H1 _ I1 q1) fun iv s2 ⟨y,H2,I2,ry,q2⟩ =>
  Calls.spliced_cons (thn (hf pins s2 σ H2 _ I2 q2) fun fv s3 ⟨z,H3,I3,rz,ov,g,q3⟩=>Calls.spliced_nil ?_))))
 exact Wg hu I3 g ry rz fun w' s4 I4 rw'=>⟨_,H3,I4,rw',q3⟩
end
section
variable {X:Cx} {pins:List (Addr×Obj)} {σ:St} {H:Hp} {s:Shared} {a:Addr} {kvs:List (Key×V)} {A:Around} {E:Value->Shared->Prop}
end
section
variable {X:Cx} {pins:List (Addr×Obj)} {σ:St} {H:Hp} {s:Shared} {a:Addr} {y:V} {u:Value} {A:Around} {E:Value->Shared->Prop}
end
end L2
namespace HT
open PySem PyProof.Rows
def lexLt:List Int->List Int->Bool
 | [],[]=>false
 | [],_ :: _=>true
 | _ :: _,[]=>false
 | x :: xs,y :: ys=>if x=y then lexLt xs ys else decide (x < y)
theorem o4 (x y:Int) (xs ys:List Int):lexLt (x :: xs) (y :: ys)=if x=y then lexLt xs ys else decide (x < y):=rfl
theorem z6:lexLt [] []=false:=rfl
theorem zN (y:Int) (ys:List Int):lexLt [] (y :: ys)=true:=rfl
theorem yq (x:Int) (xs:List Int):lexLt (x :: xs) []=false:=rfl
theorem MJ (A:Around) (s:Shared) (a:Int) (t:Tok) (c:Int) (u:Tok):∃ e,SeqAt.EqAt A s (.int a t) (.int c u) e/\(e=true↔a=c) :=
 ⟨(a == c),SeqAt.EqAt.int_int a t c u,by simp⟩
theorem Nj (A:Around) (s:Shared) (a:Int) (t:Tok) (c:Int) (u:Tok) (prog:Program) (w:World) (E:Value->Shared->Prop) (Q:Value->Shared->Prop) (h:Q (.bool (decide (a < c))) s) :
  wpAny (model prog w) A (richCompare .Lt (.int a t) (.int c u)) Q E s :=
 (PyProof.Rows.lt_int h:wpAny (model prog w) A (compareOp .Lt (.int a t) (.int c u)) Q E s)
section
open PySem.SeqAt
open PySem.AutoSeq1 (wpAny_loadPart')
open PySem.MeetsSeq PySem.MeetsSeq2 PySem.MeetsSeq3
theorem zZ (l b:Addr) (items items2:Array Value) (n n2:Nat) (dd dd2:Option Addr) (sl sl2:Array (Option Value)) (ns ms:List Int) (hi:IntsAre items.toList ns) (hj:IntsAre items2.toList ms) :
  Meets (Builtin.«tuple.__lt__» ⟨[.ref l,.ref b],[]⟩)
   (fun _ R s=>s.heap.get? l=some { cls:=.type "tuple",dict:=dd,data:=.seq items n,slots:=sl }/\s.heap.get? b=some { cls:=.type "tuple",dict:=dd2,data:=.seq items2 n2,slots:=sl2 } /\
    R (.ok (.ret (.bool (lexLt ns ms)))) s) :=
 .of_wp fun prog w A R s h=>by
  obtain ⟨hp,g,d,tk,os⟩:=s; obtain ⟨hl,hb,h⟩:=h
  have f2:=AutoSeq1.sub_tuple_tuple
  have z1:items.size=ns.length:=by rw [← hi.length]; simp
  have z2:items2.size=ms.length:=by rw [← hj.length]; simp
  wp_walk using wpAny_loadPart' hl,wpAny_loadPart' hb,wpAny_forIn_list _ (fun rest b s'=>b.1=none/\s'=⟨hp,g,d,tk,os⟩/\∃ (vs ws:List Value) (ns' ms':List Int),rest=vs.zip ws /\
   IntsAre vs ns'/\IntsAre ws ms'/\ns'.length + items2.size=ms'.length + items.size/\R (.ok (.ret (.bool (lexLt ns' ms')))) ⟨hp,g,d,tk,os⟩) _
  case turn =>
   rintro ⟨y,x⟩ rest b s' ⟨hb',rfl,vs,ws,ns',ms',hz,hvi,hwi,hlen,hR⟩
   cases hvi with
   | nil=>rw [List.zip_nil_left] at hz; cases hz
   | cons a t hvi' =>
    cases hwi with
    | nil=>rw [List.zip_nil_right] at hz; cases hz
    | cons c u hwi' =>
     rw [List.zip_cons_cons] at hz
     injection hz with hyx hrest
     injection hyx with hy hx
     subst hy hx
     rw [o4] at hR
     simp only [List.length_cons] at hlen
     obtain ⟨e,he,hiff⟩:=MJ A.in1 ⟨hp,g,d,tk,os⟩ a t c u
     refine wpAny_bind (he prog w _ _ ?_)
     cases e with
     | true =>
      rw [if_pos (hiff.mp rfl)] at hR
      wp_walk
      exact ⟨rfl,rfl,_,_,_,_,hrest,hvi',hwi',by omega,hR⟩
     | false =>
      rw [if_neg (fun q=>absurd (hiff.mpr q) Bool.false_ne_true)] at hR
      have hri:=Nj A.in1 ⟨hp,g,d,tk,os⟩ a t c u prog w
      wp_walk using hri
      exact ⟨_,rfl,by simpa using hR⟩
  case fin =>
   rintro ⟨b1,b2⟩ s' ⟨hb',rfl,vs,ws,ns',ms',hz,hvi,hwi,hlen,hR⟩
   simp only at hb'
   subst hb'
   have hv:lexLt ns' ms'=decide (items.size < items2.size):=by
    cases hvi with
    | nil =>
     cases hwi with
     | nil =>
      simp only [List.length_nil] at hlen
      rw [z6]
      exact (decide_eq_false (by omega)).symm
     | cons c u hw =>
      simp only [List.length_nil,List.length_cons] at hlen
      rw [zN]
      exact (decide_eq_true (by omega)).symm
    | cons a t hv =>
     cases hwi with
     | nil =>
      simp only [List.length_nil,List.length_cons] at hlen
      rw [yq]
      exact (decide_eq_false (by omega)).symm
     | cons c u hw =>
      rw [List.zip_cons_cons] at hz
      cases hz
   rw [hv] at hR
   wp_walk
   exact ⟨_,rfl,by simpa [Builtin.Tuple.tupleCompareSizes] using hR⟩
  case h =>
   exact ⟨rfl,rfl,items.toList,items2.toList,ns,ms,rfl,hi,hj,by omega,h⟩
end
section
variable {prog:Program} {w:World} {A:Around} {E:Value->Shared->Prop} {s:Shared}
theorem Jd {l b:Addr} {items items2:Array Value} {ns ms:List Int} {Q:Value->Shared->Prop} (hl:IsTup s.heap l items) (hb:IsTup s.heap b items2) (hi:IntsAre items.toList ns) (hj:IntsAre items2.toList ms)
  (hu:A.units < cLine) (h:Q (.bool (lexLt ns ms)) s):wpAny (model prog w) A (compareOp .Lt (.ref l) (.ref b)) Q E s:=by
 obtain ⟨⟨cls,dd,data,sl⟩,ho,hc,n,hd⟩:=id hl
 obtain ⟨⟨cls2,dd2,data2,sl2⟩,ho2,hc2,n2,hd2⟩:=id hb
 simp only at hc hd hc2 hd2
 subst hc hd hc2 hd2
 exact richCompare_meets_room (op:=.Lt) ⟨_,ho,rfl⟩ ⟨_,ho2,rfl⟩ PySem.F.slot_tuple_lt PySem.F.entry_tuple_lt (PySem.F.args_tuple_lt_2 _ _) (zZ l b items items2 n n2 dd dd2 sl sl2 ns ms hi hj)
  ⟨ho,ho2,show Value.bool (lexLt ns ms)≠Value.notImplemented/\Q (.bool (lexLt ns ms)) s from ⟨(fun x=>nomatch x),h⟩⟩ hu
def sIx (n d:Nat):Option Int->Nat
 | none=>d
 | some v=>if v < 0 then (v + (n:Int)).toNat else min v.toNat n
theorem U8 (n d:Nat) (hd:d<=n) (o:Option Int):sIx n d o<=n:=by
 cases o with
 | none=>exact hd
 | some v =>
  show (if v < 0 then (v + (n:Int)).toNat else min v.toNat n)<=n
  by_cases hv:v < 0
  ·rw [if_pos hv]; omega
  ·rw [if_neg hv]; exact Nat.min_le_right _ _
theorem JL (v:Int) (n d:Nat):(if v < 0 then max (v + (n:Int)) 0 else min v (n:Int))=((sIx n d (some v):Nat):Int):=by
 show (if v < 0 then max (v + (n:Int)) 0 else min v (n:Int))=(((if v < 0 then (v + (n:Int)).toNat else min v.toNat n):Nat):Int)
 by_cases hv:v < 0
 ·simp only [if_pos hv]; omega
 ·simp only [if_neg hv]; omega
theorem HH (lo hi:Option Int) (n:Nat):Builtin.Slice.sliceAdjust lo hi 1 (n:Int)=(((sIx n 0 lo:Nat):Int),((sIx n n hi:Nat):Int)):=by
 have h1:¬ ((1:Int) < 0):=by omega
 unfold Builtin.Slice.sliceAdjust
 simp only [h1,if_false]
 refine Prod.ext ?_ ?_
 ·cases lo with
  | none=>rfl
  | some v=>exact JL v n 0
 ·cases hi with
  | none=>rfl
  | some v=>exact JL v n n
theorem Hy (i j:Nat):Builtin.Slice.slicePlaces (i:Int) (j:Int) 1=j - i:=by
 unfold Builtin.Slice.slicePlaces
 have h1:(1:Int) > 0:=by omega
 simp only [h1,if_true,Int.ediv_one]
 split <;> omega
theorem zK {v:Value} {o:Option Int} {Q:Option Int->Shared->Prop} (p:IsPart v o) (h:Q o s):wpAny (model prog w) A (Builtin.Slice.slicePartIndex v) Q E s:=by
 cases p with
 | none=>exact slicePart_none h
 | int i t=>exact slicePart_int h
theorem vB {sl:Addr} {vl vu:Value} {lo hi:Option Int} {n:Nat} {Q:Int×Int×Nat->Shared->Prop} (hs:s.heap.IsSliceOf sl vl vu .none) (pl:IsPart vl lo) (pu:IsPart vu hi)
  (h:Q (((sIx n 0 lo:Nat):Int),1,sIx n n hi - sIx n 0 lo) s):wpAny (model prog w) A (Builtin.Slice.sliceApplied (.ref sl) (pure (n:Int))) Q E s:=by
 obtain ⟨os,hos,hcs,hds⟩:=id hs
 unfold Builtin.Slice.sliceApplied Builtin.Slice.sliceFields
 refine wpAny_bind (wpAny_bind (wpAny_field hos hds (x:=vl) rfl (wpAny_bind (wpAny_field hos hds (x:=vu) rfl (wpAny_bind (wpAny_field hos hds (x:=.none) rfl (wpAny_pure ?_)))))))
 refine wpAny_bind (slicePart_none ?_)
 show wpAny _ _ (if ((1:Int) == 0)=true then _ else _) _ _ s
 rw [if_neg (by decide)]
 refine wpAny_bind (zK pl (wpAny_bind (zK pu (wpAny_bind (wpAny_pure ?_)))))
 show wpAny _ _ (match Builtin.Slice.sliceAdjust lo hi 1 (n:Int) with | (lo,hi)=>pure (lo,(1:Int),Builtin.Slice.slicePlaces lo hi 1)) _ _ s
 rw [HH lo hi n]
 show wpAny _ _ (pure (((sIx n 0 lo:Nat):Int),(1:Int),Builtin.Slice.slicePlaces ((sIx n 0 lo:Nat):Int) ((sIx n n hi:Nat):Int) 1)) _ _ s
 rw [Hy]
 exact wpAny_pure h
theorem NK (xs:Array Value) (i k:Nat):((List.range k).filterMap fun (m:Nat)=>xs[((i:Int) + (m:Int) * 1).toNat]?).toArray=((xs.toList.drop i).take k).toArray:=by
 have e:(fun (m:Nat)=>xs[((i:Int) + (m:Int) * 1).toNat]?)=fun m=>xs[i + m]?:=by
  funext m
  have:((i:Int) + (m:Int) * 1).toNat=i + m:=by omega
  rw [this]
 rw [e]
 have:=pick_run xs i k
 rw [List.filterMap_map] at this
 have e2:((fun x=>xs[x]?) ∘ fun x=>i + x)=fun m=>xs[i + m]?:=rfl
 rw [e2] at this
 rw [this]
theorem uy {t sl:Addr} {items:Array Value} {vl vu:Value} {lo hi:Option Int} {Q:Value->Shared->Prop} (ht:IsTup s.heap t items) (hs:s.heap.IsSliceOf sl vl vu .none) (pl:IsPart vl lo) (pu:IsPart vu hi)
  (hw:¬ (sIx items.size 0 lo=0/\sIx items.size items.size hi=items.size))
  (h:Q (.ref s.heap.objs.size) { s with heap:=s.heap.push { cls:=.type "tuple",data:=.seq ((items.toList.drop (sIx items.size 0 lo)).take (sIx items.size items.size hi - sIx items.size 0 lo)).toArray } })
  (hsz:items.size<=sizeLine):wpAny (model prog w) A (getItem (.ref t) (.ref sl)) Q E s:=by
 have htake:sizeOk (.seq ((items.toList.drop (sIx items.size 0 lo)).take (sIx items.size items.size hi - sIx items.size 0 lo)).toArray):=by
  show ((items.toList.drop (sIx items.size 0 lo)).take (sIx items.size items.size hi - sIx items.size 0 lo)).toArray.size<=sizeLine
  rw [List.size_toArray,List.length_take,List.length_drop,Array.length_toList]
  omega
 have hj:sIx items.size items.size hi<=items.size:=U8 _ _ (Nat.le_refl _) hi
 obtain ⟨os,hos,hcs,hds⟩:=id hs
 have hTs:s.TypeIs (.ref sl) "slice":=⟨os,hos,hcs⟩
 unfold getItem
 try with_reducible refine wpAny_holding ?_
 first | refine wpAny_bind (wpAny_pure ?_) | skip
 refine wpAny_bind (wpAny_sequenceKey ht.typeIs (by decide) ?_)
 refine wpAny_bind (wpAny_callSpecial?_slot (name:=Str.ofString "__getitem__") ht.typeIs PyProof.Rows.slot_tuple_getitem
  (wpAny_call_entry PyProof.Rows.slot_tuple_getitem ht.typeIs entry_tuple_getitem ?_ (args_tuple_getitem _ _)))
 show wpAny _ _ (Builtin.Tuple.tupleItemsOf (.ref t) >>= _) _ _ s
 refine wpAny_bind (tupleItemsOf_ ht ?_)
 refine wpAny_bind (wpAny_typeOf hTs ?_)
 rw [if_pos (by decide)]
 refine wpAny_bind (vB hs pl pu ?_)
 have hno:¬ ((((sIx items.size 0 lo:Nat):Int) == 0 && (1:Int) == 1 && (sIx items.size items.size hi - sIx items.size 0 lo) == items.size)=true):=by
  intro q
  rw [Bool.and_eq_true,Bool.and_eq_true] at q
  have q1:((sIx items.size 0 lo:Nat):Int)=0:=eq_of_beq q.1.1
  have q2:sIx items.size items.size hi - sIx items.size 0 lo=items.size:=eq_of_beq q.2
  exact hw ⟨by omega,by omega⟩
 show wpAny _ _ (if (((sIx items.size 0 lo:Nat):Int) == 0 && (1:Int) == 1 && (sIx items.size items.size hi - sIx items.size 0 lo) == items.size)=true then _ else _) _ _ s
 rw [if_neg hno,NK]
 first
  | exact wpAny_bind (m:=Builtin.Tuple.tupleExact _) (wpAny_newObj_type (wpAny_pure ⟨_,rfl,wpAny_pure h⟩) htake)
  | exact wpAny_bind (m:=Builtin.Tuple.tupleExact _) (wpAny_newObj_type (wpAny_bind (wpAny_pure (wpAny_pure ⟨_,rfl,wpAny_pure h⟩))) htake)
  | exact wpAny_bind (wpAny_bind (m:=Builtin.Tuple.tupleExact _) (wpAny_newObj_type (wpAny_pure (wpAny_pure ⟨_,rfl,wpAny_pure h⟩)) htake))
  | exact wpAny_bind (wpAny_bind (m:=Builtin.Tuple.tupleExact _) (wpAny_newObj_type (wpAny_pure ⟨_,rfl,wpAny_pure h⟩) htake))
end
end HT
namespace L2
open PySem PySem.Spec PyProof.Rows
abbrev TO:=St->Hp->(Option Int->Hp->Prop)->Prop
def PO (X:Cx) (e:Option Expr) (t:TO):Prop :=
 ∀ (pins:List (Addr×Obj)) (s:Shared) (σ:St) (H:Hp) (Q:Option Int->Hp->Prop),Inv X pins σ H s->t σ H Q ->
  wpAny (model X.prog X.w) X.A (evalPart e X.env) (fun u s'=>∃ o H',Inv X pins σ H' s'/\IsPart u o/\Q o H') X.xe s
def JM:TO:=fun _ H Q=>Q none H
def Sw (t:TE):TO:=fun σ H Q=>t σ H fun x H1=>∃ i,x=.int i/\Q (some i) H1
theorem intsAre_of {ns:List Int}:∀ {us:List Value},Vals (ns.map V.int) us->IntsAre us ns:=by
 induction ns with
 | nil=>intro us r; rw [List.map_nil] at r; cases r; exact .nil
 | cons n ns ih =>
  intro us r
  rw [List.map_cons] at r
  cases r with
  | cons r1 r2 =>
   obtain ⟨t,e⟩:=r1
   subst e
   exact .cons n t (ih r2)
section
variable {X:Cx} {e:Expr} {te:TE} {lo hi:Option Expr} {tl th:TO} {pos p2:Pos}
theorem iM:PO X none JM:=by
 intro pins s σ H Q I h
 rw [evalPart_none]
 exact wpAny_pure ⟨none,H,I,.none,h⟩
theorem cY (h:PE X e te):PO X (some e) (Sw te):=by
 intro pins s σ H Q I hw
 rw [evalPart_some]
 refine thn (h pins s σ H _ I hw) fun u s1 ⟨x,H1,I1,r1,q1⟩=>?_
 obtain ⟨i,rfl,q⟩:=q1
 obtain ⟨t,rfl⟩:=r1
 exact ⟨some i,H1,I1,.int i t,q⟩
def SlR (X:Cx) (r:V->Option Int->Option Int->Hp->VK->Prop):Prop :=
 ∀ (pins:List (Addr×Obj)) (s:Shared) (σ:St) (H:Hp) (x:V) (v vl vu:Value) (lo hi:Option Int) (sl:Addr) (Q:VK),Inv X pins σ H s->RelV x v->s.heap.IsSliceOf sl vl vu .none->IsPart vl lo->IsPart vu hi->r x lo hi H Q ->
  ∃ T id,typeLookup (.type T) "__getitem__"=pure (some (.builtin id))/\s.TypeIs v T/\wpAny (model X.prog X.w) X.A (getItem v (.ref sl)) (EP X pins σ Q) X.xe s
def tSl (r:V->Option Int->Option Int->Hp->VK->Prop) (te:TE) (tl th:TO):TE:=fun σ H Q=>te σ H fun x H1=>tl σ H1 fun l H2=>th σ H2 fun u H3=>r x l u H3 Q
theorem cR {r:V->Option Int->Option Int->Hp->VK->Prop} (hr:SlR X r) (he:PE X e te) (hl:PO X lo tl) (hu:PO X hi th):PE X (.Subscript e (.Slice lo hi none p2) pos) (tSl r te tl th):=by
 intro pins s σ H Q I h
 refine Subscript_ (thn (he pins s σ H _ I h) fun v s1 ⟨x,H1,I1,r1,q1⟩=>?_)
 refine wpAny_Slice (thn (hl pins s1 σ H1 _ I1 q1) fun vl s2 ⟨l,H2,I2,pl,q2⟩=>thn (hu pins s2 σ H2 _ I2 q2) fun vu s3 ⟨u,H3,I3,pu,q3⟩=>?_)
 rw [evalPart_none]
 refine wpAny_pure ?_
 have I4:Inv X pins σ H3 { s3 with heap:=s3.heap.push { cls:=.type "slice",data:=.fields #[vl,vu,.none] } }:=I3.kept (t':=s3.toks) fun b ob q=>Heap.get?_push_of_some _ q
 obtain ⟨T,id,hT,ht,hg⟩:=hr pins { s3 with heap:=s3.heap.push { cls:=.type "slice",data:=.fields #[vl,vu,.none] } } σ H3 x v vl vu l u s3.heap.objs.size Q I4 r1 (Heap.IsSliceOf.new ..) pl pu q3
 show wpAny (model X.prog X.w) X.A (subscriptTail e (.Slice lo hi none p2) v (.ref s3.heap.objs.size)) (EP X pins σ Q) X.xe { s3 with heap:=s3.heap.push { cls:=.type "slice",data:=.fields #[vl,vu,.none] } }
 exact tail_any (ops:=[.ref s3.heap.objs.size,v]) ht hT hg (by with_unfolding_all rfl)
def dz (xs:List V) (lo hi:Option Int):List V:=(xs.drop (HT.sIx xs.length 0 lo)).take (HT.sIx xs.length xs.length hi - HT.sIx xs.length 0 lo)
theorem wK (xs:List V) (lo hi:Option Int):(dz xs lo hi).length<=xs.length:=by
 unfold dz
 rw [List.length_take,List.length_drop]
 omega
def Xc (K:PySem.W.Frag):V->Option Int->Option Int->Hp->VK->Prop:=fun x lo hi H Q=>∃ a xs,x=.ref a/\SqT K H a xs /\
 ¬ (HT.sIx xs.length 0 lo=0/\HT.sIx xs.length xs.length hi=xs.length)/\∀ p,H p=none->Q (.ref p) (upd H p (.tup (dz xs lo hi)))
theorem Ux:SlR X (Xc X.K):=by
 intro pins s σ H x v vl vu lo hi sl Q I rx hs pl pu h
 obtain ⟨a,xs,rfl,hx,hw,q⟩:=h
 cases rx
 obtain ⟨its,r,ht,hz⟩:=I.tuple hx
 have hlen:its.toArray.size=xs.length:=by rw [List.size_toArray]; exact r.length.symm
 refine ⟨"tuple",_,PyProof.Rows.slot_tuple_getitem.lookup,ht.typeIs,?_⟩
 refine HT.uy ht hs pl pu (by rw [hlen]; exact hw) ?_ (by rw [hlen]; exact hz)
 rw [hlen]
 refine ⟨.ref s.heap.objs.size,_,I.laid (t':=s.toks) (o:=.tup (dz xs lo hi)) (fun b ob q=>Heap.get?_push_of_some _ q) (Nat.le_refl _) ?_,rfl,q _ (I.hok.fresh (Nat.le_refl _))⟩
 exact ⟨Nat.le_trans (wK xs lo hi) hz,_,(r.drop (HT.sIx xs.length 0 lo)).take (HT.sIx xs.length xs.length hi - HT.sIx xs.length 0 lo),IsTpl.new _ _⟩
end
end L2
namespace L2
open PySem PySem.Spec PyProof.Rows
def ixN (n:Nat) (i:Int):Option Nat:=if 0<=i then (if i < n then some i.toNat else none) else if -(n:Int)<=i then some (i + n).toNat else none
def atI {α:Type} (xs:List α) (i:Int):Option α:=(ixN xs.length i).bind fun j=>xs[j]?
theorem Sv {n:Nat} {i:Int} {j:Nat} (h:ixN n i=some j):seqIndex? i n=some j/\j < n/\-(n:Int)<=i/\i < n:=by
 unfold ixN at h
 by_cases h0:0<=i
 ·rw [if_pos h0] at h
  by_cases h1:i < n
  ·rw [if_pos h1] at h
   have e:i.toNat=j:=Option.some.inj h
   exact ⟨by rw [seqIndex_of h0 h1,e],by omega,by omega,h1⟩
  ·rw [if_neg h1] at h; cases h
 ·rw [if_neg h0] at h
  by_cases h1:-(n:Int)<=i
  ·rw [if_pos h1] at h
   have e:(i + n).toNat=j:=Option.some.inj h
   exact ⟨by rw [seqIndex_neg (by omega) h1,e],by omega,h1,by omega⟩
  ·rw [if_neg h1] at h; cases h
theorem CQ {α:Type} {xs:List α} {i:Int} {v:α} (h:atI xs i=some v):∃ j,seqIndex? i xs.length=some j/\xs[j]?=some v/\j < xs.length/\-(xs.length:Int)<=i/\i < xs.length:=by
 unfold atI at h
 cases e:ixN xs.length i with
 | none=>rw [e] at h; cases h
 | some j =>
  rw [e] at h
  obtain ⟨h1,h2,h3,h4⟩:=Sv e
  exact ⟨j,h1,h,h2,h3,h4⟩
theorem ig {α:Type} {xs:List α} {j:Nat} {v:α} (h:xs[j]?=some v):atI xs (j:Int)=some v:=by
 have hj:j < xs.length:=(List.getElem?_eq_some_iff.mp h).1
 have e:ixN xs.length (j:Int)=some j:=by
  unfold ixN
  rw [if_pos (by omega),if_pos (by omega)]; simp
 unfold atI; rw [e]; exact h
theorem Ot {α:Type} (xs:List α) (v:α):atI (xs ++ [v]) (-1)=some v:=by
 have hl:(xs ++ [v]).length=xs.length + 1:=by simp
 have e:ixN (xs ++ [v]).length (-1)=some xs.length:=by
  unfold ixN
  rw [hl,if_neg (by decide),if_pos (by omega)]
  congr 1
  omega
 unfold atI
 rw [e]
 show (xs ++ [v])[xs.length]?=some v
 simp
def RC (b:Expr):Prop:=∀ o i,subscripted b false o i=operate [o,i] (getItem o i)
def IxR (X:Cx) (r:R2):Prop :=
 ∀ (value slice:Expr) (pins:List (Addr×Obj)) (s:Shared) (σ:St) (H:Hp) (x y:V) (v u:Value) (Q:VK),Inv X pins σ H s->RelV x v->RelV y u->r x y H Q ->
  subscripted slice false v u=operate [v,u] (getItem v u)->wpAny (model X.prog X.w) X.A (subscriptTail value slice v u) (EP X pins σ Q) X.xe s
def MtR (X:Cx) (id:String) (r:V->List V->Hp->VK->Prop):Prop :=
 ∀ (pins:List (Addr×Obj)) (s:Shared) (σ:St) (H:Hp) (x:V) (xs:List V) (v:Value) (us:List Value) (Q:VK),Inv X pins σ H s->RelV x v->Vals xs us->r x xs H Q ->
  wpAny (model X.prog X.w) X.A (call (.builtin id) (v :: us)) (EP X pins σ Q) X.xe s
section
variable {X:Cx} {a b:Expr} {ta tb:TE} {pos:Pos}
theorem IxR.or {r r':R2} (h:IxR X r) (h':IxR X r'):IxR X (fun x y H Q=>r x y H Q∨r' x y H Q):=by
 intro value slice pins s σ H x y v u Q I rx ry q hs
 rcases q with q | q
 ·exact h value slice pins s σ H x y v u Q I rx ry q hs
 ·exact h' value slice pins s σ H x y v u Q I rx ry q hs
theorem aW {r:R2} (hr:IxR X r) (ha:PE X a ta) (hb:PE X b tb) (hs:RC b):PE X (.Subscript a b pos) (tOp r ta tb):=by
 intro pins s σ H Q I h
 exact Subscript_ (Vb ha hb I h fun v u s2 x y H2 I2 rx ry q=>hr a b pins s2 σ H2 x y v u Q I2 rx ry q (hs _ _))
def Rm (K:PySem.W.Frag):R2:=fun x y H Q=>∃ p xs i v,x=.ref p/\y=.int i/\SqL K H p xs/\atI xs i=some v/\Q v H
def Rw (K:PySem.W.Frag):R2:=fun x y H Q=>∃ p xs i v,x=.ref p/\y=.int i/\SqT K H p xs/\atI xs i=some v/\Q v H
def XD:R2:=fun x y H Q=>∃ z i c,x=.str z/\y=.int i/\z.length<=sizeLine/\atI z.cps.toList i=some c/\Q (.str ⟨#[c]⟩) H
theorem ix_list:IxR X (Rm X.K):=by
 intro value slice pins s σ H x y v u Q I rx ry h hs
 obtain ⟨p,xs,i,z,rfl,rfl,hq,he,q⟩:=h
 cases rx
 obtain ⟨t,rfl⟩:=ry
 obtain ⟨its,r,pl,hz⟩:=I.list hq
 obtain ⟨j,h1,h2,h3,h4,h5⟩:=CQ he
 obtain ⟨w,ew,rw'⟩:=r.get h2
 have hl:=r.length
 have hn:=vG
 have fin:EP X pins σ Q w s:=⟨z,H,I,rw',q⟩
 by_cases h0:0<=i
 ·have hj:i.toNat=j:=by
   rw [seqIndex_of h0 h5] at h1
   exact Option.some.inj h1
  exact item_listR pl.isList h0 (by omega) (by rw [hj]; simpa using ew) fin hs
 ·have hj:(i + (its.toArray.size:Int)).toNat=j:=by
   rw [seqIndex_neg (by omega) h4] at h1
   rw [List.size_toArray,← hl]
   exact Option.some.inj h1
  exact subscriptTail_builtinR (x:=w) pl.isList.typeIs slot_list_getitem.lookup
   (wpAny_getItem_list_neg (Q:=fun r s'=>r=w/\EP X pins σ Q r s') pl.isList (by omega) (by rw [List.size_toArray] <;> omega) (by omega) (by rw [hj]; simpa using ew) ⟨rfl,fin⟩) hs
theorem ix_tup:IxR X (Rw X.K):=by
 intro value slice pins s σ H x y v u Q I rx ry h hs
 obtain ⟨p,xs,i,z,rfl,rfl,hq,he,q⟩:=h
 cases rx
 obtain ⟨t,rfl⟩:=ry
 obtain ⟨its,r,pl,hz⟩:=I.tuple hq
 obtain ⟨j,h1,h2,h3,h4,h5⟩:=CQ he
 obtain ⟨w,ew,rw'⟩:=r.get h2
 have hl:=r.length
 have hn:=vG
 have fin:EP X pins σ Q w s:=⟨z,H,I,rw',q⟩
 exact subscriptTail_builtinR (x:=w) pl.typeIs slot_tuple_getitem.lookup
  (getItem_tuple (j:=j) (Q:=fun r s'=>r=w/\EP X pins σ Q r s') pl (by omega) (by omega) (by rw [List.size_toArray,← hl]; exact h1) (by simpa using ew) ⟨rfl,fin⟩) hs
theorem U3:IxR X XD:=by
 intro value slice pins s σ H x y v u Q I rx ry h hs
 obtain ⟨z,i,c,rfl,rfl,hz,he,q⟩:=h
 obtain ⟨t,rfl⟩:=rx
 obtain ⟨t',rfl⟩:=ry
 obtain ⟨j,h1,h2,h3,h4,h5⟩:=CQ he
 have hl:z.cps.toList.length=z.length:=by simp [Str.length]
 rw [hl] at h1 h4 h5
 have hn:=vG
 exact tail_any (typeIs_str s z t) slot_str_getitem.lookup (getItem_str (c:=c) (by
  have e1:decide (i < -(2 ^ 63:Int))=false:=decide_eq_false (by omega)
  have e2:decide (i ≥ 2 ^ 63)=false:=decide_eq_false (by omega)
  rw [e1,e2,Bool.or_false]) (by rw [h1]; simpa using h2) ⟨.str ⟨#[c]⟩,H,I.tok _,⟨_,rfl⟩,q⟩) hs
def rIx (K:PySem.W.Frag):R2:=fun x y H Q=>Rm K x y H Q∨Rw K x y H Q∨XD x y H Q
theorem Wl:IxR X (rIx X.K):=ix_list.or (ix_tup.or U3)
theorem BV (lo hi:Option Int) (n:Nat):(sliceBounds lo hi none n).1=((HT.sIx n 0 lo:Nat):Int)/\(sliceBounds lo hi none n).2.1=((HT.sIx n n hi:Nat):Int)/\(sliceBounds lo hi none n).2.2=1:=by
 refine ⟨?_,?_,rfl⟩
 ·cases lo with
  | none=>simp [sliceBounds,HT.sIx]
  | some i =>
   simp only [sliceBounds,HT.sIx,Option.getD_none,show (1:Int) > 0 by decide,if_true]
   by_cases h:i < 0
   ·simp only [h,if_true] <;> omega
   ·simp only [h,if_false] <;> omega
 ·cases hi with
  | none=>simp [sliceBounds,HT.sIx]
  | some i =>
   simp only [sliceBounds,HT.sIx,Option.getD_none,show (1:Int) > 0 by decide,if_true]
   by_cases h:i < 0
   ·simp only [h,if_true] <;> omega
   ·simp only [h,if_false] <;> omega
theorem zP (its:List Value) (lo hi:Option Int):slicePick its.toArray lo hi none=((its.drop (HT.sIx its.length 0 lo)).take (HT.sIx its.length its.length hi - HT.sIx its.length 0 lo)).toArray:=by
 obtain ⟨h1,h2,h3⟩:=BV lo hi its.toArray.size
 unfold slicePick
 rw [h1,h2,h3]
 simp only [sliceRange_one,pick_run,List.size_toArray] <;> rfl
def We (K:PySem.W.Frag):V->Option Int->Option Int->Hp->VK->Prop:=fun x lo hi H Q=>∃ a xs,x=.ref a/\SqL K H a xs/\∀ p,H p=none->Q (.ref p) (upd H p (.lst (dz xs lo hi)))
theorem Sh:SlR X (We X.K):=by
 intro pins s σ H x v vl vu lo hi sl Q I rx hs pl pu h
 obtain ⟨a,xs,rfl,hx,q⟩:=h
 cases rx
 obtain ⟨its,r,ht,hz⟩:=I.list hx
 have hlen:=r.length
 refine ⟨"list",_,slot_list_getitem.lookup,ht.isList.typeIs,?_⟩
 refine wpAny_getItem_list_slice ht.isList hs pl pu .none (by simp) ?_ (by rw [List.size_toArray] <;> omega)
 rw [zP,← hlen]
 refine ⟨.ref s.heap.objs.size,_,I.laid (t':=s.toks) (o:=.lst (dz xs lo hi)) (fun b ob q=>Heap.get?_push_of_some _ q) (Nat.le_refl _) ?_,rfl,q _ (I.hok.fresh (Nat.le_refl _))⟩
 exact ⟨Nat.le_trans (wK xs lo hi) hz,_,0,(r.drop (HT.sIx xs.length 0 lo)).take (HT.sIx xs.length xs.length hi - HT.sIx xs.length 0 lo),Heap.get?_push_size _ rfl⟩
theorem Bw:gC X (.builtin "len") (fun xs H Q=>∃ p ys,xs=[.ref p]/\(SqL X.K H p ys∨SqT X.K H p ys)/\Q (.int ys.length) H):=by
 intro pins s σ H xs us Q I r h
 obtain ⟨p,ys,rfl,hq,q⟩:=h
 obtain ⟨u,rfl,rx⟩:=vals1 r
 cases rx
 have hn:=vG
 rcases hq with hq | hq
 ·obtain ⟨its,r',pl,hz⟩:=I.list hq
  have hlen:=r'.length
  exact Calls.call_len_list pl.isList (by simp only [List.size_toArray] <;> omega) ⟨.int ys.length,H,I.tok _,⟨s.toks + 1,by rw [List.size_toArray,hlen]⟩,q⟩
 ·obtain ⟨its,r',pl,hz⟩:=I.tuple hq
  have hlen:=r'.length
  exact len_tuple pl (by simp only [List.size_toArray] <;> omega) ⟨.int ys.length,H,I.tok _,⟨s.toks + 1,by rw [List.size_toArray,hlen]⟩,q⟩
theorem BL:gC X (.type "list") (fun xs H Q=>∃ p ys,xs=[.ref p]/\(SqL X.K H p ys∨SqT X.K H p ys)/\∀ l,H l=none->Q (.ref l) (upd H l (.lst ys))):=by
 intro pins s σ H xs us Q I r h
 obtain ⟨p,ys,rfl,hq,q⟩:=h
 obtain ⟨u,rfl,rx⟩:=vals1 r
 cases rx
 have fin:∀ (its:List Value),Vals ys its->ys.length<=sizeLine->∀ (h':Heap) (c':Nat),(∀ b o',s.heap.get? b=some o'->h'.get? b=some o') ->
   h'.get? s.heap.objs.size=some { cls:=.type "list",dict:=none,data:=.seq its.toArray c',slots:=#[] }->EP X pins σ Q (.ref s.heap.objs.size) { s with heap:=h' }:=fun its r' hz h' c' kp e =>
  ⟨.ref s.heap.objs.size,_,I.laid (t':=s.toks) kp (Nat.le_refl _) (show ObjOk X.prog X.w _ h' _ (.lst ys) from ⟨hz,its,c',r',e⟩),rfl,q _ (I.hok.fresh (Nat.le_refl _))⟩
 rcases hq with hq | hq
 ·obtain ⟨its,r',pl,hz⟩:=I.list hq
  have hlen:=r'.length
  obtain ⟨o,ho,hc,n,hd⟩:=pl.isList
  exact call_list_seq p (.inl rfl) ho hc hd (fun h' c' kp e=>fin its r' hz h' c' kp e) (by simp only [List.size_toArray] <;> omega)
 ·obtain ⟨its,r',pl,hz⟩:=I.tuple hq
  have hlen:=r'.length
  obtain ⟨o,ho,hc,n,hd⟩:=pl
  exact call_list_seq p (.inr rfl) ho hc hd (fun h' c' kp e=>fin its r' hz h' c' kp e) (by simp only [List.size_toArray] <;> omega)
theorem zW:gC X (.type "tuple") (fun xs H Q=>∃ p ys,xs=[.ref p]/\((SqL X.K H p ys/\∀ l,H l=none->Q (.ref l) (upd H l (.tup ys)))∨(SqT X.K H p ys/\Q (.ref p) H))):=by
 intro pins s σ H xs us Q I r h
 obtain ⟨p,ys,rfl,h⟩:=h
 obtain ⟨u,rfl,rx⟩:=vals1 r
 cases rx
 rcases h with ⟨hq,q⟩ | ⟨hq,q⟩
 ·obtain ⟨its,r',pl,hz⟩:=I.list hq
  have hlen:=r'.length
  refine call_tuple_list pl.isList (fun h' kp=>?_) (by simp only [List.size_toArray] <;> omega)
  have I1:Inv X pins σ H { s with heap:=h' }:=I.kept (t':=s.toks) kp
  have I2:Inv X pins σ (upd H h'.objs.size (.tup ys)) { s with heap:=h'.push { cls:=.type "tuple",data:=.seq its.toArray } } :=
   I1.laid (t':=s.toks) (fun b o e=>Heap.get?_push_of_some _ e) (Nat.le_refl _) (show ObjOk X.prog X.w _ _ _ (.tup ys) from ⟨hz,its,r',IsTpl.new _ _⟩)
  exact ⟨.ref h'.objs.size,_,I2,rfl,q _ (I1.hok.fresh (Nat.le_refl _))⟩
 ·obtain ⟨its,r',pl,hz⟩:=I.tuple hq
  exact call_tuple_same pl ⟨.ref p,H,I,rfl,q⟩
def tyV (K:PySem.W.Frag) (T:String) (x:V) (H:Hp):Prop:=match x with
 | .str _=>T="str"
 | .int _=>T="int"
 | .ref p=>(T="list"/\∃ xs,SqL K H p xs)∨(T="tuple"/\∃ o,K.lookup p=some o/\o.cls=.type "tuple"/\o.dict=none) ∨
   (T="dict"/\((∃ kvs,H p=some (.dK kvs))∨∃ kvs,H p=some (.dT kvs)))∨(T="set"/\∃ S n,H p=some (.set S n))
 | _=>False
theorem Dm {pins:List (Addr×Obj)} {σ:St} {H:Hp} {s:Shared} {T:String} {x:V} {v:Value} (I:Inv X pins σ H s) (r:RelV x v) (ty:tyV X.K T x H) :
  s.TypeIs v T/\∀ a,v=.ref a->∃ ob,s.heap.get? a=some ob/\ob.dict=none:=by
 cases x with
 | str z =>
  obtain ⟨t,rfl⟩:=r
  cases (show T="str" from ty)
  exact ⟨typeIs_str s z t,fun _ e=>nomatch e⟩
 | int i =>
  obtain ⟨t,rfl⟩:=r
  cases (show T="int" from ty)
  exact ⟨typeIs_int s i t,fun _ e=>nomatch e⟩
 | ref p =>
  cases r
  rcases ty with ⟨rfl,xs,hq⟩ | ⟨rfl,o,hk,hc,hd⟩ | ⟨rfl,hk⟩ | ⟨rfl,S,n,hk⟩
  ·obtain ⟨its,_,pl,_⟩:=I.list hq
   refine ⟨pl.isList.typeIs,fun a e=>?_⟩
   cases e
   obtain ⟨o,n,e,c,hd,_⟩:=pl
   exact ⟨o,e,hd⟩
  ·refine ⟨⟨o,I.kIn p o hk,hc⟩,fun a e=>?_⟩
   cases e
   exact ⟨o,I.kIn _ o hk,hd⟩
  ·have z:∃ o,s.heap.get? p=some o/\o.ExactDict:=by
    rcases hk with ⟨kvs,hk⟩ | ⟨kvs,hk⟩
    ·obtain ⟨_,_,_,_,o,_,_,e,ex,_⟩:=I.hok p _ hk
     exact ⟨o,e,ex⟩
    ·obtain ⟨_,_,_,_,o,_,_,e,ex,_⟩:=I.hok p _ hk
     exact ⟨o,e,ex⟩
   obtain ⟨o,e,ex⟩:=z
   refine ⟨⟨o,e,ex.1⟩,fun a e2=>?_⟩
   cases e2
   exact ⟨o,e,ex.2.1⟩
  ·obtain ⟨o,_,_,_,e,ex,_⟩:=I.hok p _ hk
   refine ⟨⟨o,e,ex.1⟩,fun a e2=>?_⟩
   cases e2
   exact ⟨o,e,ex.2.1⟩
 | _=>exact False.elim ty
def WY (K:PySem.W.Frag) (T:String) (r:V->List V->Hp->VK->Prop) (to:TE):TE:=fun σ H Q=>to σ H fun x H1=>tyV K T x H1/\r x [] H1 Q
def tBM (K:PySem.W.Frag) (T:String) (r:V->List V->Hp->VK->Prop) (to:TE) (t:TA):TE:=fun σ H Q=>to σ H fun x H1=>tyV K T x H1/\t σ H1 fun xs H2=>r x xs H2 Q
variable {o e:Expr} {es:List Expr} {to:TE} {t:TA} {name:Str} {apos cpos:Pos} {T id:String} {r:V->List V->Hp->VK->Prop}
theorem V1 (pa:PlainAttrs T) (slot:Slot T name id) (hty:typeOf (.builtin id)=pure (.type "method_descriptor")) (hm:MtR X id r) (ho:PE X o to)
  (hbase:attributeBase o name X.env (eval o X.env)=eval o X.env:=by rfl) (hline:(apos.endLine == cpos.line)=true:=by rfl):PE X (.Call (.Attribute o name apos) [] [] cpos) (WY X.K T r to):=by
 intro pins s σ H Q I h
 refine wpAny_Call_method0_late hbase hline (thn (ho pins s σ H _ I h) fun v s1 ⟨x,H1,I1,r1,ty,q1⟩=>?_)
 obtain ⟨h1,h2⟩:=Dm I1 r1 ty
 exact ⟨T,id,pa,slot,hty,h1,h2,Calls.callWith_builtin rfl (PySem.evalArgs_none (hm pins s1 σ H1 x [] v [] Q I1 r1 .nil q1))⟩
theorem rA (pa:PlainAttrs T) (slot:Slot T name id) (hty:typeOf (.builtin id)=pure (.type "method_descriptor")) (hm:MtR X id r) (ho:PE X o to) (ha:PA X (e :: es) t)
  (hbase:attributeBase o name X.env (eval o X.env)=eval o X.env:=by rfl)
  (hfew:((backTo cpos (starEach (e :: es) X.env)).all (fun x=>!x.1) && (backToKw cpos (keywordEach [] X.env)).all (fun x=>x.1.isSome)
   && decide ((e :: es).length + ([]:List Keyword).length + (if ([]:List Keyword).isEmpty then 0 else 1) < 30))=true:=by rfl)
  (hline:(apos.endLine == cpos.line)=true:=by rfl) (hs:starEach (e :: es) X.env=(false,eval e X.env) :: starEach es X.env:=by rfl) (hplain:(backTo cpos (starEach es X.env)).any (·.1)=false:=by rfl) :
  PE X (.Call (.Attribute o name apos) (e :: es) [] cpos) (tBM X.K T r to t):=by
 intro pins s σ H Q I h
 refine wpAny_Call_method_late hbase hfew hline rfl (thn (ho pins s σ H _ I h) fun v s1 ⟨x,H1,I1,r1,ty,q1⟩=>?_)
 obtain ⟨h1,h2⟩:=Dm I1 r1 ty
 refine ⟨T,id,pa,slot,hty,h1,h2,?_⟩
 have hA:=ha cpos pins s1 σ H1 _ I1 q1
 rw [hs] at hA ⊢
 refine Calls.callWith_builtin (by show (false || (backTo cpos (starEach es X.env)).any (·.1))=false; rw [hplain] <;> rfl) (Calls.evalArgs_plain ?_)
 exact thn hA fun us s2 ⟨vs,H2,I2,r2,q2⟩=>hm pins s2 σ H2 x vs v us Q I2 r1 r2 q2
end
end L2
namespace L2
open PySem PySem.Spec PyProof.Rows
def MtM (X:Cx) (id:String) (r:V->List V->Hp->VK->Prop):Prop :=
 ∀ (pins:List (Addr×Obj)) (s:Shared) (σ:St) (H:Hp) (x:V) (xs:List V) (v:Value) (us:List Value) (Q:VK),Inv X pins σ H s->RelV x v->Vals xs us->r x xs H Q ->
  wpAny (model X.prog X.w) X.A (call (.builtin id) (v :: us)) (EP X pins σ Q) X.xe s
theorem Vals.one:∀ {x:V} {us:List Value},Vals [x] us->∃ u,us=[u]/\RelV x u
 | _,_,.cons r .nil=>⟨_,rfl,r⟩
theorem Vals.two:∀ {x y:V} {us:List Value},Vals [x,y] us->∃ u v,us=[u,v]/\RelV x u/\RelV y v
 | _,_,_,.cons r (.cons q .nil)=>⟨_,_,rfl,r,q⟩
section
variable {X:Cx} {pins:List (Addr×Obj)} {σ:St} {H:Hp} {s:Shared} {l b:Addr} {xs ys zs:List V}
theorem Inv.lset {its its':List Value} {n:Nat} {f:Array Value->Array Value} {t':Nat} (I:Inv X pins σ H s) (hH:H l=some (.lst xs))
  (e:s.heap.get? l=some { cls:=.type "list",data:=.seq its.toArray n }) (hf:f its.toArray=its'.toArray) (hv:Vals ys its') (hz:ys.length<=sizeLine) :
  Inv X pins σ (upd H l (.lst ys)) { s with heap:=s.heap.update l (Obj.mapSeq f),toks:=t' }:=by
 have q:=PySem.IsL.update e f
 rw [hf] at q
 refine I.write (x:=l) (e:=l) (by rw [hH]; exact trivial) (.inl rfl) (fun b' u hb hu=>(Heap.get?_update_other s.heap (Obj.mapSeq f) (Ne.symm hb)).trans hu) ⟨_,q⟩ ?_
 exact ⟨hz,its',_,hv,q⟩
theorem Inv.lnew {its:List Value} {t':Nat} (I:Inv X pins σ H s) (hv:Vals ys its) (hz:ys.length<=sizeLine) :
  Inv X pins σ (upd H s.heap.objs.size (.lst ys)) { s with heap:=s.heap.push { cls:=.type "list",data:=.seq its.toArray },toks:=t' } :=
 I.laid (fun _ _ q=>Heap.get?_push_of_some _ q) (Nat.le_refl _) ⟨hz,its,0,hv,Heap.get?_push_size _ rfl⟩
theorem Inv.fresh (I:Inv X pins σ H s):H s.heap.objs.size=none:=I.hok.fresh (Nat.le_refl _)
theorem Inv.lstM (I:Inv X pins σ H s) (hH:H l=some (.lst xs)):xs.length<=sizeLine/\∃ (its:List Value) (n:Nat),Vals xs its/\xs.length=its.length/\s.heap.get? l=some { cls:=.type "list",data:=.seq its.toArray n }:=by
 obtain ⟨z,its,n,r,e⟩:=I.hok l _ hH
 exact ⟨z,its,n,r,r.length,e⟩
theorem Qz {n:Nat} (h:n<=sizeLine):Builtin.List.listTooLong n=false:=by
 unfold Builtin.List.listTooLong
 exact decide_eq_false (by omega)
end
section
variable {X:Cx}
def xN:V->List V->Hp->VK->Prop:=fun x vs H Q=>∃ l xs y,x=.ref l/\vs=[y]/\H l=some (.lst xs)/\xs.length < sizeLine/\Q .non (upd H l (.lst (xs ++ [y])))
theorem iC:MtM X "list.append" xN:=by
 intro pins s σ H x vs v us Q I rx rv h
 obtain ⟨l,xs,y,rfl,rfl,hH,hz,q⟩:=h
 cases rx
 obtain ⟨u,rfl,ru⟩:=rv.one
 obtain ⟨z,its,n,r,hl,e⟩:=I.lstM hH
 refine call_meets F.slot_list_append ⟨_,e,rfl⟩ F.entry_list_append (F.args_list_append_2 _ _) (PySem.list_append l its.toArray n u (by rw [List.size_toArray]; omega)) ⟨e,?_⟩
 refine ⟨.non,_,I.lset (its':=its ++ [u]) hH e (by simp) (r.append (.cons ru .nil)) ?_,rfl,q⟩
 rw [List.length_append,List.length_singleton]
 omega
def Q8:V->List V->Hp->VK->Prop:=fun x vs H Q=>∃ l b xs zs,x=.ref l/\vs=[.ref b]/\H l=some (.lst xs)/\H b=some (.lst zs)/\xs.length + zs.length<=sizeLine/\Q .non (upd H l (.lst (xs ++ zs)))
theorem Lx:MtM X "list.extend" Q8:=by
 intro pins s σ H x vs v us Q I rx rv h
 obtain ⟨l,b,xs,zs,rfl,rfl,hH,hB,hz,q⟩:=h
 cases rx
 obtain ⟨u,rfl,ru⟩:=rv.one
 cases ru
 obtain ⟨z,its,n,r,hl,e⟩:=I.lstM hH
 obtain ⟨z2,its2,n2,r2,hl2,e2⟩:=I.lstM hB
 have hsz:its.toArray.size + its2.toArray.size<=sizeLine:=by rw [List.size_toArray,List.size_toArray]; omega
 have hlong:¬ (!its.toArray.isEmpty && Builtin.List.listTooLong (its.toArray.size + its2.toArray.size))=true:=by
  rw [Qz hsz,Bool.and_false]
  exact Bool.false_ne_true
 refine call_meets F.slot_list_extend ⟨_,e,rfl⟩ F.entry_list_extend (F.args_list_extend_2 _ _)
  (AutoSeq1.list_extend_list_list_0 l its.toArray n b its2.toArray n2 hlong (by rw [List.size_toArray]; omega) (by omega)) ⟨e,e2,?_⟩
 refine ⟨.non,_,I.lset (its':=its ++ its2) hH e (by simp) (r.append r2) ?_,rfl,q⟩
 rw [List.length_append]
 omega
def Xa:R2:=fun x y H Q=>∃ l b xs zs,x=.ref l/\y=.ref b/\H l=some (.lst xs)/\H b=some (.lst zs)/\xs.length + zs.length<=sizeLine/\∀ p,H p=none->Q (.ref p) (upd H p (.lst (xs ++ zs)))
theorem Cp:OpR X (binaryOp .Add) Xa:=by
 intro pins s σ H x y v u Q I rx ry h
 obtain ⟨l,b,xs,zs,rfl,rfl,hH,hB,hz,q⟩:=h
 cases rx
 cases ry
 obtain ⟨z,its,n,r,hl,e⟩:=I.lstM hH
 obtain ⟨z2,its2,n2,r2,hl2,e2⟩:=I.lstM hB
 refine PySem.P.add_list e e2 ?_ (by rw [List.size_toArray,List.size_toArray]; omega)
 have ea:its.toArray ++ its2.toArray=(its ++ its2).toArray:=by simp
 rw [ea]
 exact ⟨.ref _,_,I.lnew (t':=s.toks) (r.append r2) (by rw [List.length_append]; omega),rfl,q _ I.fresh⟩
end
section
variable {prog:Program} {w:World} {A:Around} {E:Value->Shared->Prop} {s:Shared}
end
section
variable {X:Cx}
end
end L2
namespace Att
open PySem PySem.W PySem.Calls PyProof.Rows
theorem wZ {P:Params} {h:Heap}:∀ (ns:List Int) (vs:List Value),WellAll P h vs (ns.map WData.int)->IntsAre vs ns:=by
 intro ns
 induction ns with
 | nil =>
  intro vs w
  rw [List.map_nil] at w
  cases w
  exact .nil
 | cons n ns ih =>
  intro vs w
  rw [List.map_cons] at w
  cases w with
  | cons a b =>
   cases a
   exact .cons _ _ (ih _ b)
theorem KN {l:OpenLaw} {n:Nat} (hn:l.most=some n) {P:Params} {h:Heap} {args:List WData} {vals:List Value}
  (hpre:l.row.toRowW.claim.pre args=true) (hwl:WellAll P h vals args) :
  ∃ a vs ns,vals=[Value.ref a]/\args=[WData.list (ns.map WData.int)]/\h.get? a=some { cls:=.type "list",data:=.seq vs.toArray }/\IntsAre vs ns/\ns.length<=n:=by
 have hsh:WShape.hasAll [] args [.list .int]=true:=(pre_splitW hpre).1
 have hc:l.pre.holds [] { args:=args }=true:=(pre_splitW hpre).2
 obtain ⟨d,r,rfl,h1,h2⟩:=hasAllW_cons hsh
 obtain rfl:=hasAllW_nil h2
 obtain ⟨xs,rfl,h3⟩:=hasW_list h1
 obtain ⟨ns,rfl⟩:=items_int h3
 have hlen:ns.length<=n:=by
  unfold OpenLaw.pre at hc
  have h4:(WTm.not (.lt (.lit (.int (n:Int))) (.len (.arg 0)))).holds [] { args:=[.list (ns.map .int)] }=true:=by
   have h4:=(holds_andW hc).1
   rw [hn] at h4
   exact h4
  have h5:=condW_of h4 (w_not (w_lt w_lit (w_len_list (w_arg rfl))))
  rw [List.length_map] at h5
  refine Nat.le_of_not_lt fun q=>?_
  have q':(n:Int) < ((ns.length:Nat):Int):=by omega
  first
   | (rw [decide_eq_true q'] at h5; exact absurd h5 (by decide))
   | (simp at h5; omega)
 cases hwl with
 | cons w1 w2 =>
  cases w2
  cases w1 with
  | list ho hall=>exact ⟨_,_,ns,rfl,rfl,ho,wZ ns _ hall,hlen⟩
theorem Ln (l:OpenLaw) (args:List WData):l.row.toRowW.claim.post args (.bool true) args=true :=
 postW_of (r:=l.row.toRowW) (X:=(true == true))
  (show WShape.has [] (.bool true) .bool=true by first | rfl | decide | simp [WShape.has,WShape.arms,WShape.armsAll])
  (show (WTm.eq .res (.lit (.bool true))).value [] { args:=args,res:=some (.bool true),after:=args }=some (.bool (true == true)) from w_eq_bool (w_res rfl) w_lit) rfl
theorem attach_call {l:OpenLaw} {n:Nat} {q:Program} {loose:List Str} {XP:(Str->Option Value)->Heap->Prop} {YP:World->Heap->Prop} {d:DefRec}
  (hn:l.most=some n) (hdf:d.params.defaults=[])
  (call:∀ (w:World) (s₀ s₁:Shared) (mg mb:Str->Option Value) (fa:Addr) (o:Obj) (pm cd doc:Value) (a:Addr) (vs:List Value) (ns:List Int),
   Ground q loose [] XP w s₀ mg mb s₁.heap->YP w s₁.heap ->
   s₁.heap.get? fa=some o->o.data=.func (docDef d.name d.params d.body d.scope pm cd doc)->s₁.heap.CodeRec cd d.name->mg d.name=some (.ref fa) ->
   s₁.heap.get? a=some { cls:=.type "list",data:=.seq vs.toArray }->IntsAre vs ns->ns.length<=n->s₁.gens=#[] ->
   codeAny (model l.prog w) callerA (.call (.ref fa) ⟨[.ref a],[]⟩) (fun r s'=>r=.ok (.ret (.bool true))/\OldK s₁.heap s'.heap/\s'.os=s₁.os/\AllBare s'.gens) s₁) :
  WalkO q loose XP YP l.row.toRowW d [] (fun f vs=>PySem.call f vs):=by
 intro w s₀ s₁ mg mb G Y fa o pm cd doc dV kV ho hd hcd hD hmg hg args vals as hpre hlay hrd hwl hlo
 obtain rfl:dV=.none:=Dflts.none hD hdf
 obtain rfl:kV=.none:=Dflts.noKw hD
 obtain ⟨a,vs,ns,rfl,rfl,hobj,hints,hlen⟩:=KN hn hpre hwl
 refine enter_call (codeAny_mono (call w s₀ s₁ mg mb fa o pm cd doc a vs ns G Y ho (fd_plain hd) hcd hmg hobj hints hlen hg) fun r s' hq=>?_)
 obtain ⟨rfl,h2,h3,h4⟩:=hq
 exact ⟨.inl ⟨.bool true,.bool true,[],rfl,fun _=>rfl,.bool true,Ln l _,fun _=>⟨List.Pairwise.nil,fun _ hm=>(nomatch hm)⟩⟩,h2,h3,h4⟩
section
variable {prog:Program} {w:World} {A:Around} {E:Value->Shared->Prop} {s:Shared} {K:Frag}
end
end Att
namespace L2
open PySem PySem.Spec PyProof.Rows
theorem sH:∀ {vs:List Value} {ns:List Int},IntsAre vs ns->Vals (ns.map V.int) vs
 | _,_,.nil=>.nil
 | _,_,.cons n t h=>.cons ⟨t,rfl⟩ (sH h)
def Only (H:Hp):Prop:=∀ b,H b=none∨∃ o xs,H b=some (.frz o (.lst xs))
theorem Qh {P:Program} {w:World} {K:PySem.W.Frag} {mg mb:Str->Option Value} {CX:CXT} {k:Nat} {fa a:Addr} {fd:FuncData} {x:Str} {sp:Sp} {s₁:Shared} {vs:List Value} {ns:List Int}
  (KX:K.In s₁.heap) (hns:s₁.heap.Ns mainGlobals mg) (hb:s₁.heap.Ns builtinsNs mb) (hbb:∀ x:Str,x≠"__name__"->mb x=bootBuiltins x) (hlim:s₁.heap.NoLimit) (hg:s₁.gens=#[])
  (ha:s₁.heap.get? a=some { cls:=.type "list",data:=.seq vs.toArray }) (hi:IntsAre vs ns) (hl:ns.length<=sizeLine) (hr:Room k callerA)
  (F:∀ base:Heap,K.In base->base.Ns mainGlobals mg->FnOk P w K mg base CX k fa fd [x] sp) (hbind:∀ (s:Shared) (u:Value),BindsTo s fd ⟨[u],[]⟩ [(x,u)])
  (hsp:∀ H:Hp,Only H->SqL K H a (ns.map V.int)->sp [.ref a] H (fun v _=>v=.bl true) fun _ _ _=>False)
  (hCX:∀ H e s',CX [] H s₁ (fun _ _ _=>False) e s'->False) :
  codeAny (model P w) callerA (.call (.ref fa) ⟨[.ref a],[]⟩) (fun r s'=>r=.ok (.ret (.bool true))/\OldK s₁.heap s'.heap/\s'.os=s₁.os/\AllBare s'.gens) s₁:=by
 have rv:=sH hi
 have lenV:=hi.length
 -- from an abstract heap in which nothing but the script may be tracked
 have core:∀ H:Hp,Only H->SqL K H a (ns.map V.int)->HOk P w H s₁.heap->(∀ b,H b≠none->b=a)->(H a≠none->K.lookup a=none) ->
   codeAny (model P w) callerA (.call (.ref fa) ⟨[.ref a],[]⟩) (fun r s'=>r=.ok (.ret (.bool true))/\OldK s₁.heap s'.heap/\s'.os=s₁.os/\AllBare s'.gens) s₁:=by
  intro H hO hS hok hA hK
  have base_of:∀ {b:Addr} {o:Obj},s₁.heap.get? b=some o->H b=none->(CK s₁.heap H).get? b=some o:=fun e n=>Ny e n
  have noA:∀ {b:Addr} {o:Obj} {es:Array DictEntry} {ep:Nat},s₁.heap.get? b=some o->o.data=.dict es ep->H b=none:=fun {b o es ep} e d=>by
   cases q:H b with
   | none=>rfl
   | some u =>
    have e':b=a:=hA b (by rw [q]; simp)
    subst e'
    rw [ha] at e; cases e
    have d':Data.seq vs.toArray _=Data.dict es ep:=d
    cases d'
  have nsK:∀ {b:Addr} {m:Str->Option Value},s₁.heap.Ns b m->(CK s₁.heap H).Ns b m:=fun {b m} ⟨o,es,ep,e,d,r⟩=>⟨o,es,ep,base_of e (noA e d),d,r⟩
  have hKb:K.In (CK s₁.heap H):=fun b o e=>base_of (KX b o e) (by
   cases q:H b with
   | none=>rfl
   | some u =>
    have e':b=a:=hA b (by rw [q]; simp)
    subst e'
    rw [hK (by rw [q]; simp)] at e; cases e)
  have hM:Mod K mg (CK s₁.heap H):=⟨hKb,nsK hns,⟨mb,nsK hb,hbb⟩,let ⟨mc,h1,h2⟩:=hlim; ⟨mc,nsK h1,h2⟩⟩
  have e0:Env0 P w K mg (CK s₁.heap H) callerA [] s₁ H:=⟨rfl,hM,fun b o e=>Ra e,Nat.le_of_eq (Le _ _),trivial,fun b hb=>absurd (show b∈([]:List Addr) from hb) (by simp),hok,.of_eq hg⟩
  refine codeAny_mono ((F _ hKb (nsK hns)).run callerA [] s₁ H ⟨[.ref a],[]⟩ [.ref a] [.ref a] _ _ hr e0 (hbind s₁ (.ref a)) (.cons rfl .nil) (hsp H hO hS)) fun r s' h=>?_
  cases r with
  | error e=>exact (hCX H e s' h).elim
  | ok fl =>
   cases fl with
   | next=>exact False.elim h
   | brk=>exact False.elim h
   | cont=>exact False.elim h
   | ret u =>
    obtain ⟨v,H',os,bare,un,hok',r',q⟩:=h
    have q':v=.bl true:=q
    subst q'
    obtain rfl:u=Value.bool true:=r'
    refine ⟨rfl,OldK.of_keep fun b o e=>?_,os,bare⟩
    cases q:H b with
    | none=>exact un.keep b o e q (by intro z; exact absurd (show b∈([]:List Addr) from z) (by simp)) (by simp)
    | some u =>
     rcases hO b with z | ⟨ob,xs,z⟩
     ·rw [q] at z; cases z
     ·have z2:=un.frzs b ob _ z
      obtain ⟨e1,_⟩:=hok b _ z
      obtain ⟨e2,_⟩:=hok' b _ z2
      rw [e] at e1; cases e1
      exact e2
 cases hk:K.lookup a with
 | some o =>
  -- the script is one of the module's own objects
  have e:=KX a o hk
  rw [ha] at e
  cases e
  refine core (fun _=>none) (fun _=>.inl rfl) (.inr ⟨_,vs.toArray,_,hk,rfl,rfl,rfl,by rw [List.size_toArray,lenV]; exact hl,by simpa using rv⟩) (fun b u z=>by have z':(none:Option HO)=some u:=z; cases z') (fun b z=>absurd rfl z) fun z=>absurd rfl z
 | none =>
  refine core (fun b=>if b=a then some (.frz { cls:=.type "list",data:=.seq vs.toArray } (.lst (ns.map V.int))) else none) (fun b=>?_) (.inl (.inr ⟨{ cls:=.type "list",data:=.seq vs.toArray },if_pos rfl⟩)) (fun b u z=>?_) (fun b z=>?_) fun _=>hk
  ·by_cases hb:b=a
   ·exact .inr ⟨_,_,if_pos hb⟩
   ·exact .inl (if_neg hb)
  ·by_cases hb:b=a
   ·have z':=(if_pos hb).symm.trans z
    cases z'
    subst hb
    exact ⟨ha,by rw [List.length_map]; exact hl,vs,_,rv,ha⟩
   ·have z':=(if_neg hb).symm.trans z
    cases z'
  ·by_cases hb:b=a
   ·exact hb
   ·exact absurd (if_neg hb) z
end L2
namespace L2
open PySem PySem.Spec PyProof.Rows
theorem QT {l:PySem.W.OpenLaw} {n k:Nat} {q:Program} {loose:List Str} {XP:(Str->Option Value)->Heap->Prop} {YP:World->Heap->Prop} {d:DefRec} {K:Params->PySem.W.Frag} {CX:World->CXT} {sp:World->Sp} {x:Str}
  (hn:l.most=some n) (hn2:n<=sizeLine) (hdf:d.params.defaults=[]) (hr:Room k callerA)
  (hY:∀ (w:World) (h:Heap),YP w h->(K w.params).In h)
  (F:∀ (w:World) (mg:Str->Option Value) (fa:Addr) (h:Heap),(K w.params).In h->h.Ns mainGlobals mg->mg d.name=some (.ref fa) ->
   ∃ fd:FuncData,(∀ (s:Shared) (u:Value),BindsTo s fd ⟨[u],[]⟩ [(x,u)]) /\
    ∀ base:Heap,(K w.params).In base->base.Ns mainGlobals mg->FnOk l.prog w (K w.params) mg base (CX w) k fa fd [x] (sp w))
  (hsp:∀ (w:World) (H:Hp) (a:Addr) (ns:List Int),ns.length<=n->Only H->SqL (K w.params) H a (ns.map V.int)->sp w [.ref a] H (fun v _=>v=.bl true) fun _ _ _=>False)
  (hCX:∀ (w:World) (H:Hp) (s:Shared) (e:Value) (s':Shared),CX w [] H s (fun _ _ _=>False) e s'->False) :
  PySem.W.WalkO q loose XP YP l.row.toRowW d [] (fun f vs=>PySem.call f vs):=by
 refine Att.attach_call hn hdf fun w s₀ s₁ mg mb fa o pm cd doc a vs ns G Y ho hd hcd hmg hobj hints hlen hg=>?_
 have KX:=hY w _ Y
 obtain ⟨fd,hb,hF⟩:=F w mg fa _ KX G.T.g hmg
 exact Qh KX G.T.g G.T.b G.T.builtins G.T.nolimit hg hobj hints (Nat.le_trans hlen hn2) hr hF hb (fun H hO hS=>hsp w H a ns hlen hO hS) fun H e s'=>hCX w H s₁ e s'
end L2
namespace L2
open PySem PySem.Spec PyProof.Rows
def inClass (s:Stmt) (j:Nat):Stmt:=match s with
 | .ClassDef _ _ _ body _ _ _ _ _ _ _=>body.getD j (.Pass ⟨0,0,0,0⟩)
 | _=>.Pass ⟨0,0,0,0⟩
def aO (s:Stmt):Arguments:=match s with
 | .FunctionDef _ a _ _ _ _ _ _ _ _=>a
 | _=>{ posonlyargs:=[],args:=[],vararg:=none,kwonlyargs:=[],kw_defaults:=[],kwarg:=none,defaults:=[] }
def aN (s:Stmt):List Stmt:=match s with
 | .FunctionDef _ _ b _ _ _ _ _ _ _=>b
 | _=>[]
def au (s:Stmt):Scope:=match s with
 | .FunctionDef _ _ _ _ _ _ sc _ _ _=>sc
 | _=>{ kind:=.function,names:=[],isGenerator:=false,isCoroutine:=false }
abbrev CX0:CXT:=fun _ _ _ _ _ _=>False
abbrev E0:XK:=fun _ _ _=>False
theorem yz {X:Cx}:yX CX0 X E0:=fun _ _ _ _ _ _ _ h=>h.elim
structure Fun (K:PySem.W.Frag) (x qual:Str) (st:Stmt) (f:Addr) (fd:FuncData):Prop where
 ex:∃ (oc:Value) (od:Option Addr) (kV doc pm:Value) (an:Option Addr) (cdv ct:Value) (osl:Array (Option Value)),
  fd=PySem.W.fnOf x qual (aO st) (aN st) (au st) .none kV doc pm an cdv ct/\K.lookup f=some ⟨oc,od,.func fd,osl⟩/\PySem.W.codeIn K cdv qual=true
 kp:PySem.W.keepIn K (.ref f)=true
section
variable {P:Program} {w:World} {K:PySem.W.Frag} {mg:Str->Option Value} {base:Heap}
theorem Fun.ok {x qual:Str} {st:Stmt} {f:Addr} {fd:FuncData} {N ps:List Str} {k:Nat} {sp:Sp} (F:Fun K x qual st f fd) (S:FnScope N ps (au st)) (len:∀ vs H Q E,sp vs H Q E->vs.length=ps.length)
  (hbody:∀ (cdv:Value) (A:Around) (outer:List Env) (s:Shared) (H:Hp) (vs:List V) (Q:VK) (E:XK),Room k (A.deeper (envOfC qual (au st) s.heap.objs.size f cdv))->sp vs H Q E ->
   ∃ t,PSs (Kq CX0 P w K mg base N qual (au st) f cdv A outer s H E).nox (aN st) t/\t { nx:=fun _ H'=>Q .non H',rt:=Q } (start N vs) H):FnOk P w K mg base CX0 (k + 1) f fd ps sp:=by
 obtain ⟨oc,od,kV,doc,pm,an,cdv,ct,osl,rfl,lk,hcd⟩:=F.ex
 refine WQ lk hcd S len fun A outer s H vs Q E hr hsp=>?_
 obtain ⟨t,h,q⟩:=hbody cdv A outer s H vs Q E hr hsp
 exact ⟨t,h.nox,q⟩
theorem Fun.binds {x qual:Str} {st:Stmt} {f:Addr} {fd:FuncData} {ps:List Str} (F:Fun K x qual st f fd)
  (h:∀ (kV doc pm:Value) (an:Option Addr) (cdv ct:Value) (us:List Value),us.length=ps.length->bindArgs (PySem.W.fnOf x qual (aO st) (aN st) (au st) .none kV doc pm an cdv ct) ⟨us,[]⟩=pure (ps.zip us)):Binds K fd ps []:=by
 obtain ⟨oc,od,kV,doc,pm,an,cdv,ct,osl,rfl,lk,hcd⟩:=F.ex
 exact .all (h kV doc pm an cdv ct)
theorem bj {x qual:Str} {st:Stmt} {f:Addr} {oc:Value} {od an:Option Addr} {osl:Array (Option Value)} {kV doc pm cdv ct:Value} (l:K.lookup f=some ⟨oc,od,.func (PySem.W.fnOf x qual (aO st) (aN st) (au st) .none kV doc pm an cdv ct),osl⟩)
  (c:PySem.W.codeIn K cdv qual=true) (k:PySem.W.keepIn K (.ref f)=true):Fun K x qual st f (PySem.W.fnOf x qual (aO st) (aN st) (au st) .none kV doc pm an cdv ct):=⟨⟨oc,od,kV,doc,pm,an,cdv,ct,osl,rfl,l,c⟩,k⟩
end
theorem bD {A:Around} {k:Nat} (hr:Room k A):A.units + 1 < cLine:=Nat.lt_of_le_of_lt (Nat.add_le_add_left (by decide:1<=64) _) hr.units
theorem aJ {n:Nat} (h:n<=1000):n < sizeLine:=Nat.lt_of_le_of_lt h (by decide)
section
variable {X:Cx}
theorem pv (i:Nat) {x:Str} {pos:Pos} (hN:X.N[i]?=some x:=by rfl) (hv:Vis X.env.scope x:=by first | exact Or.inl rfl | exact Or.inr (Or.inl rfl) | exact Or.inr (Or.inr rfl)) (hd:(x == ("__debug__":Str))=false:=by decide)
  (hcd:(x == ("__classdict__":Str))=false:=by decide):PE X (.Name x pos) (Lg i):=Ub hN hv hd hcd
end
theorem Yj {A B:Prop} (h:B):if false=true then A else B:=by
 rw [if_neg Bool.false_ne_true]
 exact h
theorem Ws {A B:Prop} (h:A):if true=true then A else B:=by
 rw [if_pos rfl]
 exact h
theorem fJ {c A B:Prop} [Decidable c] (h1:c->A) (h2:¬ c->B):if c then A else B:=by
 by_cases h:c
 ·rw [if_pos h]
  exact h1 h
 ·rw [if_neg h]
  exact h2 h
def Same (H H':Hp):Prop:=∀ b o,H b=some o->H' b=some o
theorem Same.refl (H:Hp):Same H H:=fun _ _ h=>h
theorem Same.trans {H H1 H2:Hp} (a:Same H H1) (b:Same H1 H2):Same H H2:=fun c o h=>b c o (a c o h)
theorem Same.free {H H':Hp} (e:Same H H') {l:Addr} (h:H' l=Option.none):H l=Option.none:=by
 cases q:H l with
 | none=>rfl
 | some o =>
  rw [e l o q] at h
  cases h
theorem Same.seq {K:PySem.W.Frag} {H H':Hp} {a:Addr} {xs:List V} (e:Same H H') (h:SqL K H a xs):SqL K H' a xs:=by
 rcases h with (h | ⟨o,h⟩) | h
 ·exact .inl (.inl (e _ _ h))
 ·exact .inl (.inr ⟨o,e _ _ h⟩)
 ·exact .inr h
section
variable {κ:Type} [DecidableEq κ]
end
end L2
namespace GX
open PySem
theorem zr {α β:Type} {f:α->β->Sem (ForInStep β)} (g:α->β->β):∀ (l:List α) (b:β),(∀ x∈l,∀ b,f x b=pure (.yield (g x b))) ->
  forIn l b f=pure (l.foldl (fun b x=>g x b) b)
 | [],b,_=>rfl
 | x :: l,b,h=>by
  simp only [List.forIn_cons,h x (.head _),pure_bind]
  exact zr g l (g x b) fun y hy=>h y (List.mem_cons_of_mem _ hy)
def tW (env:Env) (x:Str×NameKind) (cs:List (Str×Addr)):List (Str×Addr):=if x.2 == .free then (x.1,(env.cells.lookup x.1).getD 0) :: cs else cs
theorem Jc {env:Env} {sc:Scope} (h:∀ y∈sc.names,y.2=.free->∃ c,env.cells.lookup y.1=some c) :
  closureFor sc env=pure (sc.names.foldl (fun b x=>tW env x b) []):=by
 simp only [closureFor]
 rw [zr (tW env) sc.names [] (fun x hx b=>by
  obtain ⟨n,k⟩:=x
  unfold tW
  by_cases hk:k=.free
  ·subst hk
   obtain ⟨c,hc⟩:=h _ hx rfl
   have e:cellOf env n=pure c:=by unfold cellOf; rw [hc]
   simp [e,hc]
  ·have hb:(k == NameKind.free)=false:=by simpa using hk
   simp only [hb,Bool.false_eq_true,if_false])]
 rfl
theorem yl {env:Env}:∀ (l:List (Str×NameKind)) (acc:List (Str×Addr)),(∀ y∈l,y.2=.free->∃ c,env.cells.lookup y.1=some c)->(∀ p∈acc,env.cells.lookup p.1=some p.2) ->
  ∀ p∈l.foldl (fun b x=>tW env x b) acc,env.cells.lookup p.1=some p.2
 | [],acc,_,ha=>ha
 | x :: l,acc,h,ha=>by
  refine yl l _ (fun y hy=>h y (List.mem_cons_of_mem _ hy)) fun p hp=>?_
  unfold tW at hp
  dsimp only at hp
  by_cases hk:x.2=.free
  ·obtain ⟨c,hc⟩:=h x List.mem_cons_self hk
   rw [hk] at hp
   simp only [beq_self_eq_true,if_true] at hp
   rcases List.mem_cons.mp hp with rfl | hp
   ·rw [hc]; rfl
   ·exact ha p hp
  ·have hb:(x.2 == NameKind.free)=false:=by simpa using hk
   simp only [hb,Bool.false_eq_true,if_false] at hp
   exact ha p hp
theorem zc {env:Env} {n:Str}:∀ (l:List (Str×NameKind)) (acc:List (Str×Addr)),((∃ c,(n,c)∈acc)∨(n,NameKind.free)∈l)->∃ c,(n,c)∈l.foldl (fun b x=>tW env x b) acc
 | [],acc,h=>by
  rcases h with h | h
  ·exact h
  ·cases h
 | x :: l,acc,h=>by
  refine zc l _ ?_
  unfold tW
  dsimp only
  rcases h with ⟨c,h⟩ | h
  ·refine .inl ⟨c,?_⟩
   split
   ·exact List.mem_cons_of_mem _ h
   ·exact h
  ·rcases List.mem_cons.mp h with h | h
   ·refine .inl ?_
    subst h
    exact ⟨_,by rw [if_pos (by rfl)]; exact .head _⟩
   ·exact .inr h
theorem sU {n:Str} {c:Addr}:∀ {l:List (Str×Addr)},(n,c)∈l->∃ c',l.lookup n=some c'
 | [],h=>by cases h
 | (m,d) :: l,h=>by
  rw [List.lookup_cons]
  cases e:n == m with
  | true=>exact ⟨d,rfl⟩
  | false =>
   rcases List.mem_cons.mp h with h | h
   ·cases h
    simp at e
   ·exact sU h
theorem Py {n:Str} {c:Addr}:∀ {l:List (Str×Addr)},l.lookup n=some c->(n,c)∈l
 | [],h=>by cases h
 | (m,d) :: l,h=>by
  rw [List.lookup_cons] at h
  cases e:n == m with
  | true =>
   rw [e] at h
   have e':n=m:=by simpa using e
   have h':d=c:=Option.some.inj h
   rw [e',h']
   exact List.mem_cons_self
  | false =>
   rw [e] at h
   exact List.mem_cons_of_mem _ (Py h)
theorem xW {env:Env} {sc:Scope} (h:∀ y∈sc.names,y.2=.free->∃ c,env.cells.lookup y.1=some c) :
  ∃ cl,closureFor sc env=pure cl/\(∀ x c,cl.lookup x=some c->env.cells.lookup x=some c)/\(∀ n,(n,NameKind.free)∈sc.names->∃ c,cl.lookup n=some c):=by
 refine ⟨_,Jc h,fun x c e=>?_,fun n hn=>?_⟩
 ·exact yl sc.names [] h (fun p hp=>by cases hp) (x,c) (Py e)
 ·obtain ⟨c,hc⟩:=zc (env:=env) sc.names [] (.inr hn)
  exact sU hc
theorem rJ {env:Env} {x:Str} {names:List (Str×NameKind)} :
  (names.map fun (n,k)=>if (k == NameKind.free && env.scope.kind == .function && env.kindOf n == some .cell) then (n,NameKind.cell) else (n,k)).lookup x
  =(names.lookup x).map fun k=>if (k == NameKind.free && env.scope.kind == .function && env.kindOf x == some .cell) then NameKind.cell else k:=by
 induction names with
 | nil=>rfl
 | cons p r ih =>
  obtain ⟨n,k⟩:=p
  rw [List.map_cons]
  by_cases e:x=n
  ·subst e
   dsimp only
   split <;> simp_all
  ·have e':(x == n)=false:=by simpa using e
   dsimp only
   split <;> simp only [List.lookup_cons,e'] <;> exact ih
def Dy (elt target:Expr) (ifs:List Expr) (it acc:Value) (env:Env):Sem Bool:=do
 match ← pyNext it with
 | none=>pure false
 | some v =>
  letOwnedTupleGo target it v
  assign target env v
  let ok ← forIn ifs true fun c r=>if r=true then do let ok ← isTrue c env (eval c env); pure (ForInStep.yield ok) else pure (ForInStep.yield r)
  if ok=true then do
   let x ← eval elt env
   let _ ← call (.builtin "list.append") [acc,x]
   pure true
  else pure true
theorem Rz (elt target iter:Expr) (ifs:List Expr) (scope:Scope) (pos:Pos) (it acc:Value) (env:Env) :
  compTurn (.ListComp elt [⟨target,iter,ifs,0⟩] scope pos) 0 it acc env=(do
   standAt iter.pos
   let more ← Dy elt target ifs it acc env
   if more=true then again (.compLoop (.ListComp elt [⟨target,iter,ifs,0⟩] scope pos) 0 it acc env) else pure (.done .next)):=by
 rw [compTurn_list,Dy]
 simp only [bind_assoc]
 congr 1
 funext _
 congr 1
 funext r
 cases r with
 | none=>simp
 | some v =>
  simp only [bind_assoc]
  congr 1
  funext _
  congr 1
  funext _
  congr 1
  funext ok
  cases ok <;> simp
theorem Fe {prog:Program} {w:World} {A:Around} {R:Result->Shared->Prop} {s:Shared} {elt target iter:Expr} {ifs:List Expr} {scope:Scope} {pos:Pos} {it acc:Value} {env:Env} (I:Nat->Shared->Prop)
  (turn:∀ n s,I n s->wpAny (model prog w) A (Dy elt target ifs it acc env) (fun more s'=>if more=true then ∃ m,m < n/\I m s' else R (.ok .next) s') (fun _ _=>False) s) (n:Nat) (h:I n s) :
  codeAny (model prog w) A (.compLoop (.ListComp elt [⟨target,iter,ifs,0⟩] scope pos) 0 it acc env) R s:=by
 apply codeAny_loop rfl I _ n h
 intro n s hI
 apply wpAny_noted
 rw [Rz]
 change wpAny _ A _ _ _ _
 apply wpAny_bind
 apply wpAny_standAt
 apply wpAny_bind
 refine wpAny_mono (turn n s hI) (fun more s' q=>?_) fun _ _ z=>z.elim
 cases more
 ·exact wpAny_pure q
 ·exact wpAny_pure ⟨rfl,q⟩
end GX
namespace GX
open PySem PySem.Spec PyProof.Rows
def kept:Option (Value×Value)->Array Value
 | none=>#[]
 | some (x,k)=>#[x,k]
abbrev yU (a:Array Value) (c:Nat):Obj:={ cls:=.type "list",dict:=none,data:=.seq a c,slots:=#[] }
abbrev put (S:Addr) (a:Array Value) (s:Shared):Shared:={ s with heap:=s.heap.update S (Obj.mapSeq fun _=>a) }
def KeyOf (prog:Program) (w:World) (A:Around) (key v:Value) (Q:Value->Shared->Prop) (s:Shared):Prop :=
 match key with
 | .none=>Q v s
 | f=>wpAny (model prog w) A.in1 (call f [v]) Q (fun _ _=>False) s
def After (prog:Program) (w:World) (op:CmpOp) (lp:String) (I S:Addr) (key:Value) (kw:List (Str×Value)) (b:Option (Value×Value)) (A:Around) (R:Result->Shared->Prop):Option Value->Shared->Prop
 | none,s=>(∃ c,s.heap.get? S=some (yU (kept b) c))/\match b with
  | some (x,_)=>R (.ok (.ret x)) (put S #[] s)
  | none=>∃ n d r,kw=(n,d) :: r/\R (.ok (.ret d)) s
 | some v,s=>KeyOf prog w A key v (fun k s=>(∃ c,s.heap.get? S=some (yU (kept b) c))/\match b with
  | none=>codeAny (model prog w) A (.builtin lp ⟨[.ref I,key,.ref S],kw⟩) R (put S #[v,k] s)
  | some (_,k')=>wpAny (model prog w) A.in1 (richCompare op k k') (fun a s=>∃ y c,a=.bool y/\s.heap.get? S=some (yU (kept b) c)/\codeAny (model prog w) A (.builtin lp ⟨[.ref I,key,.ref S],kw⟩) R (if y then put S #[v,k] s else s)) (fun _ _=>False) s) s
abbrev Turn (prog:Program) (w:World) (op:CmpOp) (lp:String) (B:Builtin):Prop:=∀ (I S:Addr) (key:Value) (kw:List (Str×Value)) (b:Option (Value×Value)) (c:Nat),
 MeetsIn prog w (B ⟨[.ref I,key,.ref S],kw⟩) fun A R s=>s.heap.get? S=some (yU (kept b) c)/\wpAny (model prog w) A.in1 (pyNext (.ref I)) (After prog w op lp I S key kw b A R) (fun _ _=>False) s
section
variable {prog:Program} {w:World}
theorem two {x k:Value}:(kept (some (x,k))).size<=sizeLine:=by show 2<=sizeLine; decide +kernel
theorem key_of {A:Around} {key v:Value} {Q:Value->Shared->Prop} {P:Fin->Shared->Prop} {E:Value->Shared->Prop} {s:Shared} {f:Value->Sem Fin} (r:Value->Sem Value) (h:KeyOf prog w A key v Q s) (m:∀ k s,Q k s->wpAny (model prog w) A.in1 (f k) P E s) :
  wpAny (model prog w) A.in1 (match key with | .none=>pure v >>= f | _=>tryCatch (holding [v] (call key [v])) r >>= f) P E s:=by
 unfold KeyOf at h
 split at h
 ·exact wpAny_bind (wpAny_pure (m _ _ h))
 ·exact wpAny_bind (wpAny_tryCatch (wpAny_holding (wpAny_mono h m fun _ _ z=>z.elim)))
theorem Qx:Turn prog w .Lt "min.loop" Builtin.«min.loop»:=by
 intro I S key kw b c A R s ⟨hS,nx⟩
 show wpAny _ _ (seqItems? (.ref S) >>= _) _ _ s
 apply wpAny_bind
 apply wpAny_seqItems hS rfl
 apply wpAny_bind
 apply wpAny_tryCatch
 refine wpAny_mono nx (fun r s1 h=>?_) fun _ _ z=>z.elim
 rcases r with _ | v <;> rcases b with _ | ⟨x,k'⟩
 ·obtain ⟨_,n,d,l,rfl,q⟩:=h
  wp_walk
  exact q
 ·obtain ⟨⟨c1,h1⟩,q⟩:=h
  apply wpAny_bind
  refine wpAny_updateSeq h1 rfl ?_ two
  wp_walk
  exact q
 ·unfold After at h
  refine key_of _ h fun k s2 h=>?_
  obtain ⟨⟨c2,h2⟩,q⟩:=h
  apply wpAny_bind
  apply wpAny_updateSeq h2 rfl
  exact wpAny_pure ⟨plainId_quiet F.plain_min_loop _,q⟩
 ·unfold After at h
  refine key_of _ h fun k s2 h=>?_
  obtain ⟨_,q⟩:=h
  apply wpAny_bind
  apply wpAny_tryCatch
  apply wpAny_holding
  apply wpAny_bind
  refine wpAny_mono q (fun a s3 h=>?_) fun _ _ z=>z.elim
  obtain ⟨y,c3,rfl,h3,q⟩:=h
  wp_walk
  cases y
  ·wp_walk
   exact ⟨plainId_quiet F.plain_min_loop _,q⟩
  ·refine wpAny_ite_true rfl (wpAny_bind (wpAny_updateSeq h3 rfl ?_ two))
   wp_walk
   exact ⟨plainId_quiet F.plain_min_loop _,q⟩
theorem O5:Turn prog w .Gt "max.loop" Builtin.«max.loop»:=by
 intro I S key kw b c A R s ⟨hS,nx⟩
 show wpAny _ _ (seqItems? (.ref S) >>= _) _ _ s
 apply wpAny_bind
 apply wpAny_seqItems hS rfl
 apply wpAny_bind
 apply wpAny_tryCatch
 refine wpAny_mono nx (fun r s1 h=>?_) fun _ _ z=>z.elim
 rcases r with _ | v <;> rcases b with _ | ⟨x,k'⟩
 ·obtain ⟨_,n,d,l,rfl,q⟩:=h
  wp_walk
  exact q
 ·obtain ⟨⟨c1,h1⟩,q⟩:=h
  apply wpAny_bind
  refine wpAny_updateSeq h1 rfl ?_ two
  wp_walk
  exact q
 ·unfold After at h
  refine key_of _ h fun k s2 h=>?_
  obtain ⟨⟨c2,h2⟩,q⟩:=h
  apply wpAny_bind
  apply wpAny_updateSeq h2 rfl
  exact wpAny_pure ⟨plainId_quiet F.plain_max_loop _,q⟩
 ·unfold After at h
  refine key_of _ h fun k s2 h=>?_
  obtain ⟨_,q⟩:=h
  apply wpAny_bind
  apply wpAny_tryCatch
  apply wpAny_holding
  apply wpAny_bind
  refine wpAny_mono q (fun a s3 h=>?_) fun _ _ z=>z.elim
  obtain ⟨y,c3,rfl,h3,q⟩:=h
  wp_walk
  cases y
  ·wp_walk
   exact ⟨plainId_quiet F.plain_max_loop _,q⟩
  ·refine wpAny_ite_true rfl (wpAny_bind (wpAny_updateSeq h3 rfl ?_ two))
   wp_walk
   exact ⟨plainId_quiet F.plain_max_loop _,q⟩
theorem enter {id:String} {B:Builtin} {args:Args} {Sp:PySem.Spec} {A:Around} {R:Result->Shared->Prop} {s:Shared} (he:entryFor table id=some B) (hp:plainId id=true) (m:MeetsIn prog w (B args) Sp) (h:Sp A R s) :
  codeAny (model prog w) A (.builtin id args) R s:=codeAny_builtin he (by rw [Around.under_plainId hp]; exact m A R s h)
def Jk (bt:Nat->Nat->Bool) (n i:Nat):Prop:=∀ j,j < n->bt j i=false/\(j < i->bt i j=true)
structure Best (prog:Program) (w:World) (A:Around) (key:Value) (op:CmpOp) (l I S:Addr) (vs:List Value) (bt:Nat->Nat->Bool) (G:List (Nat×Value)->Shared->Prop):Prop where
 irr:∀ i,bt i i=false
 asy:∀ i j,bt i j=true->bt j i=false
 cov:∀ a b c,bt a b=true->bt c b=false->bt a c=true
 tail:∀ p q L s,G (p :: q :: L) s->G (q :: L) s
 head:∀ p L s,G (p :: L) s->G [p] s
 calm:∀ x L s h tk,x=I∨x=S->G L s->(∀ b o,b≠x->s.heap.get? b=some o->h.get? b=some o)->G L { s with heap:=h,toks:=tk }
 list:∀ L s,G L s->s.heap.IsList l vs.toArray
 keys:∀ L s j v a c m,G L s->vs[j]?=some v->s.heap.get? S=some (yU a c)->s.heap.IsListIter I l m->KeyOf prog w A key v (fun k s=>G ((j,k) :: L) s/\s.heap.get? S=some (yU a c)/\s.heap.IsListIter I l m) s
 cmp:∀ i j k k' s,G [(j,k),(i,k')] s->wpAny (model prog w) A.in1 (richCompare op k k') (fun a s'=>a=.bool (bt j i)/\s'=s) (fun _ _=>False) s
theorem KeyOf.imp {A:Around} {key v:Value} {Q Q':Value->Shared->Prop} {s:Shared} (h:KeyOf prog w A key v Q s) (m:∀ k s,Q k s->Q' k s):KeyOf prog w A key v Q' s:=by
 unfold KeyOf at h ⊢
 split at h
 ·exact m _ _ h
 ·exact wpAny_mono h m fun _ _ z=>z
def Xw (bt:Nat->Nat->Bool) (vs:List Value) (j:Nat):Option (Nat×Value×Value)->Prop
 | none=>j=0
 | some (i,x,_)=>i < j/\vs[i]?=some x/\Jk bt j i
def held:Option (Nat×Value×Value)->List (Nat×Value)
 | none=>[]
 | some (i,_,k)=>[(i,k)]
variable {A:Around} {key:Value} {op:CmpOp} {lp:String} {B:Builtin} {l I S:Addr} {vs:List Value} {bt:Nat->Nat->Bool} {G:List (Nat×Value)->Shared->Prop} {R:Result->Shared->Prop} {kw:List (Str×Value)}
theorem Best.put (M:Best prog w A key op l I S vs bt G) {L:List (Nat×Value)} {s:Shared} {a b:Array Value} {c m:Nat} (SI:S≠I) (g:G L s) (hS:s.heap.get? S=some (yU a c)) (hI:s.heap.IsListIter I l m) :
  G L (put S b s)/\(∃ c,(put S b s).heap.get? S=some (yU b c))/\(put S b s).heap.IsListIter I l m :=
 ⟨M.calm S L s _ s.toks (.inr rfl) g fun x o n e=>(Heap.get?_update_other _ _ (Ne.symm n)).trans e,⟨_,Heap.get?_update_self _ hS rfl⟩,hI.at fun o e=>(Heap.get?_update_other _ _ SI).trans e⟩
theorem Ld (T:Turn prog w op lp B) (he:entryFor table lp=some B) (hp:plainId lp=true) (hh:A.handled=none) (M:Best prog w A key op l I S vs bt G) (lI:l≠I) (SI:S≠I)
  (hD:vs=[]->∃ n d r,kw=(n,d) :: r/\∀ s,G [] s->R (.ok (.ret d)) s) (hR:∀ i v k s,vs[i]?=some v->Jk bt vs.length i->G [(i,k)] s->R (.ok (.ret v)) s) :
  ∀ (r j:Nat) (b:Option (Nat×Value×Value)) (s:Shared) (c:Nat),vs.length=j + r->Xw bt vs j b->G (held b) s->s.heap.get? S=some (yU (kept (b.map (·.2))) c)->s.heap.IsListIter I l j ->
   codeAny (model prog w) A (.builtin lp ⟨[.ref I,key,.ref S],kw⟩) R s:=by
 have W:=Walks.list (prog:=prog) (w:=w) (A:=A.in1) hh I l lI vs.toArray
 intro r
 induction r with
 | zero =>
  intro j b s c ej so g hS hI
  obtain rfl:j=vs.toArray.size:=by rw [List.size_toArray]; omega
  refine enter he hp (T I S key kw _ c) ⟨hS,W.done _ _ _ ⟨hI,M.list _ _ g⟩ fun h tk k=>?_⟩
  have g1:=M.calm I _ _ h tk (.inl rfl) g fun x o n e=>k x o (by simpa using n) e
  refine ⟨⟨c,k S _ (by simpa using SI) hS⟩,?_⟩
  rcases b with _ | ⟨i,x,y⟩
  ·obtain ⟨n,d,l,e,q⟩:=hD (List.eq_nil_of_length_eq_zero (by simpa using (show vs.toArray.size=0 from so)))
   exact ⟨n,d,l,e,q _ g1⟩
  ·exact hR i x y _ so.2.1 (by simpa using so.2.2) (M.calm S _ _ _ tk (.inr rfl) g1 fun z o n e=>(Heap.get?_update_other _ _ (Ne.symm n)).trans e)
 | succ r ih =>
  intro j b s c ej so g hS hI
  refine enter he hp (T I S key kw _ c) ⟨hS,W.item j _ _ _ (by rw [List.size_toArray]; omega) ⟨hI,M.list _ _ g⟩ fun v h tk hv st k=>?_⟩
  have hv:vs[j]?=some v:=by simpa using hv
  have g1:=M.calm I _ _ h tk (.inl rfl) g fun x o n e=>k x o (by simpa using n) e
  unfold After
  refine KeyOf.imp (M.keys _ _ j v _ _ _ g1 hv (k S _ (by simpa using SI) hS) st.1) fun y s2 ⟨g2,h2,i2⟩=>⟨⟨c,h2⟩,?_⟩
  have more:(∀ i,i < j->bt j i=true)->codeAny (model prog w) A (.builtin lp ⟨[.ref I,key,.ref S],kw⟩) R (put S #[v,y] s2):=fun up=>by
   obtain ⟨g3,⟨c3,h3⟩,i3⟩:=M.put (b:=#[v,y]) SI g2 h2 i2
   refine ih (j + 1) (some (j,v,y)) _ c3 (by omega) ⟨Nat.lt_succ_self _,hv,fun i hi=>?_⟩ (M.head _ _ _ g3) h3 i3
   rcases Nat.lt_succ_iff_lt_or_eq.mp hi with z | rfl
   ·exact ⟨M.asy _ _ (up i z),fun _=>up i z⟩
   ·exact ⟨M.irr _,fun z=>absurd z (Nat.lt_irrefl _)⟩
  rcases b with _ | ⟨i,x,z⟩
  ·exact more fun i hi=>absurd (show j=0 from so) (by omega)
  ·obtain ⟨hi,hx,ft⟩:=so
   refine wpAny_mono (M.cmp i j y z s2 g2) (fun a s3 ⟨ea,es⟩=>⟨_,c,ea,es ▸ h2,?_⟩) fun _ _ z=>z
   subst es
   cases e:bt j i with
   | true=>exact more fun i' hi'=>M.cov _ _ _ e (ft i' hi').1
   | false =>
    refine ih (j + 1) (some (i,x,z)) _ c (by omega) ⟨by omega,hx,fun i' hi'=>?_⟩ (M.tail _ _ _ _ g2) h2 i2
    rcases Nat.lt_succ_iff_lt_or_eq.mp hi' with z | rfl
    ·exact ft i' z
    ·exact ⟨e,fun z=>absurd z (by omega)⟩
abbrev J4 (prog:Program) (w:World) (nm lp:String):Prop:=∀ (A:Around) (s:Shared) (Q E:Value->Shared->Prop) (kws:List (Str×Value)) (ko d:Option Value) (l:Addr) (its:Array Value),
 Builtin.Builtins.bindParams nm ["key","default"] 0 ⟨[],kws⟩=pure [ko,d]->argsOk nm ⟨[.ref l],kws⟩->s.heap.IsList l its ->
 codeAny (model prog w) A (.builtin lp ⟨[.ref s.heap.objs.size,ko.getD .none,.ref (s.heap.objs.size + 1)],d.toList.map fun d=>("default",d)⟩) (wants Q E)
  { s with heap:=(s.heap.push { cls:=.type "list_iterator",data:=.fields #[.ref l,.int 0 0] }).push (yU #[] 0) }->wpAny (model prog w) A (call (.builtin nm) [.ref l] kws) Q E s
theorem Kh:J4 prog w "min" "min.loop":=by
 intro A s Q E kws ko d l its hb ha hl h
 refine kmb_tree F.kind_min F.plain_min F.entry_min ha ?_
 wp_walk using wpAny_of_eq hb,wpAny_pyIter_list hl
 rw [Heap.size_push]
 exact ⟨plainId_quiet F.plain_min_loop _,h⟩
theorem Kv:J4 prog w "max" "max.loop":=by
 intro A s Q E kws ko d l its hb ha hl h
 refine kmb_tree F.kind_max F.plain_max F.entry_max ha ?_
 wp_walk using wpAny_of_eq hb,wpAny_pyIter_list hl
 rw [Heap.size_push]
 exact ⟨plainId_quiet F.plain_max_loop _,h⟩
theorem Bf {nm:String} (O:J4 prog w nm lp) (T:Turn prog w op lp B) (he:entryFor table lp=some B) (hp:plainId lp=true) {s:Shared} {Q E:Value->Shared->Prop} {kws:List (Str×Value)} {ko d:Option Value}
  (hh:A.handled=none) (hb:Builtin.Builtins.bindParams nm ["key","default"] 0 ⟨[],kws⟩=pure [ko,d]) (ha:argsOk nm ⟨[.ref l],kws⟩) (hl:s.heap.IsList l vs.toArray)
  (M:Best prog w A (ko.getD .none) op l s.heap.objs.size (s.heap.objs.size + 1) vs bt G) (g:∀ h,(∀ b o,s.heap.get? b=some o->h.get? b=some o)->G [] { s with heap:=h })
  (hD:vs=[]->∃ x,d=some x/\∀ s,G [] s->Q x s) (hR:∀ i v k s,vs[i]?=some v->Jk bt vs.length i->G [(i,k)] s->Q v s):wpAny (model prog w) A (call (.builtin nm) [.ref l] kws) Q E s:=by
 obtain ⟨o,ho,_⟩:=id hl
 refine O A s Q E kws ko d l _ hb ha hl (Ld T he hp hh M (Nat.ne_of_lt (Heap.lt_size ho)) (Nat.succ_ne_self _) (fun e=>?_) hR vs.length 0 none _ 0 (Nat.zero_add _).symm rfl (g _ fun b o e=>?_) ?_ ?_)
 ·obtain ⟨x,rfl,q⟩:=hD e
  exact ⟨_,x,[],rfl,q⟩
 ·exact Heap.get?_push_of_some _ (Heap.get?_push_of_some _ e)
 ·exact Heap.get?_push_at (Heap.size_push ..).symm rfl
 ·exact ⟨_,Heap.get?_push_of_some _ (Heap.get?_push_size _ rfl),rfl,rfl⟩
abbrev uA (h h':Heap):Prop:=∀ b o,h.get? b=some o->h'.get? b=some o
theorem IK {nm:String} (O:J4 prog w nm lp) (T:Turn prog w op lp B) (he:entryFor table lp=some B) (hp:plainId lp=true) {s:Shared} {Q E:Value->Shared->Prop} {kws:List (Str×Value)} {ko d:Option Value}
  (hh:A.handled=none) (hb:Builtin.Builtins.bindParams nm ["key","default"] 0 ⟨[],kws⟩=pure [ko,d]) (ha:argsOk nm ⟨[.ref l],kws⟩) (hl:s.heap.IsList l vs.toArray)
  (bt:Nat->Nat->Bool) (irr:∀ i,bt i i=false) (asy:∀ i j,bt i j=true->bt j i=false) (cov:∀ a b c,bt a b=true->bt c b=false->bt a c=true) (KK:Nat->Value->Prop)
  (keys:∀ j v h tk,vs[j]?=some v->uA s.heap h->KeyOf prog w A (ko.getD .none) v (fun k s'=>KK j k/\∃ tk,s'={ s with heap:=h,toks:=tk }) { s with heap:=h,toks:=tk })
  (cmp:∀ i j k k' h tk,KK j k->KK i k'->uA s.heap h->∀ Q:Value->Shared->Prop,Q (.bool (bt j i)) { s with heap:=h,toks:=tk }->wpAny (model prog w) A.in1 (richCompare op k k') Q (fun _ _=>False) { s with heap:=h,toks:=tk })
  (hD:vs=[]->∃ x,d=some x/\∀ h tk,uA s.heap h->Q x { s with heap:=h,toks:=tk }) (hR:∀ i v h tk,vs[i]?=some v->Jk bt vs.length i->uA s.heap h->Q v { s with heap:=h,toks:=tk }) :
  wpAny (model prog w) A (call (.builtin nm) [.ref l] kws) Q E s:=by
 refine Bf (bt:=bt) (G:=fun L s'=>(∃ h tk,s'={ s with heap:=h,toks:=tk }/\uA s.heap h)/\∀ p∈L,KK p.1 p.2) O T he hp hh hb ha hl ⟨irr,asy,cov,?_,?_,?_,?_,?_,?_⟩ (fun h k=>⟨⟨h,s.toks,rfl,k⟩,by simp⟩) (fun e=>?_) ?_
 ·exact fun p q L s g=>⟨g.1,fun q hq=>g.2 q (List.mem_cons_of_mem _ hq)⟩
 ·exact fun p L s g=>⟨g.1,fun q hq=>g.2 q (List.mem_singleton.mp hq ▸ List.mem_cons_self)⟩
 ·rintro x L s' h tk hx ⟨⟨h',tk',rfl,G⟩,q⟩ k
  refine ⟨⟨h,tk,rfl,fun b o e=>k b o ?_ (G b o e)⟩,q⟩
  have:=Heap.lt_size e
  rcases hx with rfl | rfl
  ·exact Nat.ne_of_lt this
  ·exact Nat.ne_of_lt (Nat.lt_succ_of_lt this)
 ·rintro L s' ⟨⟨h',tk',rfl,G⟩,q⟩
  exact hl.at fun o e=>G _ _ e
 ·rintro L s' j v a c m ⟨⟨h,tk,rfl,G⟩,q⟩ hv hS hI
  refine (keys j v h tk hv G).imp ?_
  rintro k s' ⟨hk,tk',rfl⟩
  refine ⟨⟨⟨h,tk',rfl,G⟩,fun p hp=>?_⟩,hS,hI⟩
  rcases List.mem_cons.mp hp with rfl | hp
  ·exact hk
  ·exact q p hp
 ·rintro i j k k' s' ⟨⟨h,tk,rfl,G⟩,q⟩
  exact cmp i j k k' h tk (q (j,k) (by simp)) (q (i,k') (by simp)) G _ ⟨rfl,rfl⟩
 ·obtain ⟨x,hx,q⟩:=hD e
  exact ⟨x,hx,fun s' ⟨⟨h,tk,e,G⟩,_⟩=>e ▸ q h tk G⟩
 ·exact fun i v k s' hv ft ⟨⟨h,tk,e,G⟩,_⟩=>e ▸ hR i v h tk hv ft G
end
end GX
namespace GX
open PySem
end GX
namespace GB
end GB
namespace GB
def Q9 (l:List Nat):Nat:=l.foldl (fun a h=>a ||| 2 ^ h) 0
end GB
namespace L2
open PySem PySem.Spec PyProof.Rows
def W6 (N:List Str) (sc:Scope) (x:Str):Option Nat->Bool
 | none=>true
 | some j=>decide (N[j]?=some x) && decide (sc.names.lookup x=some .free)
def PN (N N':List Str) (src:List (Option Nat)) (esc sc:Scope):Prop :=
 (∀ y∈sc.names,y.2≠.cell)/\(∀ y∈sc.names,y.2=.local->sc.names.lookup y.1=some .local) /\
 (∀ y∈sc.names,y.2=.free->esc.names.lookup y.1=some .cell∨esc.names.lookup y.1=some .free) /\
 N'.Nodup/\src.length=N'.length/\∀ p∈N'.zip src,W6 N sc p.1 p.2=true
instance (N N':List Str) (src:List (Option Nat)) (esc sc:Scope):Decidable (PN N N' src esc sc):=by unfold PN; infer_instance
def Fv (src:List (Option Nat)) (σ:St):St:=src.map fun o=>o.bind fun j=>(σ[j]?).bind fun v=>v
def Cx.blk (X:Cx) (N':List Str) (sc:Scope) (cl:List (Str×Addr)) (C:Addr) (s2:Shared) (H2:Hp) (fp:List Addr):Cx :=
 { X with N:=N',s₀:=s2,H₀:=H2,env:=compEnvC sc cl C X.env,outer:=X.stack,ex:=fp,fn:=fun _=>false,pn:=[],xe:=fun _ _=>False }
def PIf (X:Cx) (ifs:List Expr) (t:TT):Prop :=
 ∀ (pins:List (Addr×Obj)) (s:Shared) (σ:St) (H:Hp) (Q:Bool->Hp->Prop),Inv X pins σ H s->t σ H Q ->
  wpAny (model X.prog X.w) X.A (forIn ifs true fun c r=>if r=true then do let ok ← isTrue c X.env (eval c X.env); pure (ForInStep.yield ok) else pure (ForInStep.yield r)) (TP X pins σ Q) X.xe s
def Vo:TT:=fun _ H Q=>Q true H
theorem kh {X:Cx}:PIf X [] Vo:=fun _ _ _ H _ I h=>wpAny_tests_nil ⟨H,I,h⟩
theorem jn {X:Cx} {c:Expr} {t:TT} (h:PT X c t):PIf X [c] t:=fun pins s σ H Q I hw=>wpAny_tests_one (h pins s σ H Q I hw)
theorem Un.but {fs ex:List Addr} {H H':Hp} {h h1 h2:Heap} {C:Addr} (u:Un fs ex H H' h h1) (sb:Heap.SameBut C h1 h2) (hC:h.get? C=none):Un fs ex H H' h h2 :=
 have ne:∀ b o,h.get? b=some o->b≠C:=fun b o e z=>by rw [z,hC] at e; cases e
 ⟨fun b o e n hb hx=>(sb.2 b (ne b o e)).trans (u.keep b o e n hb hx),fun b o e n hb hx=>let ⟨sl,z⟩:=u.slot b o e n hb hx; ⟨sl,(sb.2 b (ne b o e)).trans z⟩,u.free,
  fun b o e hx=>let ⟨o',z⟩:=u.there b o e hx; ⟨o',(sb.2 b (ne b o e)).trans z⟩,u.tups,u.frzs,u.tbls⟩
theorem HOk.but {P:Program} {w:World} {H:Hp} {h h':Heap} {C:Addr} (x:HOk P w H h) (sb:Heap.SameBut C h h') (hC:H C=none):HOk P w H h':=fun b ob e=>by
 refine (x b ob e).stay (fun c v hc q=>(sb.2 c ?_).trans q) (fun _ q=>q) fun _ _ q=>q
 rintro rfl
 rcases hc with rfl | hc
 ·rw [hC] at e; cases e
 ·rw [hC] at hc; cases hc
def nD (g:TG) (tt:TT) (te:TE) (D:Addr) (N:St->Hp->Prop) (x:V) (σ:St) (H:Hp):Prop :=
 g x σ H fun σ2 H2=>tt σ2 H2 fun b H3=>if b=true then te σ2 H3 fun y H4=>∃ ys,H4 D=some (.lst ys)/\ys.length < sizeLine/\N σ2 (upd H4 D (.lst (ys ++ [y]))) else N σ2 H3
def Mf (src:List (Option Nat)) (wi:TI) (g:TG) (tt:TT) (te:TE):TE:=fun σ H Q=>wi σ H fun J H1=>∀ D,H1 D=none->∃ W:Nat->Nat->St->Hp->Prop,(∃ m,W 0 m (Fv src σ) (upd H1 D (.lst []))) /\
 ∀ i m σ' H',W i m σ' H'->(J.stop i H'/\Q (.ref D) H')∨(J.go i H'/\∃ N:St->Hp->Prop,(∀ σ2 H2,N σ2 H2->∃ m',m' < m/\W (i + 1) m' σ2 H2) /\
  ∀ x H'',J.yld i H' x H''->nD g tt te D N x σ' H'')
theorem Aw {X:Cx} {elt tg iter:Expr} {ifs:List Expr} {sc:Scope} {pos:Pos} {g:TG} {tt:TT} {te:TE} {N':List Str} {src:List (Option Nat)} {cl:List (Str×Addr)} {pins:List (Addr×Obj)} {σ:St} {H2:Hp} {s2:Shared} {it:Addr} {fp:List Addr}
  {tn:Nat->Heap->Prop} {J:It} {W:Nat->Nat->St->Hp->Prop} {m0:Nat} {Qe:Hp->Prop} {RR:Value->Addr->Result->Shared->Prop}
  (hc:X.calm=true) (hk:sc.kind=.function) (hB:PN X.N N' src X.env.scope sc) (hsub:∀ x c,cl.lookup x=some c->X.env.cells.lookup x=some c) (hhas:∀ n,(n,NameKind.free)∈sc.names->∃ c,cl.lookup n=some c)
  (hg:∀ cl C s2 H2 fp,N'.Nodup->PG (X.blk N' sc cl C s2 H2 fp) tg g)
  (ht:∀ cl C s2 H2 fp,PIf (X.blk N' sc cl C s2 H2 fp) ifs tt)
  (he:∀ cl C s2 H2 fp,PE (X.blk N' sc cl C s2 H2 fp) elt te)
  (I2:Inv X pins σ H2 s2) (T:Turn X.prog X.w X.K tg J fp it tn) (st2:tn 0 s2.heap) (f2:∀ b∈fp,vL X pins H2 b)
  (w0:W 0 m0 (Fv src σ) (upd H2 s2.heap.objs.size (.lst [])))
  (turn:∀ i m σ' H',W i m σ' H'->(J.stop i H'/\Qe H')∨(J.go i H'/\∃ N:St->Hp->Prop,(∀ σ2 H2,N σ2 H2->∃ m',m' < m/\W (i + 1) m' σ2 H2) /\
   ∀ x H'',J.yld i H' x H''->nD g tt te s2.heap.objs.size N x σ' H''))
  (fin:∀ C s4 σ3 H3,s2.heap.objs.size<=C->Inv (X.blk N' sc cl C s2 H2 fp) [] σ3 H3 s4->Qe H3->RR (.ref s2.heap.objs.size) C (.ok .next) s4) :
  wpAny (model X.prog X.w) X.A (newList []) (fun acc s₃=>wpAny (model X.prog X.w) X.A (newFunctionEnv sc X.env.globals cl [] X.env.qual none .none (some X.env)) (fun cenv s₄ =>
   codeAny (model X.prog X.w) X.A (.compStart (.ListComp elt [⟨tg,iter,ifs,0⟩] sc pos) 0 (.ref it) acc { cenv with scope:=relabel sc X.env }) (RR acc cenv.locals) s₄) X.xe s₃) X.xe s2:=by
 obtain ⟨b1,b2,b3,b4,b5,b6⟩:=hB
 refine wpAny_newObj_type (wpAny_newFunctionEnv b1 (by intro y hy; simp at hy) (fun h₁ ns₁ sb₁=>?_) hk)
 dsimp only at ns₁ sb₁ ⊢
 generalize hP:s2.heap.push { cls:=.type "list",dict:=none,data:=.seq ([]:List Value).toArray }=Hl at ns₁ sb₁ ⊢
 have hC:Hl.objs.size=s2.heap.objs.size + 1:=by rw [← hP,Heap.size_push]
 have nDC:s2.heap.objs.size≠Hl.objs.size:=by rw [hC]; exact Nat.ne_of_lt (Nat.lt_succ_self _)
 have below:∀ {b:Addr} {o:Obj},s2.heap.get? b=some o->b≠Hl.objs.size:=fun {b o} z=>by
  have:=Heap.lt_size z
  rw [hC]
  exact Nat.ne_of_lt (Nat.lt_succ_of_lt this)
 have old:∀ b o,s2.heap.get? b=some o->h₁.get? b=some o:=fun b o z=>sb₁.extBut b o (below z) (Heap.get?_push_of_some _ (hP ▸ Heap.get?_push_of_some _ z))
 have hD1:h₁.get? s2.heap.objs.size=some { cls:=.type "list",data:=.seq ([]:List Value).toArray }:=sb₁.extBut _ _ nDC (Heap.get?_push_of_some _ (hP ▸ Heap.get?_push_size _ rfl))
 have fD:H2 s2.heap.objs.size=none:=I2.hok.fresh (Nat.le_refl _)
 have fC:H2 Hl.objs.size=none:=I2.hok.fresh (by rw [hC]; exact Nat.le_succ _)
 have ok:(X.blk N' sc cl Hl.objs.size s2 H2 fp).Ok:=by
  refine ⟨I2.ok.mod,hk,I2.ok.glob,I2.ok.blt,?_,fun x y c h1 h2=>I2.ok.inj x y c (hsub x c h1) (hsub y c h2),fun x hx=>?_,fun x c z=>?_,I2.ok.hd,I2.ok.frames,.inl rfl,fun b hb=>⟨?_,fun x c z=>(f2 b hb).2.2.2.2.1 x c (hsub x c z)⟩,
   I2.bs,Nat.le_trans I2.ok.bsz I2.sz,fun b o z hb=>?_,fun b hb z=>?_,I2.stack,I2.stkFree⟩
  ·show s2.heap.objs.size<=Hl.objs.size
   rw [hC]; exact Nat.le_succ _
  ·have hx':(sc.names.map fun (n,k)=>if (k == NameKind.free && X.env.scope.kind == .function && X.env.kindOf n == some .cell) then (n,NameKind.cell) else (n,k)).lookup x=some .cell ∨
     (sc.names.map fun (n,k)=>if (k == NameKind.free && X.env.scope.kind == .function && X.env.kindOf n == some .cell) then (n,NameKind.cell) else (n,k)).lookup x=some .free:=hx
   rw [GX.rJ] at hx'
   cases e:sc.names.lookup x with
   | none =>
    rw [e] at hx'
    simp at hx'
   | some k =>
    rw [e] at hx'
    by_cases hf:k=.free
    ·subst hf
     exact hhas x (PySem.mem_of_lookup e)
    ·have hb:(k == NameKind.free)=false:=by simpa using hf
     have e2:((some k).map fun k=>if (k == NameKind.free && X.env.scope.kind == .function && X.env.kindOf x == some .cell) then NameKind.cell else k)=some k:=by
      show some (if (k == NameKind.free && X.env.scope.kind == .function && X.env.kindOf x == some .cell)=true then NameKind.cell else k)=some k
      rw [hb,Bool.false_and,Bool.false_and]
      rfl
     rw [e2] at hx'
     rcases hx' with z | z
     ·exact absurd (Option.some.inj z) (b1 _ (PySem.mem_of_lookup e))
     ·exact absurd (Option.some.inj z) hf
  ·cases z
  ·obtain ⟨o,z,_⟩:=T.obj 0 _ st2 b hb
   exact below z
  ·rcases (f2 b hb).2.2.2.1 with f3 | f3
   ·exact I2.ok.noex b o z f3
   ·have l1:=Heap.lt_size z
    have l2:=I2.ok.bsz
    exact absurd (Nat.lt_of_lt_of_le l1 (Nat.le_trans l2 f3)) (Nat.lt_irrefl _)
  ·rcases List.mem_cons.mp (I2.stkSub b z) with z | z
   ·exact (f2 b hb).2.1 z
   ·exact (f2 b hb).2.2.1 z
 have IY:Inv (X.blk N' sc cl Hl.objs.size s2 H2 fp) [] (Fv src σ) (upd H2 s2.heap.objs.size (.lst [])) { s2 with heap:=h₁,toks:=s2.toks + ([]:List (Str×Value)).length }:=by
  refine ⟨ok,rfl,I2.bare,Un.laid old (Nat.le_refl _) fD,⟨_,ns₁,fun i x v e1 e2 _=>?_⟩,fun x c z=>?_,?_,fun x c z=>?_,fun p hp=>?_,I2.hok.laid old (Nat.le_refl _) ⟨Nat.zero_le _,[],0,.nil,hD1⟩,?_⟩
  ·have e1':N'[i]?=some x:=e1
   unfold Fv at e2
   rw [List.getElem?_map] at e2
   cases es:src[i]? with
   | none=>rw [es] at e2; cases e2
   | some o =>
    rw [es] at e2
    cases o with
    | none=>cases e2
    | some j =>
     have e3:(σ[j]?).bind (fun v=>v)=some v:=Option.some.inj e2
     have e4:σ[j]?=some (some v):=by
      cases q:σ[j]? with
      | none=>rw [q] at e3; cases e3
      | some w=>rw [q] at e3; exact congrArg some e3
     have hz:(x,some j)∈N'.zip src:=List.mem_of_getElem? (i:=i) (by rw [List.getElem?_zip_eq_some]; exact ⟨e1',es⟩)
     have hcap:=b6 _ hz
     have hcap':(decide (X.N[j]?=some x) && decide (sc.names.lookup x=some .free))=true:=hcap
     rw [Bool.and_eq_true] at hcap'
     have c1:X.N[j]?=some x:=of_decide_eq_true hcap'.1
     have c2:sc.names.lookup x=some .free:=of_decide_eq_true hcap'.2
     have hfree:=PySem.mem_of_lookup c2
     have vis:=b3 _ hfree rfl
     obtain ⟨m,hn,hl⟩:=I2.loc
     obtain ⟨u,ru,lk⟩:=hl j x v c1 e4 (.inr vis)
     rcases lk with ⟨k1,_⟩ | ⟨_,c,k2,z⟩
     ·have k1':X.env.scope.names.lookup x=some .local:=k1
      rcases vis with v | v <;> (rw [k1'] at v; cases v)
     ·obtain ⟨c',k3⟩:=hhas x hfree
      have k4:=hsub x c' k3
      rw [k2] at k4
      cases k4
      refine ⟨u,ru,.inr ⟨?_,c,k3,z.keeps old⟩⟩
      show (sc.names.map fun (n,k)=>if (k == NameKind.free && X.env.scope.kind == .function && X.env.kindOf n == some .cell) then (n,NameKind.cell) else (n,k)).lookup x=some .cell ∨
       (sc.names.map fun (n,k)=>if (k == NameKind.free && X.env.scope.kind == .function && X.env.kindOf n == some .cell) then (n,NameKind.cell) else (n,k)).lookup x=some .free
      rw [GX.rJ,c2]
      show some (if _ then NameKind.cell else NameKind.free)=_∨some (if _ then NameKind.cell else NameKind.free)=_
      split
      ·exact .inl rfl
      ·exact .inr rfl
  ·obtain ⟨v,q⟩:=I2.cell x c (hsub x c z)
   exact ⟨v,q.keeps old⟩
  ·show upd H2 s2.heap.objs.size (.lst []) Hl.objs.size=none
   rw [aF (Ne.symm nDC)]
   exact fC
  ·obtain ⟨v,q⟩:=I2.cell x c (hsub x c z)
   rw [aF (Nat.ne_of_lt q.lt)]
   exact I2.freeC x c (hsub x c z)
  ·exact absurd (show p∈([]:List (Addr×Obj)) from hp) (by simp)
  ·show (src.map _).length=N'.length
   rw [List.length_map]
   exact b5
 have stat:∀ {H':Hp},(∀ b∈fp,H' b=none)->∀ b∈fp,vL (X.blk N' sc cl Hl.objs.size s2 H2 fp) [] H' b:=fun hn b hb =>
  ⟨hn b hb,(ok.exf b hb).1,ok.exfs b hb,.inl hb,(ok.exf b hb).2,fun p hp=>absurd (show p∈([]:List (Addr×Obj)) from hp) (by simp)⟩
 have loop:codeAny (model X.prog X.w) X.A (.compLoop (.ListComp elt [⟨tg,iter,ifs,0⟩] sc pos) 0 (.ref it) (.ref s2.heap.objs.size) (compEnvC sc cl Hl.objs.size X.env))
   (RR (.ref s2.heap.objs.size) Hl.objs.size) { s2 with heap:=h₁,toks:=s2.toks + ([]:List (Str×Value)).length }:=by
  refine GX.Fe (fun n s'=>∃ i σ' H',Inv (X.blk N' sc cl Hl.objs.size s2 H2 fp) [] σ' H' s'/\tn i s'.heap/\(∀ b∈fp,H' b=none)/\W i n σ' H') ?_ m0
   ⟨0,_,_,IY,T.keep 0 _ _ st2 (fun b _ o z=>old b o z),fun b hb=>?_,w0⟩
  ·rintro n s3 ⟨i,σ3,H3,I3,st3,fr3,w3⟩
   rcases turn i n σ3 H3 w3 with ⟨stop,qn⟩ | ⟨go,N,hN,step⟩
   ·refine wpAny_bind (thn (T.done (X.blk N' sc cl Hl.objs.size s2 H2 fp) rfl rfl rfl hc i [] s3 σ3 H3 (fun _ _=>False) I3 (stat fr3) st3 stop) fun r s4 ⟨hr,I4⟩=>?_)
    subst hr
    exact wpAny_pure <| fin _ s4 σ3 H3 (by rw [hC]; exact Nat.le_succ _) I4 qn
   ·refine wpAny_bind (thn (T.item (X.blk N' sc cl Hl.objs.size s2 H2 fp) rfl rfl rfl hc i [] s3 σ3 H3 (fun _ _=>False) I3 (stat fr3) st3 go) fun r s4 ⟨u,hr,h4⟩=>?_)
    subst hr
    refine wpAny_bind (thn h4 fun _ s5 ⟨x,H5,I5,r5,y5,st5,fr5⟩=>?_)
    have I5':=I5.pinned (stat fr5) (T.obj _ _ st5)
    have again:∀ {σ7:St} {H7:Hp} {s7:Shared},Inv (X.blk N' sc cl Hl.objs.size s2 H2 fp) ([] ++ vP fp s5.heap) σ7 H7 s7->N σ7 H7 ->
      ∃ m,m < n/\∃ i σ' H',Inv (X.blk N' sc cl Hl.objs.size s2 H2 fp) [] σ' H' s7/\tn i s7.heap/\(∀ b∈fp,H' b=none)/\W i m σ' H':=fun {σ7 H7 s7} I7 n7=>by
     obtain ⟨m',hm,w7⟩:=hN σ7 H7 n7
     refine ⟨m',hm,i + 1,σ7,H7,I7.unpinned,T.keep _ _ _ st5 fun b hb o z=>(I7.pin (b,o) (List.mem_append_right _ (List.mem_append_right _ (jQ hb z)))).1,fun b hb=>?_,w7⟩
     obtain ⟨o,z,_⟩:=T.obj _ _ st5 b hb
     exact (I7.pin (b,o) (List.mem_append_right _ (List.mem_append_right _ (jQ hb z)))).2.1
    refine wpAny_bind (thn (hg cl Hl.objs.size s2 H2 fp b4 _ s5 σ3 H5 x u _ I5' r5 (step x H5 y5)) fun _ s6 ⟨σ6,H6,I6,q6⟩=>?_)
    refine wpAny_bind (thn (ht cl Hl.objs.size s2 H2 fp _ s6 σ6 H6 _ I6 q6) fun ok s7 ⟨H7,I7,q7⟩=>?_)
    cases ok with
    | true =>
     rw [if_pos rfl] at q7 ⊢
     refine wpAny_bind (thn (he cl Hl.objs.size s2 H2 fp _ s7 σ6 H7 _ I7 q7) fun yv s8 ⟨y,H8,I8,r8,ys,hD,hz,n8⟩=>?_)
     exact wpAny_bind <| thn (iC (X:=X.blk N' sc cl Hl.objs.size s2 H2 fp) _ s8 σ6 H8 (.ref s2.heap.objs.size) [y] (.ref s2.heap.objs.size) [yv] (fun _ H'=>N σ6 H') I8 rfl (.cons r8 .nil) ⟨_,ys,y,rfl,rfl,hD,hz,n8⟩)
      fun _ s9 ⟨_,H9,I9,_,n9⟩=>wpAny_pure (again I9 n9)
    | false =>
     rw [if_neg Bool.false_ne_true] at q7 ⊢
     exact wpAny_pure (again I7 q7)
  ·obtain ⟨o,z,_⟩:=T.obj 0 _ st2 b hb
   rw [aF (Nat.ne_of_lt (Heap.lt_size z))]
   exact (f2 b hb).1
 exact codeAny_compStart_list loop (T.self X.A 0 _ _ _ (T.keep 0 _ _ st2 (fun b _ o z=>old b o z)) loop)
theorem cZ {X:Cx} {elt tg iter:Expr} {ifs:List Expr} {sc:Scope} {pos:Pos} {wi:TI} {g:TG} {tt:TT} {te:TE} (N':List Str) (src:List (Option Nat))
  (hc:X.calm=true) (hk:sc.kind=.function) (hB:decide (PN X.N N' src X.env.scope sc)=true) (hi:PI X tg iter wi)
  (hg:∀ cl C s2 H2 fp,N'.Nodup->PG (X.blk N' sc cl C s2 H2 fp) tg g)
  (ht:∀ cl C s2 H2 fp,PIf (X.blk N' sc cl C s2 H2 fp) ifs tt)
  (he:∀ cl C s2 H2 fp,PE (X.blk N' sc cl C s2 H2 fp) elt te)
  (hs:∀ x,foldedSetIterable iter X.env x=pure x:=by intro _; rfl) :
  PE X (.ListComp elt [⟨tg,iter,ifs,0⟩] sc pos) (Mf src wi g tt te):=by
 intro pins s σ H Q I h
 have B:=of_decide_eq_true hB
 obtain ⟨cl,hclos,hsub,hhas⟩:=GX.xW (env:=X.env) (sc:=sc) fun y hy hf=>I.ok.has y.1 (B.2.2.1 y hy hf)
 rw [eval_ListComp]
 refine wpAny_comprehension_free (use:=none) rfl hs hclos hk B.2.1 (thn (hi pins s σ H _ I h) fun v s1 h1=>thn h1 fun itv s2 h2=>?_)
 obtain ⟨it,fp,tn,J,H2,e,I2,T,st2,f2,q⟩:=h2
 subst e
 obtain ⟨W,⟨m0,w0⟩,turn⟩:=q s2.heap.objs.size (I2.hok.fresh (Nat.le_refl _))
 refine Aw (RR:=fun acc C=>compPost (model X.prog X.w) X.A X.xe none (EP X pins σ Q) acc C) (Qe:=fun H'=>Q (.ref s2.heap.objs.size) H') hc hk B hsub hhas hg ht he I2 T st2 f2 w0 turn fun C s4 σ3 H3 hC I4 qn=>?_
 obtain ⟨m,hn,_⟩:=I4.loc
 refine ⟨m,hn,fun h' sb=>⟨.ref s2.heap.objs.size,H3,?_,rfl,qn⟩⟩
 exact I2.call' (s':={ s4 with heap:=h' }) (ch:=fp) I4.os (I4.base.but sb (Heap.get?_none_of_le hC)) (I4.hok.but sb I4.free) I4.bare fun b hb=>⟨(f2 b hb).2.2.2.1,(f2 b hb).2.1,(f2 b hb).2.2.2.2.1,(f2 b hb).2.2.2.2.2⟩
theorem CP {X:Cx} {elt tg iter:Expr} {ifs:List Expr} {sc:Scope} {pos py spos:Pos} {y:Str} {i:Nat} {wi:TI} {g:TG} {tt:TT} {te:TE} (N':List Str) (src:List (Option Nat))
  (hN:X.N.Nodup) (hy:X.N[i]?=some y) (hl:Loc X.env.scope y) (hc:X.calm=true) (hk:sc.kind=.function) (hB:decide (PN X.N N' src X.env.scope sc)=true) (hi:PI X tg iter wi)
  (hg:∀ cl C s2 H2 fp,N'.Nodup->PG (X.blk N' sc cl C s2 H2 fp) tg g)
  (ht:∀ cl C s2 H2 fp,PIf (X.blk N' sc cl C s2 H2 fp) ifs tt)
  (he:∀ cl C s2 H2 fp,PE (X.blk N' sc cl C s2 H2 fp) elt te)
  (hsw:swapsWith (.ListComp elt [⟨tg,iter,ifs,0⟩] sc pos) (some (.Name y py)) spos.line X.env=pure true:=by rfl)
  (hs:∀ x,foldedSetIterable iter X.env x=pure x:=by intro _; rfl) (hf:X.fn y=true∨X.env.scope.names.lookup y=some .local:=by first | exact .inl rfl | exact .inr rfl) :
  PS X (.Assign [.Name y py] (.ListComp elt [⟨tg,iter,ifs,0⟩] sc pos) spos) (Oo (Mf src wi g tt te) (yj i)):=by
 intro pins s σ H D I h
 have B:=of_decide_eq_true hB
 obtain ⟨cl,hclos,hsub,hhas⟩:=GX.xW (env:=X.env) (sc:=sc) fun y hy hf=>I.ok.has y.1 (B.2.2.1 y hy hf)
 rw [exec_Assign_Name_used _ _ _ _ hsw]
 refine wpAny_bind (wpAny_standAt (wpAny_bind ?_))
 show wpAny _ X.A (do let _ ← comprehension (.ListComp elt [⟨tg,iter,ifs,0⟩] sc pos) sc X.env _ (newList []) false (eval iter X.env) (some (assign (.Name y py) X.env))) _ _ s
 refine wpAny_bind (wpAny_mono (wpAny_comprehension_free (use:=some (assign (.Name y py) X.env)) (Q:=fun _ s'=>SP X pins D .next s') rfl hs hclos hk B.2.1
  (thn (hi pins s σ H _ I h) fun v s1 h1=>thn h1 fun itv s2 h2=>?_)) (fun _ s' hq=>wpAny_pure (wpAny_pure hq)) fun _ _ e=>e)
 obtain ⟨it,fp,tn,J,H2,e,I2,T,st2,f2,q⟩:=h2
 subst e
 obtain ⟨W,⟨m0,w0⟩,turn⟩:=q s2.heap.objs.size (I2.hok.fresh (Nat.le_refl _))
 refine Aw (RR:=fun acc C=>compPost (model X.prog X.w) X.A X.xe (some (assign (.Name y py) X.env)) (fun _ s'=>SP X pins D .next s') acc C) (Qe:=fun H'=>D.nx (σ.set i (some (.ref s2.heap.objs.size))) H') hc hk B hsub hhas hg ht he I2 T st2 f2 w0 turn
  fun C s4 σ3 H3 hC I4 qn=>?_
 have IX:Inv X pins σ H3 s4:=I2.call' (ch:=fp) I4.os I4.base I4.hok I4.bare fun b hb=>⟨(f2 b hb).2.2.2.1,(f2 b hb).2.1,(f2 b hb).2.2.2.2.1,(f2 b hb).2.2.2.2.2⟩
 have nC:∀ {b:Addr} {o:Obj},s2.heap.get? b=some o->C≠b:=fun {b o} z=>Nat.ne_of_gt (Nat.lt_of_lt_of_le (Heap.lt_size z) hC)
 have nL:C≠X.env.locals:=Nat.ne_of_gt (Nat.lt_of_lt_of_le I2.lt hC)
 have nK:∀ x c,X.env.cells.lookup x=some c->c≠C:=fun x c z=>by
  obtain ⟨v,o,ho,_⟩:=I2.cell x c z
  exact Ne.symm (nC ho)
 obtain ⟨m,hn,_⟩:=I4.loc
 show wpAny _ X.A (assign (.Name y py) X.env (.ref s2.heap.objs.size)) _ _ s4
 refine wpAny_assign_Name (Bk IX hN hy hl (v:=.ref s2.heap.objs.size) rfl (fun s5 I5 h5=>?_) hf)
 obtain ⟨a,sb,ha⟩:=h5
 have na:C≠a:=by
  rcases ha with z | z
  ·rw [z]; exact nL
  ·exact Ne.symm (nK _ _ z)
 refine ⟨m,hn.sameBut sb na,fun h' sb'=>⟨_,H3,?_,qn⟩⟩
 exact I5.turned (it:=C) (t':=s5.toks) (fun b o hb z=>(sb'.2 b hb).trans z) I4.free nL (.inr (Nat.le_trans I2.sz hC)) nK fun p hp=>Ne.symm (nC (I2.pin p hp).1)
theorem Qk {i:Nat} {te:TE} {D:Addr} {N:St->Hp->Prop} {x:V} {σ:St} {H:Hp} (h:te (σ.set i (some x)) H fun y H4=>∃ ys,H4 D=some (.lst ys)/\ys.length < sizeLine/\N (σ.set i (some x)) (upd H4 D (.lst (ys ++ [y])))):nD (yj i) Vo te D N x σ H:=by
 show (if true=true then te (σ.set i (some x)) H (fun y H4=>∃ ys,H4 D=some (.lst ys)/\ys.length < sizeLine/\N (σ.set i (some x)) (upd H4 D (.lst (ys ++ [y])))) else N (σ.set i (some x)) H)
 rw [if_pos rfl]
 exact h
theorem HQ {lo:Int} {n:Nat} {g:TG} {tt:TT} {te:TE} {σ:St} {H:Hp} {D:Addr} {Qe:Hp->Prop} (Pv:Nat->St->Hp->Prop) (h0:Pv 0 σ H)
  (hs:∀ i σ H,i < n->Pv i σ H->nD g tt te D (Pv (i + 1)) (.int (lo + i)) σ H) (hd:∀ σ H,Pv n σ H->Qe H) :
  ∃ W:Nat->Nat->St->Hp->Prop,(∃ m,W 0 m σ H)/\∀ i m σ' H',W i m σ' H'->((Itr lo n).stop i H'/\Qe H')∨((Itr lo n).go i H'/\∃ N:St->Hp->Prop,(∀ σ2 H2,N σ2 H2->∃ m',m' < m/\W (i + 1) m' σ2 H2) /\
   ∀ x H'',(Itr lo n).yld i H' x H''->nD g tt te D N x σ' H''):=by
 refine ⟨fun i m σ H=>m=n - i/\i<=n/\Pv i σ H,⟨n,by simp,Nat.zero_le _,h0⟩,?_⟩
 rintro i m σ H ⟨rfl,hi,p⟩
 by_cases hlt:i < n
 ·refine .inr ⟨hlt,Pv (i + 1),fun σ' H' p'=>⟨n - (i + 1),by omega,rfl,hlt,p'⟩,fun x H' y=>?_⟩
  obtain ⟨e,y⟩:=y
  subst e y
  exact hs i σ _ hlt p
 ·have e:i=n:=by omega
  subst e
  exact .inl ⟨Nat.le_refl _,hd σ H p⟩
theorem bQ {K:PySem.W.Frag} {a:Addr} {xs:List V} {g:TG} {tt:TT} {te:TE} {σ:St} {H:Hp} {D:Addr} {Qe:Hp->Prop} (Pv:Nat->St->Hp->Prop) (h0:Pv 0 σ H) (hl:∀ i σ H,i<=xs.length->Pv i σ H->SqL K H a xs)
  (hs:∀ i x σ H,xs[i]?=some x->Pv i σ H->nD g tt te D (Pv (i + 1)) x σ H) (hd:∀ σ H,Pv xs.length σ H->Qe H) :
  ∃ W:Nat->Nat->St->Hp->Prop,(∃ m,W 0 m σ H)/\∀ i m σ' H',W i m σ' H'->((Itl K a).stop i H'/\Qe H')∨((Itl K a).go i H'/\∃ N:St->Hp->Prop,(∀ σ2 H2,N σ2 H2->∃ m',m' < m/\W (i + 1) m' σ2 H2) /\
   ∀ x H'',(Itl K a).yld i H' x H''->nD g tt te D N x σ' H''):=by
 refine ⟨fun i m σ H=>m=xs.length - i/\i<=xs.length/\Pv i σ H,⟨xs.length,by simp,Nat.zero_le _,h0⟩,?_⟩
 rintro i m σ H ⟨rfl,hi,p⟩
 have q:=hl i σ H hi p
 by_cases hlt:i < xs.length
 ·refine .inr ⟨⟨xs,xs[i],q,by simp [hlt]⟩,Pv (i + 1),fun σ' H' p'=>⟨xs.length - (i + 1),by omega,rfl,hlt,p'⟩,fun x H' y=>?_⟩
  obtain ⟨e,y⟩:=y
  subst e
  exact hs i x σ _ (y xs q) p
 ·have e:i=xs.length:=by omega
  subst e
  exact .inl ⟨⟨xs,q,Nat.le_refl _⟩,hd σ H p⟩
end L2
namespace L2
open PySem PySem.Spec PyProof.Rows
section
variable {X:Cx}
def Pq (_ j:Int):Prop:=0 < j/\j < 18446744073709551616
theorem Fz:OpR X (binaryOp .FloorDiv) (rI Pq fun i j=>.int (i / j)):=opI fun i j _ _ _ _ _ hc q=>by
 have h1:(0:Int) < j:=hc.1
 have h2:j < 18446744073709551616:=hc.2
 refine floordiv_int (by omega) (by rw [Int.fdiv_eq_ediv_of_nonneg i (by omega)]; exact q) (.inl (PyProof.noPylong_of_log2 ?_))
 have h3:j.natAbs.log2 < 64:=(Nat.log2_lt (by omega)).mpr (by omega)
 omega
theorem FJ:gC X (.builtin "isinstance") (fun xs H Q=>∃ (x:V) (t:Value) (T:String) (b:Bool),xs=[x,.ty T]/\TyOf X.K H x t/\PySem.W.kitOne X.K t (.type T)=some b/\Q (.bl b) H):=by
 intro pins s σ H xs us Q I r h
 obtain ⟨x,t,T,b,rfl,ty,e,q⟩:=h
 obtain ⟨u,w',rfl,r1,r2⟩:=vals2 r
 obtain rfl:w'=Value.type T:=r2
 exact K8 I r1 ty e fun tk=>⟨.bl b,H,I.tok tk,rfl,q⟩
theorem all_range (bs:List Bool):(List.range bs.length).all (fun i=>bs.getD i false)=bs.all fun b=>b:=by
 have e:(List.range bs.length).map (fun i=>bs.getD i false)=bs:=List.ext_getElem (by simp) fun i h1 h2=>by simp [h2]
 conv=>rhs; rw [← e,List.all_map]
 rfl
theorem Ov (hc:X.calm=true):gC X (.builtin "all") (fun xs H Q=>∃ (p:Addr) (bs:List Bool),xs=[.ref p]/\SqL X.K H p (bs.map V.bl)/\Q (.bl (bs.all fun b=>b)) H):=by
 intro pins s σ H xs us Q I r h
 obtain ⟨p,bs,rfl,hq,q⟩:=h
 obtain ⟨u,rfl,rx⟩:=vals1 r
 cases rx
 obtain ⟨its,rv,pl,hz⟩:=I.list hq
 have hl:its.toArray.size=bs.length:=by rw [List.size_toArray,← rv.length,List.length_map]
 have hp:p < s.heap.objs.size:=let ⟨_,z,_⟩:=pl.isList; Heap.lt_size z
 refine call_all_walk (wpAny_pyIter_list pl.isList ?_)
 refine ⟨s.heap.objs.size,[s.heap.objs.size,p],[s.heap.objs.size],its.toArray.size,_,_,fun i=>bs.getD i false,rfl,Walks.list (A:=X.A.in1) (I.ok.hd hc) _ p (Nat.ne_of_lt hp) its.toArray,
  ⟨⟨_,Heap.get?_push_size _ rfl,rfl,rfl⟩,pl.isList.push _⟩,fun i v s' Q' E' hP hQ=>?_,fun h' tk kp=>?_⟩
 ·have hv:its[i]?=some v:=by simpa using hP
  have hb:i < bs.length:=by
   have:=(List.getElem?_eq_some_iff.mp hv).1
   rw [← hl,List.size_toArray]
   exact this
  obtain ⟨u,hu,ru⟩:=rv.get (i:=i) (x:=V.bl bs[i]) (by rw [List.getElem?_map,List.getElem?_eq_getElem hb]; rfl)
  rw [hv] at hu
  cases hu
  obtain rfl:v=Value.bool bs[i]:=ru
  refine wpAny_truthy_bool ?_
  have e:bs.getD i false=bs[i]:=by rw [List.getD_eq_getElem?_getD,List.getElem?_eq_getElem hb,Option.getD_some]
  rw [← e]
  exact hQ
 ·refine ⟨.bl (bs.all fun b=>b),H,I.kept (t':=tk) fun b o e=>kp b o ?_ (Heap.get?_push_of_some _ e),?_,q⟩
  ·intro z
   have z':b=s.heap.objs.size:=by simpa using z
   exact absurd (Heap.lt_size e) (by rw [z']; exact Nat.lt_irrefl _)
  ·show Value.bool _=Value.bool _
   rw [hl,all_range]
end
structure Cal (K:PySem.W.Frag) (mg:Str->Option Value) (x:Str) (f:Addr) (fd:FuncData) (ps:List Str):Prop where
 mg:mg x=some (.ref f)
 kp:PySem.W.keepIn K (.ref f)=true
 bd:Binds K fd ps []
theorem bz {X:Cx} {k:Nat} {f:Addr} {fd:FuncData} {ps:List Str} {sp:Sp} {x:Str} {e:Expr} {es:List Expr} {t:TA} {p pos:Pos} (F:FnOk X.prog X.w X.K X.mg X.base CX0 k f fd ps sp) (c:Cal X.K X.mg x f fd ps) (hr:Room k X.A) (ha:PA X (e :: es) t)
  (hg:Gl X x:=by rfl) (hdb:(x == ("__debug__":Str))=false:=by decide) (he:starEach (e :: es) X.env=(false,eval e X.env) :: starEach es X.env:=by rfl) (hpl:(backTo pos (starEach es X.env)).any (·.1)=false:=by rfl) :
  PE X (.Call (.Name x p) (e :: es) [] pos) (Jp sp [] E0 t):=Rh F hr hg c.mg c.kp c.bd .nil yz ha hdb he hpl
theorem uH {X:Cx} {x:Str} {T:String} {pos:Pos} (hm:X.mg x=none) (hv:bootBuiltins x=some (.type T)) (hg:Gl X x:=by rfl) (hn:x≠"__name__":=by decide) (hdb:(x == ("__debug__":Str))=false:=by decide):PE X (.Name x pos) (tC (.ty T)) :=
 Ru hg hm hv rfl hn hdb
def Xq (K:PySem.W.Frag) (t:TE):TT:=fun σ H Q=>t σ H fun x H'=>∃ k,Nx K x H' k/\Q k H'
theorem fH {X:Cx} (K:PySem.W.Frag) {f:Expr} {es:List Expr} {kws:List Keyword} {pos:Pos} {t:TE} (hK:X.K=K) (h:PE X (.Call f es kws pos) t):PT X (.Call f es kws pos) (Xq K t):=by
 subst hK
 exact Qa h fun _=>rfl
end L2
namespace L2
open PySem PySem.Spec PyProof.Rows
section
variable {X:Cx}
theorem Qi {x y:Int} (hx:0<=x) (hy:0<=y):Builtin.bitOr x y=((x.toNat ||| y.toNat:Nat):Int):=by
 have nn:∀ z:Int,Builtin.bitNot (Builtin.bitNot z)=z:=fun z=>by unfold Builtin.bitNot; omega
 have ng:∀ z:Int,0<=z->¬ 0<=Builtin.bitNot z:=fun z hz=>by unfold Builtin.bitNot; omega
 unfold Builtin.bitOr
 rw [bitAnd_nn (ng x hx) (ng y hy),nn,nn,nn]
end
end L2
namespace GX
open PySem
theorem Ke:typeLookup (.type "list") (Str.ofString "keys")=pure none:=am_miss_of_fast (by kernel_rfl)
section
variable {prog:Program} {w:World} {A:Around} {E:Value->Shared->Prop} {s:Shared} {l:Addr} {items:Array Value} {n:Nat} {Q:Option Value->Shared->Prop}
theorem O4 {T id:String} {nm:Str} {B:Builtin} {x:Value} {R:Result->Shared->Prop} {S:PySem.Spec} (slot:Slot T nm id) (en:entryFor table id=some B) (hT:s.TypeIs (.ref l) T) (ar:argsOk id ⟨[.ref l,x],[]⟩) (m:Meets (B ⟨[.ref l,x],[]⟩) S) (h:S A R s) :
  codeAny (model prog w) A (.call (.builtin id) ⟨[.ref l,x],[]⟩) R s:=codeAny_call_builtin slot.plain en (slot.check _ _ _ _ _ _ _ _ hT ar (m prog w A R s h))
theorem QW {T id:String} {nm:Str} {o:Obj} (slot:Slot T "__getattribute__" id) (ga:typeLookup (.type T) "__getattr__"=pure none) (en:entryFor table id=some Builtin.«object.__getattribute__») (ar:∀ a b,argsOk id ⟨[a,b],[]⟩)
  (hl:s.heap.get? l=some o) (hc:o.cls=.type T) (m:∀ u,Meets (Builtin.«object.__getattribute__» ⟨[.ref l,.str nm u],[]⟩) (fun A R s=>s.heap.get? l=some o/\raisesAttr (.ref l) nm A R s))
  (hA:A.handled=none) (h:∀ h' tk,uA s.heap h'->Q none { s with heap:=h',toks:=tk }):wpAny (model prog w) A (getAttr? (.ref l) nm) Q E s:=by
 obtain ⟨c,dd,dt,sl⟩:=o
 cases hc
 obtain ⟨hp,g,d,tk,os⟩:=s
 have hT:∀ tk,Shared.TypeIs ⟨hp,g,d,tk,os⟩ (.ref l) T:=fun _=>⟨_,hl,rfl⟩
 have:=slot.lookup
 have:=slot.bind (.ref l)
 have:=sub_AttributeError
 unfold getAttr? getAttrBy? getAttrBy
 repeat' first | assumption | exact hT _ | wp_step
 refine O4 slot en (hT _) (ar _ _) (m _) ⟨hl,hA,fun h' tk' e x=>?_⟩
 obtain ⟨t',u',_⟩:=x.there
 have q:=h h' tk' x.keeps
 unfold getattributeRaised
 repeat' first | assumption | wp_step
theorem Js (hA:A.handled=none) (hl:s.heap.get? l=some (yU items n)) (h:∀ h' tk,uA s.heap h'->Q none { s with heap:=h',toks:=tk }):wpAny (model prog w) A (getAttr? (.ref l) (Str.ofString "keys")) Q E s :=
 QW F.slot_list_getattribute am_list_getattr_none am_entry_list_getattribute F.args_list_getattribute_2 hl rfl (fun u=>meets_getattribute_miss_list l items n _ _ u Ke (by decide)) hA h
end
end GX
namespace GX
open PySem
theorem qz:entryFor table "dict.update.loop"=some Builtin.«dict.update.loop»:=entryFor_of_tree (by kernel_rfl)
theorem jH:plainId "dict.update.loop"=true:=by decide +kernel
section
variable {prog:Program} {w:World} {A:Around} {R:Result->Shared->Prop} {I d:Addr} {fp wr:List Addr} {n:Nat} {P:Nat->Value->Prop} {St:Nat->Heap->Prop} {K:Type} [DecidableEq K] {knd:KeyKind prog w K}
theorem Ip (kx:List (K×Value)):(merged [] kx).length<=kx.length:=by
 have:=merged_length_le [] kx
 simpa using this
theorem Fx (I d:Addr) (i:Int) (t:Tok):MeetsIn prog w (Builtin.«dict.update.loop» ⟨[.ref d,.ref I,.int i t,.none],[]⟩) fun A R s=>wpAny (model prog w) A.in1 (pyNext (.ref I)) (fun r s=>match r with
  | none=>R (.ok (.ret .none)) s
  | some v=>∃ a o k x c,v=.ref a/\s.heap.get? a=some o/\o.cls=.type "tuple"/\o.data=.seq #[k,x] c /\
   wpAny (model prog w) A.in1 (dictSet d k x) (fun _ s=>codeAny (model prog w) A (.builtin "dict.update.loop" ⟨[.ref d,.ref I,.int (i + 1) 0,.none],[]⟩) R s) (fun _ _=>False) s) (fun _ _=>False) s:=by
 intro A R s nx
 show wpAny _ _ (pyNext (.ref I) >>= _) _ _ s
 apply wpAny_bind
 refine wpAny_mono nx (fun r s1 h=>?_) fun _ _ z=>z.elim
 rcases r with _ | v
 ·wp_walk
  exact h
 ·obtain ⟨a,o,k,x,c,rfl,ha,hc,hd,q⟩:=h
  have ty:s1.TypeIs (.ref a) "tuple":=⟨o,ha,hc⟩
  apply wpAny_bind
  apply wpAny_holding
  apply wpAny_bind
  apply wpAny_tryCatch
  wp_walk using wpAny_seqItems ha hd,wpAny_mono q
  ·exact fun _ _ e=>wpAny_pure ⟨plainId_quiet jH _,e⟩
  ·exact fun _ _ z=>z.elim
theorem Od {D:Nat->Heap->Prop} (W:Walks prog w A.in1 I fp wr n P St) (nd:d∉fp) (calm:∀ i h h',D i h->(∀ b o,b∉wr->h.get? b=some o->h'.get? b=some o)->D i h')
  (turn:∀ i v s,P i v->D i s.heap->∃ a o k x c,v=.ref a/\s.heap.get? a=some o/\o.cls=.type "tuple"/\o.data=.seq #[k,x] c /\
   ∀ Q:Unit->Shared->Prop,(∀ h,D (i + 1) h->(∀ b,b≠d->h.get? b=s.heap.get? b)->∀ tk,Q () { s with heap:=h,toks:=tk })->wpAny (model prog w) A.in1 (dictSet d k x) Q (fun _ _=>False) s) :
  ∀ (k i:Nat) (s:Shared) (t:Tok),n=i + k->St i s.heap->D i s.heap->(∀ h tk,D n h->R (.ok (.ret .none)) { s with heap:=h,toks:=tk }) ->
   codeAny (model prog w) A (.builtin "dict.update.loop" ⟨[.ref d,.ref I,.int i t,.none],[]⟩) R s:=by
 intro k
 induction k with
 | zero =>
  intro i s t e st di fin
  obtain rfl:n=i:=e
  exact enter qz jH (Fx I d _ t) (W.done s _ _ st fun h tk q=>fin h tk (calm _ _ _ di q))
 | succ k ih =>
  intro i s t e st di fin
  refine enter qz jH (Fx I d _ t) (W.item i s _ _ (by omega) st fun v h tk pv st1 q=>?_)
  obtain ⟨a,o,y,x,c,e1,e2,e3,e4,set⟩:=turn i v { s with heap:=h,toks:=tk } pv (calm _ _ _ di q)
  refine ⟨a,o,y,x,c,e1,e2,e3,e4,set _ fun h2 d2 sb tk=>?_⟩
  exact ih (i + 1) { s with heap:=h2,toks:=tk } 0 (by omega) (W.frame _ _ _ st1 fun b hb o e=>(sb b fun z=>nd (z ▸ hb)).trans e) d2 fin
theorem Ng (W:Walks prog w A.in1 I fp wr n P St) (nd:d∉fp) (h₀:Heap) (kx:List (K×Value)) (hn:kx.length=n) (hz:n<=sizeLine)
  (hP:∀ i v,P i v->∃ a key k x o c,v=.ref a/\kx[i]?=some (k,x)/\knd.is k key=true/\h₀.get? a=some o/\o.cls=.type "tuple"/\o.data=.seq #[key,x] c/\a≠d/\a∉wr) :
  ∀ (k i:Nat) (s:Shared) (t:Tok),n=i + k->St i s.heap->(∀ b o,b∉wr->b≠d->h₀.get? b=some o->s.heap.get? b=some o)->s.heap.DictOf knd d (merged [] (kx.take i)) ->
  (∀ h' tk,(∀ b o,b∉wr->b≠d->h₀.get? b=some o->h'.get? b=some o)->h'.DictOf knd d (merged [] kx)->R (.ok (.ret .none)) { s with heap:=h',toks:=tk }) ->
  codeAny (model prog w) A (.builtin "dict.update.loop" ⟨[.ref d,.ref I,.int i t,.none],[]⟩) R s:=by
 have nw:d∉wr:=fun z=>nd (W.sub _ z)
 intro k i s t en st kp dd fin
 refine Od (D:=fun i h=>(∀ b o,b∉wr->b≠d->h₀.get? b=some o->h.get? b=some o)/\h.DictOf knd d (merged [] (kx.take i))) W nd ?_ ?_ k i s t en st ⟨kp,dd⟩ fun h tk q=>fin h tk q.1 ?_
 ·rintro i h h' ⟨kp,od,es,ep,ho,r⟩ q
  exact ⟨fun b o nb nb' e=>q b o nb (kp b o nb nb' e),od,es,ep,q d od nw ho,r⟩
 ·rintro i v s pv ⟨kp,dd⟩
  obtain ⟨a,key,k,x,o,c,rfl,hx,hk,ha,hc,hd,na,naw⟩:=hP i v pv
  refine ⟨a,o,key,x,c,rfl,kp a o naw na ha,hc,hd,fun Q q=>wpAny_dictSet_pairs hk dd (fun h2 d2 sb=>q h2 ⟨fun b o nb nb' e=>(sb.2 b nb').trans (kp b o nb nb' e),?_⟩ sb.2 _) (Nat.le_trans (Ip _) (by rw [List.length_take]; omega))⟩
  rw [merged_take_succ [] kx i (k,x) hx]
  exact d2
 ·have z:=q.2
  rwa [← hn,List.take_length] at z
end
section
variable {prog:Program} {w:World} {A:Around} {E:Value->Shared->Prop} {s:Shared} {K:Type} [DecidableEq K] {knd:KeyKind prog w K}
abbrev newD (h:Heap):Heap:=h.push { cls:=.type "dict",data:=.dict #[] }
theorem yR {T:String} {l:Addr} {Q:Value->Shared->Prop} (ty:Shared.TypeIs { s with heap:=newD s.heap } (.ref l) T) (nT:(Value.type T != .type "dict")=true)
  (h:wpAny (model prog w) A.in1.in1 (getAttr? (.ref l) (Str.ofString "keys")) (fun r s1=>r=none/\wpAny (model prog w) A.in1.in1 (pyIter (.ref l))
   (fun it s2=>codeAny (model prog w) A.in1 (.builtin "dict.update.loop" ⟨[.ref s.heap.objs.size,it,.int 0 0,.none],[]⟩) (wants (fun r s3=>r=.none/\Q (.ref s.heap.objs.size) s3) E) s2) E s1) E { s with heap:=newD s.heap }) :
  wpAny (model prog w) A (call (.type "dict") [.ref l]) Q E s:=by
 apply callType_codes F.kt_called_dict (F.kt_typeCall_dict_1 _) F.entry_dict_init (kt_code_dict_new (Q₁:=fun v s1=>v=.ref s.heap.objs.size/\s1={ s with heap:=newD s.heap }) _ ⟨rfl,rfl⟩)
 rintro _ _ ⟨rfl,rfl⟩
 have td:Shared.TypeIs { s with heap:=newD s.heap } (.ref s.heap.objs.size) "dict":=⟨_,Heap.get?_push_size _ rfl,rfl⟩
 refine ⟨td,F.args_dict_init_2 _ _,?_⟩
 show wpAny _ _ (Builtin.Dict.selfAndRest _ _ >>= _) _ _ _
 wp_walk using wpAny_notOrdered_dict td,wpAny_ite_true nT,wpAny_mono h
 ·rintro _ s1 ⟨rfl,q⟩
  wp_walk using wpAny_mono q
  ·exact fun _ _ e=>wpAny_pure ⟨plainId_quiet jH _,e⟩
  ·exact fun _ _ e=>e
 ·exact fun _ _ e=>e
theorem DG {l:Addr} {vs:List Value} {n:Nat} {kx:List (K×Value)} {Q:Value->Shared->Prop} (hA:A.handled=none)
  (hl:s.heap.get? l=some { cls:=.type "list",dict:=none,data:=.seq vs.toArray n,slots:=#[] }) (hz:vs.length<=sizeLine) (hlen:kx.length=vs.length)
  (hP:∀ (i:Nat) v,vs[i]?=some v->∃ a key k x o c,v=.ref a/\kx[i]?=some (k,x)/\knd.is k key=true/\s.heap.get? a=some o/\o.cls=.type "tuple"/\o.data=.seq #[key,x] c)
  (h:∀ h' tk,(∀ b o,s.heap.get? b=some o->h'.get? b=some o)->h'.DictOf knd s.heap.objs.size (merged [] kx)->Q (.ref s.heap.objs.size) { s with heap:=h',toks:=tk }) :
  wpAny (model prog w) A (call (.type "dict") [.ref l]) Q E s:=by
 have hl':(newD s.heap).get? l=some { cls:=.type "list",dict:=none,data:=.seq vs.toArray n,slots:=#[] }:=Heap.get?_push_of_some _ hl
 refine yR (T:="list") ⟨_,hl',rfl⟩ (by decide) (Js hA hl' fun h1 tk1 k1=>⟨rfl,?_⟩)
 have hl1:=k1 l _ hl'
 have lt1:l < h1.objs.size:=Heap.lt_size hl1
 have ld:l < s.heap.objs.size:=Heap.lt_size hl
 have il:h1.IsList l vs.toArray:=⟨_,hl1,rfl,n,rfl⟩
 have d1:h1.DictOf knd s.heap.objs.size []:=by
  obtain ⟨od,es,ep,ho,r⟩:=Heap.DictOf.new (knd:=knd) s.heap
  exact ⟨od,es,ep,k1 _ _ ho,r⟩
 have dlt:s.heap.objs.size < h1.objs.size:=by
  obtain ⟨od,es,ep,ho,r⟩:=d1
  exact Heap.lt_size ho
 have hI:∀ {b:Addr},b < h1.objs.size->b≠h1.objs.size:=fun z=>Nat.ne_of_lt z
 refine wpAny_pyIter_list (s:={ s with heap:=h1,toks:=tk1 }) il ?_
 have W:=Walks.list (prog:=prog) (w:=w) (A:=A.in1.in1) hA h1.objs.size l (hI lt1) vs.toArray
 refine Ng (A:=A.in1) (knd:=knd) W (d:=s.heap.objs.size) ?_ s.heap kx (by rw [hlen,List.size_toArray]) (by rw [List.size_toArray]; exact hz) (fun i v hv=>?_) vs.toArray.size 0 _ 0 (by omega)
  ⟨⟨_,Heap.get?_push_size _ rfl,rfl,rfl⟩,il.push _⟩ (fun b o _ nb e=>Heap.get?_push_of_some _ (k1 b o (Heap.get?_push_of_some _ e))) ?_ fun h2 tk2 k2 d2=>?_
 ·intro z
  have z':s.heap.objs.size=h1.objs.size∨s.heap.objs.size=l:=by simpa using z
  rcases z' with z' | z'
  ·exact absurd dlt (by rw [z']; exact Nat.lt_irrefl _)
  ·exact absurd ld (by rw [z']; exact Nat.lt_irrefl _)
 ·obtain ⟨a,key,k,x,o,c,e1,e2,e3,e4,e5,e6⟩:=hP i v (by simpa using hv)
  refine ⟨a,key,k,x,o,c,e1,e2,e3,e4,e5,e6,Nat.ne_of_lt (Heap.lt_size e4),fun z=>?_⟩
  have z':a=h1.objs.size:=by simpa using z
  exact absurd (Nat.lt_trans (Heap.lt_size e4) dlt) (by rw [z']; exact Nat.lt_irrefl _)
 ·exact d1.push _
 ·exact ⟨rfl,h h2 tk2 (fun b o e=>k2 b o (fun z=>by
   have z':b=h1.objs.size:=by simpa using z
   exact absurd (Nat.lt_trans (Heap.lt_size e) dlt) (by rw [z']; exact Nat.lt_irrefl _)) (Nat.ne_of_lt (Heap.lt_size e)) e) d2⟩
end
end GX
namespace GX
open PySem PyProof.Rows
section
variable {prog:Program} {w:World} {A:Around} {E:Value->Shared->Prop} {s:Shared}
theorem vM {x:Value} {kw:List (Str×Value)} {Q:Value->Shared->Prop} (ok:argsOk "sorted" ⟨[x],kw⟩)
  (h:wpAny (model prog w) A.in1 (collect x) (fun vs s1=>wpAny (model prog w) A.in1 (newList vs >>= fun l=>holding [l] (call (.builtin "list.sort") [l] kw) >>= fun _=>ret l) (fun f s2=>∃ v,f=.done (.ret v)/\Q v s2) E s1) E s) :
  wpAny (model prog w) A (call (.builtin "sorted") [x] kw) Q E s :=
 call_function_entry_kw kind_sorted plain_sorted entry_sorted ok (wpAny_bind (m:=checkCount _ _ _ _) (wpAny_pure (wpAny_bind (wpAny_mono h (fun _ _ q=>q) fun _ _ e=>e))))
end
end GX
namespace L2
open PySem PySem.Spec PyProof.Rows
def dI (m:List (Int×Int)):List (Key×V):=m.map fun p=>(Sum.inl p.1,V.int p.2)
theorem Dr (m:List (Int×Int)):(dI m).length=m.length:=List.length_map ..
def lkI:List (Int×Int)->Int->Option Int
 | [],_=>none
 | p :: m,k=>if p.1=k then some p.2 else lkI m k
theorem Bt:∀ (m:List (Int×Int)) (k:Int),fZ (dI m) (Sum.inl k:Key)=(lkI m k).map V.int
 | [],_=>rfl
 | p :: m,k=>by
  show fZ ((Sum.inl p.1,V.int p.2) :: dI m) (Sum.inl k)=_
  unfold lkI
  by_cases e:p.1=k
  ·rw [if_pos e,eV (by rw [e])]
   rfl
  ·rw [if_neg e,eQ (fun z=>e (Sum.inl.inj z)),Bt m k]
def eY:List (Int×Int)->Int->Int->List (Int×Int)
 | [],k,v=>[(k,v)]
 | p :: m,k,v=>if p.1=k then (p.1,v) :: m else p :: eY m k v
theorem Ht:∀ (m:List (Int×Int)) (k v j:Int),lkI (eY m k v) j=if j=k then some v else lkI m j
 | [],k,v,j=>by
  show (if k=j then some v else none)=_
  by_cases e:j=k
  ·rw [if_pos e,if_pos e.symm]
  ·rw [if_neg e,if_neg (fun z=>e z.symm)]
   rfl
 | p :: m,k,v,j=>by
  show lkI (if p.1=k then (p.1,v) :: m else p :: eY m k v) j=if j=k then some v else (if p.1=j then some p.2 else lkI m j)
  by_cases e:p.1=k
  ·rw [if_pos e]
   show (if p.1=j then some v else lkI m j)=_
   by_cases e2:j=k
   ·rw [if_pos e2,if_pos (e.trans e2.symm)]
   ·rw [if_neg e2,if_neg (fun z=>e2 (z.symm.trans e)),if_neg (fun z=>e2 (z.symm.trans e))]
  ·rw [if_neg e]
   show (if p.1=j then some p.2 else lkI (eY m k v) j)=_
   rw [Ht m k v j]
   by_cases e2:j=k
   ·rw [if_pos e2,if_neg (fun z=>e (z.trans e2)),if_pos e2]
   ·rw [if_neg e2,if_neg e2]
theorem Fb:∀ (m:List (Int×Int)) (k v x:Int),x∈(eY m k v).map (·.1)↔x=k∨x∈m.map (·.1)
 | [],k,v,x=>by simp [eY]
 | p :: m,k,v,x=>by
  show x∈(if p.1=k then (p.1,v) :: m else p :: eY m k v).map (·.1)↔_
  by_cases e:p.1=k
  ·rw [if_pos e]
   simp only [List.map_cons,List.mem_cons]
   constructor
   ·exact fun h=>.inr h
   ·rintro (h | h)
    ·exact .inl (h.trans e.symm)
    ·exact h
  ·rw [if_neg e]
   simp only [List.map_cons,List.mem_cons]
   have:=Fb m k v x
   constructor
   ·rintro (h | h)
    ·exact .inr (.inl h)
    ·rcases this.mp h with h | h
     ·exact .inl h
     ·exact .inr (.inr h)
   ·rintro (h | h | h)
    ·exact .inr (this.mpr (.inl h))
    ·exact .inl h
    ·exact .inr (this.mpr (.inr h))
theorem N6:∀ (m:List (Int×Int)) (k v:Int),(m.map (·.1)).Nodup->((eY m k v).map (·.1)).Nodup
 | [],k,v,_=>by simp [eY]
 | p :: m,k,v,h=>by
  show ((if p.1=k then (p.1,v) :: m else p :: eY m k v).map (·.1)).Nodup
  rw [List.map_cons,List.nodup_cons] at h
  by_cases e:p.1=k
  ·rw [if_pos e,List.map_cons,List.nodup_cons]
   exact h
  ·rw [if_neg e,List.map_cons,List.nodup_cons]
   refine ⟨fun z=>?_,N6 m k v h.2⟩
   rcases (Fb m k v p.1).mp z with z | z
   ·exact e z
   ·exact h.1 z
theorem vd:∀ (m:List (Int×Int)) (k v:Int) (p:Int×Int),p∈eY m k v->p=(k,v)∨p∈m
 | [],k,v,p,h=>.inl (by simpa [eY] using h)
 | q :: m,k,v,p,h=>by
  have h':p∈(if q.1=k then (q.1,v) :: m else q :: eY m k v):=h
  by_cases e:q.1=k
  ·rw [if_pos e] at h'
   rcases List.mem_cons.mp h' with z | z
   ·exact .inl (by rw [z,e])
   ·exact .inr (List.mem_cons_of_mem _ z)
  ·rw [if_neg e] at h'
   rcases List.mem_cons.mp h' with z | z
   ·exact .inr (by rw [z]; exact List.mem_cons_self)
   ·rcases vd m k v p z with z | z
    ·exact .inl z
    ·exact .inr (List.mem_cons_of_mem _ z)
theorem Pg (k:Int):∀ m:List (Int×Int),((dI m).any fun kv=>decide (kv.1=(Sum.inl k:Key)))=m.any fun p=>decide (p.1=k)
 | []=>rfl
 | p :: m=>by
  show (decide ((Sum.inl p.1:Key)=Sum.inl k) || (dI m).any _)=(decide (p.1=k) || m.any _)
  rw [Pg k m]
  congr 1
  rw [decide_eq_decide]
  exact ⟨fun h=>Sum.inl.inj h,fun h=>congrArg _ h⟩
theorem put_new:∀ (m:List (Int×Int)) (k v:Int),(m.any fun p=>decide (p.1=k))=false->eY m k v=m ++ [(k,v)]
 | [],_,_,_=>rfl
 | p :: m,k,v,h=>by
  rw [List.any_cons,Bool.or_eq_false_iff] at h
  show (if p.1=k then (p.1,v) :: m else p :: eY m k v)=_
  rw [if_neg (of_decide_eq_false h.1),put_new m k v h.2]
  rfl
theorem put_old:∀ (m:List (Int×Int)) (k v:Int),(m.map (·.1)).Nodup->(m.any fun p=>decide (p.1=k))=true->eY m k v=m.map fun p=>if p.1=k then (p.1,v) else p
 | [],_,_,_,h=>by cases h
 | p :: m,k,v,nd,h=>by
  rw [List.map_cons,List.nodup_cons] at nd
  show (if p.1=k then (p.1,v) :: m else p :: eY m k v)=(if p.1=k then (p.1,v) else p) :: m.map _
  by_cases e:p.1=k
  ·rw [if_pos e,if_pos e]
   congr 1
   have:m.map (fun p=>if p.1=k then (p.1,v) else p)=m.map id:=List.map_congr_left fun q hq=>by
    rw [if_neg (fun z=>nd.1 (by rw [e,← z]; exact List.mem_map_of_mem hq))]
    rfl
   rw [this,List.map_id]
  ·rw [if_neg e,if_neg e,put_old m k v nd.2 (by
    rw [List.any_cons,decide_eq_false e,Bool.false_or] at h
    exact h)]
theorem Ph (m:List (Int×Int)) (k v:Int) (nd:(m.map (·.1)).Nodup):putK (dI m) (Sum.inl k:Key) (V.int v)=dI (eY m k v):=by
 unfold putK
 rw [Pg]
 cases e:m.any fun p=>decide (p.1=k) with
 | false =>
  rw [put_new m k v e]
  unfold dI
  rw [List.map_append]
  rfl
 | true =>
  rw [put_old m k v nd e]
  unfold dI
  rw [List.map_map,if_pos rfl,List.map_map]
  apply List.map_congr_left
  intro p _
  show (if (Sum.inl p.1:Key)=Sum.inl k then ((Sum.inl p.1:Key),V.int v) else (Sum.inl p.1,V.int p.2))=((Sum.inl (if p.1=k then (p.1,v) else p).1:Key),V.int (if p.1=k then (p.1,v) else p).2)
  by_cases z:p.1=k
  ·rw [if_pos (congrArg _ z),if_pos z]
  ·rw [if_neg (fun q=>z (Sum.inl.inj q)),if_neg z]
theorem HY:∀ {m:List (Int×Int)} {k v:Int},lkI m k=some v->(k,v)∈m
 | [],_,_,h=>by cases h
 | p :: m,k,v,h=>by
  have h':(if p.1=k then some p.2 else lkI m k)=some v:=h
  by_cases e:p.1=k
  ·rw [if_pos e] at h'
   have:p=(k,v):=by rw [← e,← Option.some.inj h']
   rw [this]
   exact List.mem_cons_self
  ·rw [if_neg e] at h'
   exact List.mem_cons_of_mem _ (HY h')
theorem Tj:∀ {m:List (Int×Int)} {k v:Int},(m.map (·.1)).Nodup->(k,v)∈m->lkI m k=some v
 | [],_,_,_,h=>by cases h
 | p :: m,k,v,nd,h=>by
  rw [List.map_cons,List.nodup_cons] at nd
  show (if p.1=k then some p.2 else lkI m k)=some v
  rcases List.mem_cons.mp h with z | z
  ·rw [← z,if_pos rfl]
  ·rw [if_neg (fun e=>nd.1 (by rw [e]; exact List.mem_map_of_mem (f:=(·.1)) z)),Tj nd.2 z]
theorem R8 {m:List (Int×Int)} {k:Int} (h:k∉m.map (·.1)):lkI m k=none:=by
 cases e:lkI m k with
 | none=>rfl
 | some v=>exact absurd (List.mem_map_of_mem (f:=(·.1)) (HY e)) h
theorem QF {m:List (Int×Int)} {k:Int} (h:k∈m.map (·.1)):∃ v,lkI m k=some v:=by
 cases e:lkI m k with
 | some v=>exact ⟨v,rfl⟩
 | none =>
  exfalso
  induction m with
  | nil=>cases h
  | cons p m ih =>
   have e':(if p.1=k then some p.2 else lkI m k)=none:=e
   by_cases z:p.1=k
   ·rw [if_pos z] at e'; cases e'
   ·rw [if_neg z] at e'
    rw [List.map_cons] at h
    rcases List.mem_cons.mp h with q | q
    ·exact z q.symm
    ·exact ih q e'
def ct (m:List (Int×Int)) (k:Int):Int:=(lkI m k).getD 0
section
variable {X:Cx}
theorem vA {P:Program} {w:World}:∀ {m:List (Int×Int)} {vs:List (Key×Value)} {us:List Value},KV (dI m) vs->us.length=vs.length->(∀ (j:Nat) v,us[j]?=some v->∃ k x,vs[j]?=some (k,x)/\(bI P w).is k v=true)->IntsAre us (m.map (·.1))
 | [],_,us,r,hl,h=>by
  have r':KV [] _:=r
  cases r'
  cases us with
  | nil=>exact .nil
  | cons _ _=>cases hl
 | p :: m,vs,us,r,hl,h=>by
  have r':KV ((Sum.inl p.1,V.int p.2) :: dI m) vs:=r
  cases r' with
  | cons r1 r2 =>
   rename_i q qs
   cases us with
   | nil=>cases hl
   | cons u us =>
    obtain ⟨k,x,e1,e2⟩:=h 0 u rfl
    have e1':q=(k,x):=Option.some.inj e1
    subst e1'
    have ek:(Sum.inl p.1:Key)=k:=r1.1
    subst ek
    rcases cM (show zx (Sum.inl p.1) u=true from e2) with ⟨i,t,z1,z2⟩ | ⟨_,_,z,_⟩
    ·have z1':p.1=i:=Sum.inl.inj z1
     rw [z2,← z1']
     exact .cons _ t (vA (P:=P) (w:=w) r2 (Nat.succ.inj hl) fun j v e=>h (j + 1) v e)
    ·cases z
theorem Ba {A:Around} {E:Value->Shared->Prop} {prog:Program} {w:World} {s:Shared} {vs:List Value} {ns:List Int} {Q:Value->Shared->Prop} (hi:IntsAre vs ns) (h64:vs.length < 64) (hz:vs.length<=sizeLine)
  (h:∀ h' out ns' e,(∀ b o,s.heap.get? b=some o->h'.get? b=some o)->h'.get? s.heap.objs.size=some (seqObj "list" out e)->IntsAre out.toList ns'->ns'.Perm ns->ns'.Pairwise (·<=·)->Q (.ref s.heap.objs.size) { s with heap:=h' }) :
  wpAny (model prog w) A (do let l ← newList vs; let _ ← holding [l] (call (.builtin "list.sort") [l] []); ret l) (fun fin s'=>∃ v,fin=.done (.ret v)/\Q v s') E s:=by
 refine wpAny_bind (wpAny_newList ?_ hz)
 have ho:(s.heap.push (seqObj "list" vs.toArray 0)).get? s.heap.objs.size=some (seqObj "list" vs.toArray 0):=Heap.get?_push_size _ rfl
 refine wpAny_bind (wpAny_holding (wpAny_call_entry slot_list_sort ⟨_,ho,rfl⟩ entry_list_sort (list_sort_tree ho hi h64 fun out ns' a1 a2 a3=>⟨_,rfl,?_⟩) (args_list_sort _)))
 obtain ⟨e,he⟩:=sortedHeap_at (out:=out) ho
 refine wpAny_pure ⟨_,rfl,h _ out ns' e (fun b o q=>?_) he a1 a2 a3⟩
 have l:=Heap.lt_size q
 rw [sortedHeap_old (Nat.ne_of_lt l) (by rw [size_push']; exact Nat.lt_succ_of_lt l)]
 exact Heap.get?_push_of_some _ q
theorem Inv.lay_ints {pins:List (Addr×Obj)} {σ:St} {H:Hp} {s:Shared} {h':Heap} {out:Array Value} {ns:List Int} {e tk:Nat} (I:Inv X pins σ H s) (k:∀ b o,s.heap.get? b=some o->h'.get? b=some o) (he:h'.get? s.heap.objs.size=some (seqObj "list" out e)) (hi:IntsAre out.toList ns) (hz:ns.length<=sizeLine) :
  Inv X pins σ (upd H s.heap.objs.size (.lst (ns.map V.int))) { s with heap:=h',toks:=tk } :=
 I.laid k (Nat.le_refl _) ⟨by rw [List.length_map]; exact hz,out.toList,e,sH hi,he⟩
theorem u6 (hc:X.calm=true):gC X (.builtin "sorted") (fun xs H Q=>∃ (d:Addr) (m:List (Int×Int)),xs=[.ref d]/\Rd H d (.dK (dI m))/\m.length < 64/\∀ (l:Addr) (ns:List Int),H l=none->ns.Perm (m.map (·.1))->ns.Pairwise (·<=·)->Q (.ref l) (upd H l (.lst (ns.map V.int)))):=by
 intro pins s σ H xs us Q I r h
 obtain ⟨d,m,rfl,hd,hlen,q⟩:=h
 obtain ⟨u,rfl,rx⟩:=vals1 r
 cases rx
 obtain ⟨z,hS,vs,rel,dd⟩:=uG I.hok hd
 obtain ⟨ep,hat⟩:=dd.dictAt
 have hl:vs.length=m.length:=by rw [← rel.length,Dr]
 refine GX.vM (args_sorted1 _) (PySem.W.kdu_collect (A:=X.A.in1) (PySem.W.kdl_dict (knd:=bI X.prog X.w) (kvs:=vs) (ep:=ep) hS) (I.ok.hd hc) hat (by rw [hl]; exact Nat.le_of_lt (aJ (by omega))) fun h' tk acc hk hacc=>?_)
 have hi:IntsAre acc.toList (m.map (·.1)):=vA (P:=X.prog) (w:=X.w) rel (by rw [Array.length_toList]; exact hacc.1) fun j v e=>hacc.2 j v (by rw [← Array.getElem?_toList]; exact e)
 have ha:acc.toList.length=m.length:=by rw [hi.length,List.length_map]
 have I1:Inv X pins σ H { s with heap:=h',toks:=tk }:=I.kept hk
 refine Ba hi (by rw [ha]; exact hlen) (by rw [ha]; exact Nat.le_of_lt (aJ (by omega))) fun h2 out ns' e k2 he a1 a2 a3=>?_
 have ln:ns'.length<=sizeLine:=by rw [a2.length_eq,List.length_map]; exact Nat.le_of_lt (aJ (by omega))
 exact ⟨.ref h'.objs.size,_,I1.lay_ints (tk:=tk) k2 he a1 ln,rfl,q _ ns' (I1.hok.fresh (Nat.le_refl _)) a2 a3⟩
def Pr (H:Hp) (x:V) (p:Int×Int):Prop:=∃ a,x=.ref a/\H a=some (.tup [.int p.1,.int p.2])
abbrev Prs (H:Hp):List V->List (Int×Int)->Prop:=Paired (Pr H)
theorem Prs.mono {H H':Hp} (h:∀ a xs,H a=some (.tup xs)->H' a=some (.tup xs)) {xs:List V} {ps:List (Int×Int)} (r:Prs H xs ps):Prs H' xs ps:=Paired.mapP r fun _ _ ⟨a,e1,e2⟩=>⟨a,e1,h a _ e2⟩
theorem Prs.snoc {H:Hp} {x:V} {p:Int×Int}:∀ {xs:List V} {ps:List (Int×Int)},Prs H xs ps->Pr H x p->Prs H (xs ++ [x]) (ps ++ [p])
 | _,_,.nil,h=>.cons h .nil
 | _,_,.cons r t,h=>.cons r (Prs.snoc t h)
theorem Prs.get {H:Hp}:∀ {xs:List V} {ps:List (Int×Int)} {i:Nat} {x:V},Prs H xs ps->xs[i]?=some x->∃ p,ps[i]?=some p/\Pr H x p
 | _,_,_,_,.nil,e=>by simp at e
 | _,_,0,_,.cons r _,e=>by simp at e; subst e; exact ⟨_,rfl,r⟩
 | _,_,i + 1,x,.cons _ t,e=>by
  obtain ⟨p,h1,h2⟩:=Prs.get (i:=i) (x:=x) t (by simpa using e)
  exact ⟨p,by simpa using h1,h2⟩
theorem Prs.len {H:Hp} {xs:List V} {ps:List (Int×Int)} (r:Prs H xs ps):xs.length=ps.length:=Paired.length r
end
end L2
namespace L2
open PySem PySem.Spec PyProof.Rows
section
variable {X:Cx}
theorem Gw:∀ (ps acc:List (Int×Int)),((acc ++ ps).map (·.1)).Nodup->Iv (dI acc) (dI ps)=dI (acc ++ ps)
 | [],acc,_=>by rw [List.append_nil]; rfl
 | p :: ps,acc,h=>by
  show Iv (putK (dI acc) (Sum.inl p.1) (V.int p.2)) (dI ps)=_
  have h1:(acc.map (·.1)).Nodup:=by
   rw [List.map_append] at h
   exact (List.nodup_append.mp h).1
  have h2:(acc.any fun q=>decide (q.1=p.1))=false:=by
   rw [List.any_eq_false]
   intro q hq z
   have z':=of_decide_eq_true z
   rw [List.map_append,List.map_cons] at h
   exact (List.nodup_append.mp h).2.2 q.1 (List.mem_map_of_mem (f:=(·.1)) hq) p.1 List.mem_cons_self z'
  rw [Ph acc p.1 p.2 h1,put_new acc p.1 p.2 h2,Gw ps (acc ++ [(p.1,p.2)]) (by rw [List.append_assoc]; exact h),List.append_assoc]
  rfl
theorem FP {pins:List (Addr×Obj)} {σ:St} {H:Hp} {s:Shared} (I:Inv X pins σ H s):∀ {xs:List V} {us:List Value} {ps:List (Int×Int)},Prs H xs ps->Vals xs us ->
  ∃ kx:List (Key×Value),KV (dI ps) kx/\kx.length=us.length/\∀ (i:Nat) v,us[i]?=some v->∃ a key k x o c,v=.ref a/\kx[i]?=some (k,x)/\(bI X.prog X.w).is k key=true/\s.heap.get? a=some o/\o.cls=.type "tuple"/\o.data=.seq #[key,x] c
 | _,_,_,.nil,.nil=>⟨[],.nil,rfl,fun i v e=>by simp at e⟩
 | x :: xs,u :: us,p :: ps,.cons h t,.cons r q=>by
  obtain ⟨kx,k1,k2,k3⟩:=FP I t q
  obtain ⟨a,rfl,ha⟩:=h
  obtain rfl:u=Value.ref a:=r
  obtain ⟨_,its,rv,o,ho,hc,n,hd,_⟩:[V.int p.1,V.int p.2].length<=sizeLine/\∃ its:List Value,Vals [V.int p.1,V.int p.2] its/\IsTpl s.heap a its.toArray:=I.hok a _ ha
  obtain ⟨u1,u2,rfl,r1,r2⟩:=vals2 rv
  obtain ⟨t1,rfl⟩:=r1
  refine ⟨(Sum.inl p.1,u2) :: kx,.cons ⟨rfl,r2⟩ k1,congrArg (· + 1) k2,fun i v e=>?_⟩
  cases i with
  | zero =>
   have e':Value.ref a=v:=Option.some.inj e
   subst e'
   exact ⟨a,_,_,u2,o,n,rfl,rfl,qp X.prog X.w p.1 t1,ho,hc,hd⟩
  | succ i=>exact k3 i v e
theorem G6 (hc:X.calm=true):gC X (.type "dict") (fun xs H Q=>∃ (a:Addr) (ys:List V) (ps:List (Int×Int)),xs=[.ref a]/\H a=some (.lst ys)/\Prs H ys ps/\(ps.map (·.1)).Nodup/\ps.length<=1000/\∀ p,H p=none->Q (.ref p) (upd H p (.dK (dI ps)))):=by
 intro pins s σ H xs us Q I r h
 obtain ⟨a,ys,ps,rfl,ha,hp,nd,hl,q⟩:=h
 obtain ⟨u,rfl,rx⟩:=vals1 r
 cases rx
 obtain ⟨z,its,n,rv,hlen,e⟩:=I.lstM ha
 obtain ⟨kx,k1,k2,k3⟩:=FP I hp rv
 refine GX.DG (knd:=bI X.prog X.w) (I.ok.hd hc) e (by rw [← hlen]; exact z) k2 k3 fun h' tk kp dd=>?_
 have rel:KV (dI ps) (merged [] kx):=by
  have:=KV.merge k1 (show KV (dI []) [] from .nil)
  rw [Gw ps [] (by simpa using nd)] at this
  exact this
 refine ⟨.ref s.heap.objs.size,_,I.laid (t':=tk) kp (Nat.le_refl _) (Jg ?_ (beq_eq_false_iff_ne.mpr (Ne.symm (Nat.ne_of_lt I.big))) rel dd),rfl,q _ (I.hok.fresh (Nat.le_refl _))⟩
 rw [Dr]
 exact Nat.le_of_lt (aJ hl)
def Wr (K:PySem.W.Frag) (tl:TE):TI:=fun σ H R=>tl σ H fun x H1=>∃ a,x=.ref a/\(((∃ xs,SqL K H1 a xs)/\R (Itl K a) H1)∨((∃ xs,SqT K H1 a xs)/\R (Itt K a) H1))
theorem VF {tg l:Expr} {tl:TE} (hl:PE X l tl):PI X tg l (Wr X.K tl):=by
 intro pins s σ H R I h
 refine thn (hl pins s σ H _ I h) fun v s1 ⟨x,H1,I1,r1,q1⟩=>?_
 obtain ⟨a,e,q1⟩:=q1
 subst e
 cases r1
 have fp:∀ b∈[s1.heap.objs.size],vL X pins H1 b:=fun b hb=>by
  have e:b=s1.heap.objs.size:=by simpa using hb
  subst e
  exact I1.fpOk (Nat.le_refl _) (I1.hok.fresh (Nat.le_refl _))
 rcases q1 with ⟨⟨xs,hq⟩,q⟩ | ⟨⟨xs,hq⟩,q⟩
 ·obtain ⟨its,rv,p,hz⟩:=I1.list hq
  refine wpAny_pyIter_list p.isList ?_
  exact ⟨s1.heap.objs.size,[s1.heap.objs.size],_,_,H1,rfl,I1.kept (t':=s1.toks) fun b o e=>Heap.get?_push_of_some _ e,Ai a _,⟨_,Heap.get?_push_size _ rfl,rfl,rfl⟩,fp,q⟩
 ·obtain ⟨its,rv,p,hz⟩:=I1.tuple hq
  refine wpAny_pyIter_tuple (show s1.heap.IsTuple a its.toArray from p) ?_
  exact ⟨s1.heap.objs.size,[s1.heap.objs.size],_,_,H1,rfl,I1.kept (t':=s1.toks) fun b o e=>Heap.get?_push_of_some _ e,yP a _,⟨_,Heap.get?_push_size _ rfl,rfl,rfl⟩,fp,q⟩
end
theorem Mg {K:PySem.W.Frag} {a:Addr} {xs:List V} {g:TG} {tt:TT} {te:TE} {σ:St} {H:Hp} {D:Addr} {Qe:Hp->Prop} (Pv:Nat->St->Hp->Prop) (h0:Pv 0 σ H) (hl:∀ i σ H,i<=xs.length->Pv i σ H->SqT K H a xs)
  (hs:∀ i x σ H,xs[i]?=some x->Pv i σ H->nD g tt te D (Pv (i + 1)) x σ H) (hd:∀ σ H,Pv xs.length σ H->Qe H) :
  ∃ W:Nat->Nat->St->Hp->Prop,(∃ m,W 0 m σ H)/\∀ i m σ' H',W i m σ' H'->((Itt K a).stop i H'/\Qe H')∨((Itt K a).go i H'/\∃ N:St->Hp->Prop,(∀ σ2 H2,N σ2 H2->∃ m',m' < m/\W (i + 1) m' σ2 H2) /\
   ∀ x H'',(Itt K a).yld i H' x H''->nD g tt te D N x σ' H''):=by
 refine ⟨fun i m σ H=>m=xs.length - i/\i<=xs.length/\Pv i σ H,⟨xs.length,by simp,Nat.zero_le _,h0⟩,?_⟩
 rintro i m σ H ⟨rfl,hi,p⟩
 have q:=hl i σ H hi p
 by_cases hlt:i < xs.length
 ·refine .inr ⟨⟨xs,xs[i],q,by simp [hlt]⟩,Pv (i + 1),fun σ' H' p'=>⟨xs.length - (i + 1),by omega,rfl,hlt,p'⟩,fun x H' y=>?_⟩
  obtain ⟨e,y⟩:=y
  subst e
  exact hs i x σ _ (y xs q) p
 ·have e:i=xs.length:=by omega
  subst e
  exact .inl ⟨⟨xs,q,Nat.le_refl _⟩,hd σ H p⟩
section
variable {X:Cx}
end
end L2
namespace GX
open PySem PyProof.Rows
def Ris (xs:Array Nat):Prop:=xs.toList.Pairwise (· < ·)
theorem Ris.at {xs:Array Nat} (h:Ris xs) {i j:Nat} (hi:i < j) (hj:j < xs.size):xs.getD i 0 < xs.getD j 0:=by
 have:=List.pairwise_iff_getElem.mp h i j (by simp; omega) (by simpa using hj) hi
 simp only [Array.getElem_toList] at this
 rw [Array.getD_eq_getD_getElem?,Array.getD_eq_getD_getElem?,Array.getElem?_eq_getElem (by omega),Array.getElem?_eq_getElem hj]
 exact this
theorem Eg {xs:Array Nat} {i:Nat} (h:i < xs.size) (a b:Nat):xs.getD i a=xs.getD i b:=by
 rw [Array.getD_eq_getD_getElem?,Array.getD_eq_getD_getElem?,Array.getElem?_eq_getElem h]
 rfl
theorem zA {xs:Array Nat} (hr:Ris xs) (j:Nat):∀ (fuel lo hi:Nat),lo<=hi->hi<=xs.size->hi - lo<=fuel->(∀ i,i < lo->xs.getD i 0 < j)->(∀ i,hi<=i->i < xs.size->j<=xs.getD i 0) ->
  SetTable.below.go xs j fuel lo hi<=xs.size/\(∀ i,i < SetTable.below.go xs j fuel lo hi->xs.getD i 0 < j)/\(∀ i,SetTable.below.go xs j fuel lo hi<=i->i < xs.size->j<=xs.getD i 0)
 | 0,lo,hi,h1,h2,h3,h4,h5=>by
  have e:lo=hi:=by omega
  subst e
  unfold SetTable.below.go
  exact ⟨h2,h4,h5⟩
 | fuel + 1,lo,hi,h1,h2,h3,h4,h5=>by
  unfold SetTable.below.go
  by_cases h:lo < hi
  ·rw [if_pos h]
   have hm:(lo + hi) / 2 < xs.size:=by omega
   show (if xs.getD ((lo + hi) / 2) j < j then SetTable.below.go xs j fuel ((lo + hi) / 2 + 1) hi else SetTable.below.go xs j fuel lo ((lo + hi) / 2))<=_/\_
   by_cases hc:xs.getD ((lo + hi) / 2) j < j
   ·simp only [if_pos hc]
    rw [Eg hm j 0] at hc
    refine zA hr j fuel _ hi (by omega) h2 (by omega) (fun i hi'=>?_) h5
    rcases Nat.lt_or_ge i ((lo + hi) / 2) with z | z
    ·have:=hr.at z hm
     omega
    ·have:i=(lo + hi) / 2:=by omega
     rw [this]
     exact hc
   ·simp only [if_neg hc]
    rw [Eg hm j 0] at hc
    refine zA hr j fuel lo _ (by omega) (by omega) (by omega) h4 (fun i hi' hs=>?_)
    rcases Nat.lt_or_ge ((lo + hi) / 2) i with z | z
    ·have:=hr.at z hs
     omega
    ·have:i=(lo + hi) / 2:=by omega
     rw [this]
     omega
  ·rw [if_neg h]
   have e:lo=hi:=by omega
   subst e
   exact ⟨h2,h4,h5⟩
theorem uF {xs:Array Nat} (hr:Ris xs) (j:Nat):SetTable.below xs j<=xs.size/\(∀ i,i < SetTable.below xs j->xs.getD i 0 < j)/\(∀ i,SetTable.below xs j<=i->i < xs.size->j<=xs.getD i 0):=by
 unfold SetTable.below
 exact zA hr j _ 0 _ (Nat.zero_le _) (Nat.le_refl _) (by omega) (fun i h=>by omega) (fun i h1 h2=>by omega)
theorem IW {xs:Array Nat} (hr:Ris xs) {i:Nat} (hi:i < xs.size):SetTable.below xs (xs.getD i 0 + 1)=i + 1:=by
 obtain ⟨h1,h2,h3⟩:=uF hr (xs.getD i 0 + 1)
 rcases Nat.lt_trichotomy (SetTable.below xs (xs.getD i 0 + 1)) (i + 1) with z | z | z
 ·have:=h3 i (by omega) hi
  omega
 ·exact z
 ·have q:=h2 (i + 1) z
  have:=hr.at (i:=i) (j:=i + 1) (by omega) (by omega)
  omega
theorem Jf {xs:Array Nat} (hr:Ris xs):SetTable.below xs 0=0:=by
 obtain ⟨h1,h2,h3⟩:=uF hr 0
 rcases Nat.eq_zero_or_pos (SetTable.below xs 0) with z | z
 ·exact z
 ·have:=h2 0 z
  omega
def Off (xs:Array Nat) (d:Nat):Prop:=xs[SetTable.below xs d]?≠some d
theorem Off.no {xs:Array Nat} (hr:Ris xs) {d:Nat} (h:Off xs d):∀ i,i < xs.size->xs.getD i 0≠d:=by
 intro i hi e
 obtain ⟨h1,h2,h3⟩:=uF hr d
 have b1:SetTable.below xs d<=i:=by
  rcases Nat.lt_or_ge i (SetTable.below xs d) with z | z
  ·have:=h2 i z
   omega
  ·exact z
 have b2:SetTable.below xs d=i:=by
  rcases Nat.lt_or_ge (SetTable.below xs d) i with z | z
  ·have:=hr.at z hi
   have:=h3 (SetTable.below xs d) (Nat.le_refl _) (by omega)
   omega
  ·omega
 apply h
 rw [b2,Array.getElem?_eq_getElem hi]
 rw [Array.getD_eq_getD_getElem?,Array.getElem?_eq_getElem hi] at e
 exact congrArg some e
theorem FT {t:SetTable} {j:Nat} (h:∀ i,t.slot j≠.live i):Off t.place j:=by
 intro z
 apply h (SetTable.below t.place j)
 unfold SetTable.slot
 simp only [z,beq_self_eq_true,if_true]
theorem Bj (t:SetTable) (p:SetTable.Probe):(t.advance p).dummy=p.dummy:=by
 unfold SetTable.advance
 split <;> rfl
theorem wg {t:SetTable} {f:Nat->Int} {h:Int}:∀ (fuel:Nat) (p:SetTable.Probe) (j:Nat) (dm:Option Nat),(∀ d,p.dummy=some d->Off t.place d)->SetTable.probe.go t f h fuel p=some (.empty j dm)->Off t.place j/\∀ d,dm=some d->Off t.place d
 | 0,p,j,dm,hp,e=>by
  unfold SetTable.probe.go at e
  cases e
 | fuel + 1,p,j,dm,hp,e=>by
  unfold SetTable.probe.go at e
  cases hs:t.slot p.j with
  | empty =>
   rw [hs] at e
   dsimp only at e
   cases e
   exact ⟨FT (fun i z=>by rw [hs] at z; cases z),hp⟩
  | dummy =>
   rw [hs] at e
   dsimp only at e
   refine wg fuel _ j dm (fun d hd=>?_) e
   rw [Bj] at hd
   cases hd
   exact FT (fun i z=>by rw [hs] at z; cases z)
  | live i =>
   rw [hs] at e
   dsimp only at e
   split at e
   ·cases e
   ·exact wg fuel _ j dm (fun d hd=>hp d (by rw [Bj] at hd; exact hd)) e
theorem Oc {t:SetTable} {h:Int} {sl:Nat} {b:Bool} (e:t.freeSlot h=some (sl,b)):Off t.place sl:=by
 unfold SetTable.freeSlot SetTable.probe at e
 generalize hg:SetTable.probe.go t (fun _=>h + 1) h (10 * SetTable.turns t.mask) (t.probeStart h)=g at e
 cases g with
 | none=>cases e
 | some m =>
  cases m with
  | candidate j i n=>cases e
  | empty j dm =>
   obtain ⟨h1,h2⟩:=wg _ _ j dm (fun d hd=>by cases hd) hg
   dsimp only at e
   have e':=Option.some.inj e
   cases dm with
   | none =>
    have:j=sl:=congrArg Prod.fst e'
    rw [← this]
    exact h1
   | some d =>
    have:d=sl:=congrArg Prod.fst e'
    rw [← this]
    exact h2 d rfl
theorem mem_getD {xs:Array Nat} {x:Nat} {p:Nat} (h:x∈xs.toList.take p):∃ i,i < p/\i < xs.size/\xs.getD i 0=x:=by
 obtain ⟨i,hi,e⟩:=List.getElem_of_mem h
 rw [List.length_take,Array.length_toList] at hi
 refine ⟨i,by omega,by omega,?_⟩
 rw [List.getElem_take,Array.getElem_toList] at e
 rw [Array.getD_eq_getD_getElem?,Array.getElem?_eq_getElem (by omega)]
 exact e
theorem Ag {xs:Array Nat} {x:Nat} {p:Nat} (h:x∈xs.toList.drop p):∃ i,p<=i/\i < xs.size/\xs.getD i 0=x:=by
 obtain ⟨i,hi,e⟩:=List.getElem_of_mem h
 rw [List.length_drop,Array.length_toList] at hi
 refine ⟨p + i,by omega,by omega,?_⟩
 rw [List.getElem_drop,Array.getElem_toList] at e
 rw [Array.getD_eq_getD_getElem?,Array.getElem?_eq_getElem (by omega)]
 exact e
theorem R4 {t:SetTable} {sl:Nat} (hr:Ris t.place) (ho:Off t.place sl):Ris (t.put sl).1.place:=by
 obtain ⟨h1,h2,h3⟩:=uF hr sl
 show (SetTable.insertAt t.place (SetTable.below t.place sl) sl).toList.Pairwise (· < ·)
 rw [SetTable.toList_insertAt,List.pairwise_append]
 refine ⟨hr.sublist (List.take_sublist _ _),?_,?_⟩
 ·rw [List.pairwise_cons]
  refine ⟨fun x hx=>?_,hr.sublist (List.drop_sublist _ _)⟩
  obtain ⟨i,a,b,c⟩:=Ag hx
  have q1:=h3 i a b
  have q2:=ho.no hr i b
  omega
 ·intro x hx y hy
  obtain ⟨i,a,b,c⟩:=mem_getD hx
  have q1:=h2 i a
  rcases List.mem_cons.mp hy with z | z
  ·omega
  ·obtain ⟨i',a',b',c'⟩:=Ag z
   have q2:=h3 i' a' b'
   omega
theorem rO (t:SetTable) (n:Nat):Ris (t.standIn n).place:=by
 show (Array.range n).toList.Pairwise (· < ·)
 rw [Array.toList_range]
 exact List.pairwise_lt_range
def Tb (b:Bool) (t:SetTable):Prop:=Ris t.place/\t.led=b
theorem VH {b:Bool} {t:SetTable} (h:Tb b t) (es:Array (Int×Value)) (k:Int) (x:Value):Tb b (layNew t es k x).2.1:=by
 unfold layNew
 split
 ·rename_i sl wd e
  dsimp only
  unfold SetTable.orStandIn
  split
  ·exact ⟨R4 h.1 (Oc e),h.2⟩
  ·exact ⟨rO _ _,h.2⟩
 ·exact ⟨rO _ _,h.2⟩
theorem Lh {b:Bool} {t t':SetTable} {hs:Array Int} {n:Nat} {o:Array Nat} (h:Tb b t) (e:t.relaid hs n=some (t',o)):Tb b t':=by
 unfold SetTable.relaid SetTable.laid at e
 cases hc:SetTable.layClean (SetTable.sizeAbove n - 1) hs with
 | none=>rw [hc] at e; cases e
 | some ow =>
  rw [hc] at e
  have e':=Option.some.inj e
  have e1:=congrArg Prod.fst e'
  dsimp only at e1
  rw [← e1]
  refine ⟨?_,h.2⟩
  show List.Pairwise _ (Array.toList (List.toArray _))
  rw [List.toList_toArray,List.map_filterMap]
  refine List.Pairwise.filterMap (R:=(· < ·)) _ (fun x y hxy a ha c hc=>?_) List.pairwise_lt_range
  simp only [Option.map_map,Option.mem_def,Option.map_eq_some_iff] at ha hc
  obtain ⟨_,_,rfl⟩:=ha
  obtain ⟨_,_,rfl⟩:=hc
  exact hxy
theorem Mu {b:Bool} {t:SetTable} (h:Tb b t) (es:Array (Int×Value)) (n:Nat):Tb b (relayAll t es n).2.1:=by
 unfold relayAll
 split
 ·rename_i t' o e
  dsimp only
  split
  ·exact Lh h e
  ·exact ⟨rO _ _,h.2⟩
 ·exact ⟨rO _ _,h.2⟩
end GX
namespace GX
open PySem PyProof.Rows
abbrev byT (w:World):Bool:=w.params.followText "set-order"
section
variable {prog:Program} {w:World} {A:Around} {E:Value->Shared->Prop} {s:Shared}
def SetI (prog:Program) (w:World) (h:Heap) (a:Addr) (S:Int->Bool) (n:Nat):Prop :=
 ∃ o es ep t,h.get? a=some o/\o.ExactSet/\o.data=.set es ep t/\ElemsOf (intKind prog w) es.toList/\(∀ k,S k=true↔∃ e∈es.toList,(intKind prog w).is k e.2=true)/\es.size < scanBound/\t.fits es.size=true/\es.size=n/\Tb (!byT w) t
theorem SetI.at {h h':Heap} {a:Addr} {S:Int->Bool} {n:Nat} (x:SetI prog w h a S n) (k:∀ o,h.get? a=some o->h'.get? a=some o):SetI prog w h' a S n:=by
 obtain ⟨o,es,ep,t,ho,r⟩:=x
 exact ⟨o,es,ep,t,k o ho,r⟩
theorem SetI.congr {h:Heap} {a:Addr} {S S':Int->Bool} {n n':Nat} (x:SetI prog w h a S n) (e:∀ k,S k=S' k) (en:n=n'):SetI prog w h a S' n':=by
 have z:S=S':=funext e
 rw [← z,← en]
 exact x
def GoodS (prog:Program) (w:World) (es:Array (Int×Value)) (t:SetTable) (S:Int->Bool) (n:Nat):Prop :=
 ElemsOf (intKind prog w) es.toList/\(∀ k,S k=true↔∃ e∈es.toList,(intKind prog w).is k e.2=true)/\es.size < scanBound/\t.fits es.size=true/\es.size=n/\Tb (!byT w) t
def RawS (h:Heap) (a:Addr) (es:Array (Int×Value)) (t:SetTable):Prop:=∃ o ep,h.get? a=some o/\o.ExactSet/\o.data=.set es ep t
theorem RawS.good {h:Heap} {a:Addr} {es:Array (Int×Value)} {t:SetTable} {S:Int->Bool} {n:Nat} (r:RawS h a es t) (g:GoodS prog w es t S n):SetI prog w h a S n:=by
 obtain ⟨o,ep,r1,r2,r3⟩:=r
 exact ⟨o,es,ep,t,r1,r2,r3,g⟩
theorem RawS.put {a:Addr} {es es':Array (Int×Value)} {t t':SetTable} {Q:Unit->Shared->Prop} (r:RawS s.heap a es t) (hz:es'.size < scanBound) (h:∀ h',Heap.SameBut a s.heap h'->RawS h' a es' t'->Q () { s with heap:=h' }) :
  wpAny (model prog w) A (storeSet a es' t') Q E s:=by
 obtain ⟨⟨c,d,b,sl⟩,ep,ho,hx,hd⟩:=r
 cases hd
 exact wpAny_storeSet_of ho rfl (h _ (Heap.SameBut.update ..) ⟨_,ep + 1,Heap.get?_update_self _ ho rfl,hx,rfl⟩) (fits_of_scanBound hz)
theorem GoodS.mix {es es':Array (Int×Value)} {t t':SetTable} {S:Int->Bool} {n:Nat} (g:GoodS prog w es t S n) (p:List.Perm es'.toList es.toList) (f:t'.fits es'.size=true) (b:Tb (!byT w) t'):GoodS prog w es' t' S n:=by
 obtain ⟨g1,g2,g3,_,g5,_⟩:=g
 have z:es'.size=es.size:=by simpa using p.length_eq
 exact ⟨g1.perm p,fun k=>(g2 k).trans ⟨fun ⟨e,u,v⟩=>⟨e,p.mem_iff.mpr u,v⟩,fun ⟨e,u,v⟩=>⟨e,p.mem_iff.mp u,v⟩⟩,z ▸ g3,f,z.trans g5,b⟩
theorem GoodS.relaid {es:Array (Int×Value)} {t:SetTable} {S:Int->Bool} {n:Nat} (g:GoodS prog w es t S n) (m:Nat):GoodS prog w (relayAll t es m).1 (relayAll t es m).2.1 S n :=
 g.mix (relayAll_perm t es m) (relayAll_fits t es m) (Mu g.2.2.2.2.2 es m)
theorem GoodS.more {es:Array (Int×Value)} {t:SetTable} {S:Int->Bool} {n:Nat} {k:Int} {x:Value} (g:GoodS prog w es t S n) (hk:(intKind prog w).is k x=true) (hx:x.scannable=true) (room:n + 1 < scanBound) :
  GoodS prog w (layNew t es ((intKind prog w).hash k) x).1 (layNew t es ((intKind prog w).hash k) x).2.1 (fun k'=>S k' || decide (k'=k)) (n + 1):=by
 obtain ⟨g1,g2,g3,_,g5,g6⟩:=g
 have p:List.Perm _ (es.push ((intKind prog w).hash k,x)).toList:=layNew_perm t es ((intKind prog w).hash k) x
 rw [Array.toList_push] at p
 have z:(layNew t es ((intKind prog w).hash k) x).1.size=n + 1:=by simpa [g5] using p.length_eq
 exact ⟨(g1.push hk hx).perm p,mem_push_iff hk g2 p,z ▸ room,layNew_fits t es _ x,z,VH g6 es _ x⟩
theorem Em {b:Bool} {Q:Unit->Shared->Prop} (q:Q () s):wpAny (model prog w) A (match b with | true=>rule "set.scan.the-table-gave-way" | false=>pure ()) Q E s:=by
 cases b
 ·exact wpAny_pure q
 ·exact wpAny_rule q
theorem RJ {a:Addr} {S:Int->Bool} {n:Nat} {k:Int} {u:Tok} {Q:Bool->Shared->Prop} (x:SetI prog w s.heap a S n) (room:n + 1 < scanBound)
  (h:∀ h' b,Heap.SameBut a s.heap h'->SetI prog w h' a (fun k'=>S k' || decide (k'=k)) (if S k then n else n + 1)->Q b { s with heap:=h' }) :
  wpAny (model prog w) A (setAddHashed a (.int k u) ((intKind prog w).hash k)) Q E s:=by
 obtain ⟨o,es,ep,t,ho,hx,hd,g⟩:=x
 have g0:GoodS prog w es t S n:=g
 obtain ⟨he,hm,hb,hf,hn,tb⟩:=g
 have hk:(intKind prog w).is k (.int k u)=true:=intKind_is _ _ _ _
 rw [setAddHashed,setAddHashedIn]
 apply wpAny_holding
 apply wpAny_bind
 apply wpAny_setState_of ho hd hf
 dsimp only
 rw [byScan_of rfl hb he,if_pos rfl]
 wp_walk using wpAny_setScan_of hk ho hd hf he
 cases hr:List.findIdx? (fun e=>(intKind prog w).is k e.2) es.toList with
 | some j =>
  obtain ⟨lt,is,_⟩:=List.findIdx?_eq_some_iff_getElem.mp hr
  have sk:S k=true:=(hm k).mpr ⟨_,List.getElem_mem lt,is⟩
  wp_walk
  refine h s.heap false (.refl a _) (RawS.good ⟨o,ep,ho,hx,hd⟩ ?_)
  rw [if_pos sk,show (fun k'=>S k' || decide (k'=k))=S from funext fun k'=>?_]
  ·exact g0
  ·by_cases e:k'=k
   ·rw [e,sk]; rfl
   ·rw [decide_eq_false e,Bool.or_false]
 | none =>
  have sk:¬ S k=true:=fun z=>by
   obtain ⟨e,u,v⟩:=(hm k).mp z
   exact absurd v (by simpa using List.findIdx?_eq_none_iff.mp hr e u)
  have g1:=g0.more hk rfl room
  rw [if_neg sk] at h
  dsimp only
  generalize layNew t es ((intKind prog w).hash k) (.int k u)=L at g1 ⊢
  obtain ⟨es1,t1,wd,gv⟩:=L
  refine wpAny_bind (Em ?_)
  dsimp only
  rw [hashByValue_scannable 8 (x:=.int k u) rfl]
  split
  all_goals
   refine wpAny_bind (wpAny_pure ?_)
   rw [if_pos (by rfl)]
   refine wpAny_bind (RawS.put ⟨o,ep,ho,hx,hd⟩ g1.2.2.1 fun h1 s1 r1=>?_)
   split
   ·have g2:=g1.relaid (SetTable.grown es1.size)
    refine wpAny_bind (Em (wpAny_bind (RawS.put (s:={ s with heap:=h1 }) r1 g2.2.2.1 fun h2 s2 r2=>?_)))
    wp_walk
    exact h h2 true (s1.trans s2) (r2.good g2)
   ·wp_walk
    exact h h1 true s1 (r1.good g1)
theorem Gd (S I:Addr):MeetsIn prog w (Builtin.«set.update.loop» ⟨[.ref S,.ref I],[]⟩) fun A R s=>wpAny (model prog w) A.in1 (pyNext (.ref I)) (fun r s=>match r with
  | none=>R (.ok (.ret .none)) s
  | some v=>wpAny (model prog w) A.in1 (setAdd S v) (fun _ s=>codeAny (model prog w) A (.builtin "set.update.loop" ⟨[.ref S,.ref I],[]⟩) R s) (fun _ _=>False) s) (fun _ _=>False) s:=by
 intro A R s nx
 show wpAny _ _ (pyNext (.ref I) >>= _) _ _ s
 apply wpAny_bind
 refine wpAny_mono nx (fun r s1 h=>?_) fun _ _ z=>z.elim
 rcases r with _ | v
 ·wp_walk
  exact h
 ·wp_walk using wpAny_mono h
  ·exact fun _ _ e=>wpAny_pure ⟨plainId_quiet PyProof.Rows.F.plain_set_update_loop _,e⟩
  ·exact fun _ _ z=>z.elim
theorem Ml {R:Result->Shared->Prop} {I S:Addr} {fp wr:List Addr} {n:Nat} {P:Nat->Value->Prop} {St:Nat->Heap->Prop} (W:Walks prog w A.in1 I fp wr n P St) (nS:S∉fp) (val:Nat->Int) (hv:∀ i v,P i v->∃ t,v=.int (val i) t) (hb:n + 1 < scanBound) :
  ∀ (k i:Nat) (s:Shared),n=i + k->St i s.heap->SetI prog w s.heap S (fun k'=>(firstMet val i).any (· == k')) (firstMet val i).length ->
   (∀ h' tk,(∀ b o,b∉wr->b≠S->s.heap.get? b=some o->h'.get? b=some o)->SetI prog w h' S (fun k'=>(firstMet val n).any (· == k')) (firstMet val n).length->R (.ok (.ret .none)) { s with heap:=h',toks:=tk }) ->
   codeAny (model prog w) A (.builtin "set.update.loop" ⟨[.ref S,.ref I],[]⟩) R s:=by
 have nW:S∉wr:=fun z=>nS (W.sub _ z)
 intro k
 induction k with
 | zero =>
  intro i s en st x fin
  obtain rfl:n=i:=en
  exact enter PyProof.Rows.F.entry_set_update_loop PyProof.Rows.F.plain_set_update_loop (Gd S I) (W.done s _ _ st fun h tk kp=>fin h tk (fun b o nb _ e=>kp b o nb e) (x.at fun o e=>kp S o nW e))
 | succ k ih =>
  intro i s en st x fin
  refine enter PyProof.Rows.F.entry_set_update_loop PyProof.Rows.F.plain_set_update_loop (Gd S I) (W.item i s _ _ (by omega) st fun v h tk pv st1 kp=>?_)
  obtain ⟨t,rfl⟩:=hv i v pv
  have len:=firstMet_length_le val i
  show wpAny _ _ (setAdd S (.int (val i) t)) _ _ _
  unfold setAdd
  refine wpAny_holding (wpAny_bind ((intKind prog w).pyHash (k:=val i) (intKind_is _ _ _ _) (RJ (s:={ s with heap:=h,toks:=tk + 1 }) (x.at fun o e=>kp S o nW e) (by omega) fun h2 b sb x2=>?_)))
  refine ih (i + 1) { s with heap:=h2,toks:=tk + 1 } (by omega) (W.frame _ _ _ st1 fun b hb o e=>(sb.2 b fun z=>nS (z ▸ hb)).trans e) (x2.congr (fun k'=>?_) ?_) fun h3 tk3 k3 x3=>fin h3 tk3 (fun b o nb nb' e=>k3 b o nb nb' ((sb.2 b nb').trans (kp b o nb e))) x3
  ·rw [firstMet_succ,step_any]
  ·rw [firstMet_succ,step_length]
theorem Ro (a:Value) {Q1:Value->Shared->Prop} (h:Q1 (.ref s.heap.objs.size) { s with heap:=s.heap.push { cls:=.type "set",dict:=none,data:=.set #[] 0 (.fresh 0 0 (!byT w)) } }) :
  codeAny (model prog w) A (.call (.builtin "set.__new__") ⟨[.type "set",a],[]⟩) (wants Q1 E) s:=by
 refine codeAny_call_builtin PySem.F.plain_set_new PySem.F.entry_set_new (wpAny_of_eq (PySem.F.newCall_set_1 a) ?_)
 have sub:=sub_set_self
 obtain ⟨hp,g,d,tk,os⟩:=s
 wp_walk using wpAny_askSetting
 exact h
theorem FW {T newId initId:String} {args:List Value} {Q Q1:Value->Shared->Prop} (ft:TypeCalled T newId initId) (ct:checkTypeCall T ⟨args,[]⟩=pure ())
  (new:codeAny (model prog w) A.in1 (.call (.builtin newId) ⟨.type T :: args,[]⟩) (wants Q1 E) s)
  (init:∀ v s1,Q1 v s1->s1.TypeIs v T/\codeAny (model prog w) A.in1 (.call (.builtin initId) ⟨v :: args,[]⟩) (wants (fun r s2=>r=.none/\Q v s2) E) s1):wpAny (model prog w) A (call (.type T) args) Q E s:=by
 obtain ⟨_,_,_⟩:=ft.mro
 have:=ft.notType
 have:=ft.canCreate
 have:=ft.made
 have:=ft.sub
 refine wpAny_call (codeAny_of_tree (wpAny_pure ⟨Code.quiet_builtin _ (by decide +kernel),codeAny_builtin PySem.F.entry_type_call ?_⟩))
 rw [Around.under_plain (weight_type_call_type T args []) rfl]
 repeat' first | assumption | wp_step
 refine codeAny_mono new fun r s1 h=>?_
 match r,h with
 | .error _,h=>exact h
 | .ok (.ret v),h =>
  obtain ⟨ty,c⟩:=init v s1 h
  have:=ft.init.lookup
  have:=ft.init.bind v
  repeat' first | assumption | wp_step
  refine codeAny_mono c fun r s2 h=>?_
  match r,h with
  | .error _,h=>exact h
  | .ok (.ret _),h =>
   obtain ⟨rfl,_⟩:=h
   repeat' first | assumption | wp_step
end
end GX
namespace GX
open PySem PyProof.Rows
theorem sl_sit_next:Slot "set_iterator" "__next__" "set_iterator.__next__" :=
 .of (owner:="set_iterator") (n:="__next__") (by rw [typeLookup_type,builtinLookup_eq_fast]; kernel_rfl) (by decide +kernel) (by decide +kernel) (by decide +kernel) (by first | exact .inl (by decide +kernel) | exact .inr (by decide +kernel)) (by rw [isSubtype_type]; kernel_rfl)
theorem nF:entryFor table "set_iterator.__next__"=some Builtin.«set_iterator.__next__»:=entryFor_of_tree (by kernel_rfl)
theorem nJ (a:Value):argsOk "set_iterator.__next__" ⟨[a],[]⟩:=by unfold argsOk; kernel_rfl
theorem wz:Slot "set_iterator" "__iter__" "set_iterator.__iter__" :=
 .of (owner:="set_iterator") (n:="__iter__") (by rw [typeLookup_type,builtinLookup_eq_fast]; kernel_rfl) (by decide +kernel) (by decide +kernel) (by decide +kernel) (by first | exact .inl (by decide +kernel) | exact .inr (by decide +kernel)) (by rw [isSubtype_type]; kernel_rfl)
theorem Ff:entryFor table "set_iterator.__iter__"=some Builtin.«dict_keyiterator.__iter__»:=entryFor_alias (id':="dict_keyiterator.__iter__") (by kernel_rfl) rfl (by decide +kernel) (by kernel_rfl)
theorem GD (a:Value):argsOk "set_iterator.__iter__" ⟨[a],[]⟩:=by unfold argsOk; kernel_rfl
theorem FZ:entryFor table "set.__iter__"=some Builtin.«frozenset.__iter__»:=entryFor_alias (id':="frozenset.__iter__") (by kernel_rfl) rfl (by decide +kernel) (by kernel_rfl)
abbrev newS (w:World) (h:Heap):Heap:=h.push { cls:=.type "set",dict:=none,data:=.set #[] 0 (.fresh 0 0 (!byT w)) }
section
variable {prog:Program} {w:World} {A:Around} {E:Value->Shared->Prop} {s:Shared}
theorem Eb {l:Addr} {items:Array Value} {ns:List Int} {Q:Value->Shared->Prop} (hh:A.handled=none) (hl:s.heap.IsList l items) (hi:IntsAre items.toList ns) (hb:items.size + 1 < scanBound)
  (h:∀ h' tk,SetI prog w h' s.heap.objs.size (fun k'=>(firstMet (fun i=>ns.getD i 0) items.size).any (· == k')) (firstMet (fun i=>ns.getD i 0) items.size).length->(∀ b o,s.heap.get? b=some o->h'.get? b=some o)->Q (.ref s.heap.objs.size) { s with heap:=h',toks:=tk }) :
  wpAny (model prog w) A (call (.type "set") [.ref l]) Q E s:=by
 obtain ⟨⟨oc,od,odt,osl⟩,hol,hcl,nl,hdl⟩:=id hl
 cases hcl
 cases hdl
 have lS:l < s.heap.objs.size:=Heap.lt_size hol
 refine FW PySem.F.called_set (PySem.F.typeCall_set_1 _) (Ro (.ref l) (Q1:=fun v s1=>v=.ref s.heap.objs.size/\s1={ s with heap:=newS w s.heap }) ⟨rfl,rfl⟩) ?_
 rintro _ _ ⟨rfl,rfl⟩
 have new:(newS w s.heap).get? s.heap.objs.size=some { cls:=.type "set",dict:=none,data:=.set #[] 0 (.fresh 0 0 (!byT w)) }:=Heap.get?_push_size _ rfl
 have old:(newS w s.heap).get? l=some { cls:=.type "list",dict:=od,data:=.seq items nl,slots:=osl }:=Heap.get?_push_of_some _ hol
 have size:(newS w s.heap).objs.size=s.heap.objs.size + 1:=Heap.size_push ..
 have ty:Shared.TypeIs { s with heap:=newS w s.heap } (.ref s.heap.objs.size) "set":=⟨_,new,rfl⟩
 refine ⟨ty,codeAny_call_builtin PySem.F.called_set.init.plain PySem.F.entry_set_init (check_set_init_1 ty ?_)⟩
 have:=PySem.F.sub_list_set
 have:=PySem.F.sub_list_frozenset
 have nd:(Value.type "list" == Value.type "dict")=false:=by decide
 have grown:∀ b o,s.heap.get? b=some o->(newS w s.heap).get? b=some o:=fun b o e=>Heap.get?_push_of_some _ e
 generalize newS w s.heap=h1 at new old size ty grown ⊢
 have il:h1.IsList l items:=⟨_,old,rfl,nl,rfl⟩
 wp_walk using wpAny_pyIter_list il
 have nf:s.heap.objs.size∉[h1.objs.size,l]:=by
  rw [size]
  intro z
  rcases List.mem_cons.mp z with z | z
  ·exact absurd z (Nat.ne_of_lt (Nat.lt_succ_self _))
  ·exact Nat.ne_of_gt lS (List.mem_singleton.mp z)
 refine Ml (Walks.list (by simpa using hh) _ l (by rw [size]; exact Nat.ne_of_lt (Nat.lt_succ_of_lt lS)) items) nf (fun i=>ns.getD i 0) (fun i v hv=>IntsAre.int_at hi i v (by rw [Array.getElem?_toList]; exact hv)) hb items.size 0 _ (by omega)
  ⟨⟨_,Heap.get?_push_size _ rfl,rfl,rfl⟩,il.push _⟩ ⟨_,#[],0,_,Heap.get?_push_of_some _ new,⟨rfl,rfl,rfl⟩,rfl,fun e he=>by simp at he,fun k=>by simp [firstMet_zero],by decide,by rfl,rfl,⟨List.Pairwise.nil,rfl⟩⟩ fun h2 tk kp x=>?_
 wp_walk
 refine ⟨rfl,h h2 tk x fun b o e=>?_⟩
 have lb:=Heap.lt_size e
 refine kp b o (fun z=>?_) (Nat.ne_of_lt lb) (Heap.get?_push_of_some _ (grown b o e))
 rw [List.mem_singleton.mp z,size] at lb
 exact absurd lb (Nat.not_lt.mpr (Nat.le_succ _))
end
end GX
namespace GX
open PySem PyProof.Rows
section
variable {prog:Program} {w:World} {A:Around} {E:Value->Shared->Prop} {s:Shared}
theorem tG {α:Type}:∀ {xs:List α} {i:Nat} (h:i < xs.length),(xs[i] :: xs.eraseIdx i).Perm xs
 | x :: xs,0,_=>.refl _
 | x :: xs,i + 1,h=>(List.Perm.swap x (xs[i]'(Nat.lt_of_succ_lt_succ h)) _).trans ((tG (xs:=xs) (i:=i) (Nat.lt_of_succ_lt_succ h)).cons x)
theorem Lw {src:Source} {n:Nat} {M:Model} {Q:Nat->Shared->Prop} (hn:n≠0) (h:∀ i d,i < n->Q i { s with drawn:=d }):wpAny M A (choose src n) Q E s:=fun Γ p _=>by
 unfold choose
 rw [Sem.wp_choose]
 exact ⟨hn,h _ _ (Nat.mod_lt _ (Nat.pos_of_ne_zero hn))⟩
theorem Jl {α:Type} {M:Model}:∀ (n:Nat) (xs:List α) (s:Shared) (Q:List α->Shared->Prop),xs.length=n->(∀ ys d,ys.Perm xs->Q ys { s with drawn:=d })->wpAny M A (drawOrder n xs) Q E s
 | 0,xs,s,Q,hl,h=>by
  have e:xs=[]:=List.eq_nil_of_length_eq_zero hl
  subst e
  unfold drawOrder
  exact wpAny_pure (h [] s.drawn .nil)
 | n + 1,[],s,Q,hl,h=>by cases hl
 | n + 1,x :: xs,s,Q,hl,h=>by
  unfold drawOrder
  refine wpAny_bind (Lw (by simp) fun i d hi=>?_)
  rw [List.getElem?_eq_getElem hi]
  dsimp only
  refine wpAny_bind (Jl n _ _ _ (by rw [List.length_eraseIdx_of_lt hi,hl]; rfl) fun ys d' pm=>?_)
  exact wpAny_pure (h _ d' ((pm.cons _).trans (tG hi)))
theorem JN {α:Type} (f:Nat->Nat):∀ (n k:Nat) (xs:List α) (out:Array α),xs.length=n->(pickOrder.go f n k xs out).toList.Perm (out.toList ++ xs)
 | 0,k,xs,out,hl=>by
  have e:xs=[]:=List.eq_nil_of_length_eq_zero hl
  subst e
  unfold pickOrder.go
  rw [List.append_nil]
 | n + 1,k,xs,out,hl=>by
  unfold pickOrder.go
  have hi:f k % xs.length < xs.length:=Nat.mod_lt _ (by omega)
  rw [List.getElem?_eq_getElem hi]
  dsimp only
  refine (JN f n (k + 1) _ _ (by rw [List.length_eraseIdx_of_lt hi,hl]; rfl)).trans ?_
  rw [Array.toList_push,List.append_assoc]
  exact List.Perm.append_left _ (tG hi)
theorem Kf {α:Type} (f:Nat->Nat) (xs:Array α):(pickOrder f xs).toList.Perm xs.toList:=by
 have:=JN f xs.size 0 xs.toList #[] (by simp)
 simpa [pickOrder] using this
end
end GX
namespace GX
open PySem PyProof.Rows
section
variable {prog:Program} {w:World} {A:Around} {E:Value->Shared->Prop} {s:Shared}
def wO (first:Value) (i:Nat) (a:Addr) (n ep:Nat):Obj:={ cls:=.type "set_iterator",dict:=none,data:=.fields #[first,.int i 0,.ref a,.int n 0,.int ep 0],slots:=#[] }
theorem tQ {I:Addr} {first:Value} {i n ep:Nat} {a:Addr} (h:Heap) (hI:h.get? I=some (wO first i a n ep)) (k:Nat) (x:Value):(h.update I (Obj.mapFields (·.setIfInBounds k x))).get? I=some { cls:=.type "set_iterator",dict:=none,data:=.fields ((#[first,.int i 0,.ref a,.int n 0,.int ep 0]:Array Value).setIfInBounds k x),slots:=#[] } :=
 Heap.get?_update_self _ hI rfl
variable {I a:Addr} {o:Obj} {es:Array (Int×Value)} {ep:Nat} {t:SetTable} {i:Nat}
theorem gO {first:Value} (hI:s.heap.get? I=some (wO first i a es.size ep)):s.TypeIs (.ref I) "set_iterator":=⟨_,hI,rfl⟩
theorem uJ {sl:Int} {nx:Nat} {x:Value} {Q:Option Value->Shared->Prop} (hI:s.heap.get? I=some (wO (.int sl 0) i a es.size ep)) (ho:s.heap.get? a=some o) (hd:o.data=.set es ep t) (hf:t.fits es.size=true)
  (hn:∀ (A:Around) (E:Value->Shared->Prop) (Q':Option (Value×Nat)->Shared->Prop),Q' (some (x,nx)) s->wpAny (model prog w) A (setNext a sl.toNat i ep) Q' E s)
  (h:∀ h',h'.get? I=some (wO (.int nx 0) (i + 1) a es.size ep)->Heap.SameBut I s.heap h'->Q (some x) { s with heap:=h' }):wpAny (model prog w) A (pyNext (.ref I)) Q E s:=by
 unfold pyNext
 refine wpAny_bind (wpAny_attempt (wpAny_callSpecial?_slot (name:=Str.ofString "__next__") (gO hI) sl_sit_next (wpAny_call_entry sl_sit_next (gO hI) nF ?_ (nJ _))))
 unfold Builtin.«set_iterator.__next__»
 refine wpAny_bind (wpAny_pure (wpAny_bind (wpAny_fieldsOf hI rfl ?_)))
 show wpAny _ _ (setEntries a >>= _) _ _ _
 refine wpAny_bind (wpAny_setEntries_of ho hd hf ?_)
 show wpAny _ _ (if (((es.size:Nat):Int) != ((es.size:Nat):Int))=true then _ else _) _ _ _
 rw [if_neg (by simp)]
 show wpAny _ _ (setNext a sl.toNat ((i:Int)).toNat ((ep:Int)).toNat >>= _) _ _ _
 rw [Int.toNat_natCast,Int.toNat_natCast]
 refine wpAny_bind (hn _ _ _ ?_)
 show wpAny _ _ (setField (.ref I) 0 (rawInt nx) >>= _) _ _ _
 refine wpAny_bind (wpAny_setField hI rfl (by simp) ?_)
 have h1:=tQ s.heap hI 0 (rawInt nx)
 refine wpAny_bind (wpAny_setField (s:={ s with heap:=s.heap.update I (Obj.mapFields (·.setIfInBounds 0 (rawInt nx))) }) h1 rfl (by simp) ?_)
 refine wpAny_pure ⟨_,rfl,wpAny_pure (h _ ?_ ((Heap.SameBut.update ..).trans (Heap.SameBut.update ..)))⟩
 exact Heap.get?_update_self _ h1 rfl
theorem Ea {M:Model} {Q:Fin->Shared->Prop} {E:Value->Shared->Prop} (hh:A.handled=none) (h:∀ h' e,(∀ b o,s.heap.get? b=some o->h'.get? b=some o)->(∃ o,h'.get? e=some o/\o.cls=.type "StopIteration")->E (.ref e) { s with heap:=h' }) :
  wpAny M A (newExc (.type "StopIteration") [] >>= fun e=>raiseNew e) Q E s:=by
 refine wpAny_bind ?_
 simp only [newExc,newTuple]
 refine wpAny_bind (wpAny_newObj_type ?_ (by size_fits))
 refine wpAny_bind (m:=firstArgMember _ _) (wpAny_of_eq (a:=Value.none) (by first | rfl | (simp only [firstArgMember]; rfl)) ?_)
 refine wpAny_newObj_type ?_ (by size_fits)
 refine wpAny_raiseNew_none hh (h _ _ (fun b o e=>Heap.get?_push_of_some _ (Heap.get?_push_of_some _ e)) ⟨_,Heap.get?_push_size _ rfl,rfl⟩)
theorem uw {sl:Int} {Q:Option Value->Shared->Prop} (hh:A.handled=none) (hI:s.heap.get? I=some (wO (.int sl 0) i a es.size ep)) (ho:s.heap.get? a=some o) (hd:o.data=.set es ep t) (hf:t.fits es.size=true)
  (hn:∀ (A:Around) (E:Value->Shared->Prop) (Q':Option (Value×Nat)->Shared->Prop),Q' none s->wpAny (model prog w) A (setNext a sl.toNat i ep) Q' E s)
  (h:∀ h',(∀ b o,b≠I->s.heap.get? b=some o->h'.get? b=some o)->Q none { s with heap:=h' }):wpAny (model prog w) A (pyNext (.ref I)) Q E s:=by
 unfold pyNext
 refine wpAny_bind (wpAny_attempt (wpAny_callSpecial?_slot (name:=Str.ofString "__next__") (gO hI) sl_sit_next (wpAny_call_entry sl_sit_next (gO hI) nF ?_ (nJ _))))
 unfold Builtin.«set_iterator.__next__»
 refine wpAny_bind (wpAny_pure (wpAny_bind (wpAny_fieldsOf hI rfl ?_)))
 show wpAny _ _ (setEntries a >>= _) _ _ _
 refine wpAny_bind (wpAny_setEntries_of ho hd hf ?_)
 show wpAny _ _ (if (((es.size:Nat):Int) != ((es.size:Nat):Int))=true then _ else _) _ _ _
 rw [if_neg (by simp)]
 show wpAny _ _ (setNext a sl.toNat ((i:Int)).toNat ((ep:Int)).toNat >>= _) _ _ _
 rw [Int.toNat_natCast,Int.toNat_natCast]
 refine wpAny_bind (hn _ _ _ ?_)
 show wpAny _ _ (setField (.ref I) 2 .none >>= _) _ _ _
 refine wpAny_bind (wpAny_setField hI rfl (by simp) ?_)
 refine Ea (A:=A.in1) hh fun h' e kp ⟨oe,q1,q2⟩=>?_
 refine wpAny_bind (wpAny_isInstance (T:="StopIteration") (b:=true) ⟨oe,q1,q2⟩ isSubtype_stop ?_)
 exact wpAny_pure (h h' fun b ob nb e=>kp b ob ((Heap.get?_update_other _ _ (Ne.symm nb)).trans e))
theorem BZ {tp:Addr} {c:Nat} {ps:List Nat} {x:Value} {k:Nat} {hk:Int} {Q:Option Value->Shared->Prop} (hI:s.heap.get? I=some (wO (.ref tp) i a es.size ep)) (ho:s.heap.get? a=some o) (hd:o.data=.set es ep t) (hf:t.fits es.size=true)
  (ht:s.heap.get? tp=some { cls:=.type "tuple",dict:=none,data:=.seq (ps.map fun (i:Nat)=>rawInt i).toArray c,slots:=#[] }) (hp:ps[i]?=some k) (hx:es[k]?=some (hk,x))
  (h:∀ h',h'.get? I=some (wO (.ref tp) (i + 1) a es.size ep)->Heap.SameBut I s.heap h'->Q (some x) { s with heap:=h' }):wpAny (model prog w) A (pyNext (.ref I)) Q E s:=by
 unfold pyNext
 refine wpAny_bind (wpAny_attempt (wpAny_callSpecial?_slot (name:=Str.ofString "__next__") (gO hI) sl_sit_next (wpAny_call_entry sl_sit_next (gO hI) nF ?_ (nJ _))))
 unfold Builtin.«set_iterator.__next__»
 refine wpAny_bind (wpAny_pure (wpAny_bind (wpAny_fieldsOf hI rfl ?_)))
 show wpAny _ _ (setEntries a >>= _) _ _ _
 refine wpAny_bind (wpAny_setEntries_of ho hd hf ?_)
 show wpAny _ _ (if (((es.size:Nat):Int) != ((es.size:Nat):Int))=true then _ else _) _ _ _
 rw [if_neg (by simp)]
 show wpAny _ _ (seqItems? (.ref tp) >>= _) _ _ _
 refine wpAny_bind (wpAny_seqItems ht rfl ?_)
 have e1:((ps.map fun (i:Nat)=>rawInt i).toArray)[((i:Nat):Int).toNat]?=some (.int k 0):=by
  rw [Int.toNat_natCast,List.getElem?_toArray,List.getElem?_map,hp]
  rfl
 dsimp only
 rw [e1]
 show wpAny _ _ (setNextDrawn a ((k:Nat):Int).toNat ((ep:Nat):Int).toNat >>= _) _ _ _
 rw [Int.toNat_natCast,Int.toNat_natCast]
 unfold setNextDrawn
 refine wpAny_bind (wpAny_bind (wpAny_setState_of ho hd hf ?_))
 show wpAny _ _ (if (ep != ep)=true then _ else _) _ _ _
 rw [if_neg (by simp)]
 refine wpAny_bind (wpAny_pure ?_)
 rw [hx]
 refine wpAny_pure ?_
 show wpAny _ _ (setField (.ref I) 1 (rawInt ((i:Int) + 1)) >>= _) _ _ _
 refine wpAny_bind (wpAny_setField hI rfl (by simp) (wpAny_pure ⟨_,rfl,wpAny_pure (h _ ?_ (Heap.SameBut.update ..))⟩))
 exact tQ s.heap hI 1 (rawInt ((i:Int) + 1))
theorem Dk {tp:Addr} {c:Nat} {ps:List Nat} {Q:Option Value->Shared->Prop} (hh:A.handled=none) (hI:s.heap.get? I=some (wO (.ref tp) i a es.size ep)) (ho:s.heap.get? a=some o) (hd:o.data=.set es ep t) (hf:t.fits es.size=true)
  (ht:s.heap.get? tp=some { cls:=.type "tuple",dict:=none,data:=.seq (ps.map fun (i:Nat)=>rawInt i).toArray c,slots:=#[] }) (hp:ps[i]?=none)
  (h:∀ h',(∀ b o,b≠I->s.heap.get? b=some o->h'.get? b=some o)->Q none { s with heap:=h' }):wpAny (model prog w) A (pyNext (.ref I)) Q E s:=by
 unfold pyNext
 refine wpAny_bind (wpAny_attempt (wpAny_callSpecial?_slot (name:=Str.ofString "__next__") (gO hI) sl_sit_next (wpAny_call_entry sl_sit_next (gO hI) nF ?_ (nJ _))))
 unfold Builtin.«set_iterator.__next__»
 refine wpAny_bind (wpAny_pure (wpAny_bind (wpAny_fieldsOf hI rfl ?_)))
 show wpAny _ _ (setEntries a >>= _) _ _ _
 refine wpAny_bind (wpAny_setEntries_of ho hd hf ?_)
 show wpAny _ _ (if (((es.size:Nat):Int) != ((es.size:Nat):Int))=true then _ else _) _ _ _
 rw [if_neg (by simp)]
 show wpAny _ _ (seqItems? (.ref tp) >>= _) _ _ _
 refine wpAny_bind (wpAny_seqItems ht rfl ?_)
 have e1:((ps.map fun (i:Nat)=>rawInt i).toArray)[((i:Nat):Int).toNat]?=none:=by
  rw [Int.toNat_natCast,List.getElem?_toArray,List.getElem?_map,hp]
  rfl
 dsimp only
 rw [e1]
 show wpAny _ _ (setField (.ref I) 0 (rawInt 0) >>= _) _ _ _
 refine wpAny_bind (wpAny_setField hI rfl (by simp) ?_)
 have h1:=tQ s.heap hI 0 (rawInt 0)
 refine wpAny_bind (wpAny_setField (s:={ s with heap:=s.heap.update I (Obj.mapFields (·.setIfInBounds 0 (rawInt 0))) }) h1 rfl (by simp) ?_)
 refine Ea (A:=A.in1) hh fun h' e kp ⟨oe,q1,q2⟩=>?_
 refine wpAny_bind (wpAny_isInstance (T:="StopIteration") (b:=true) ⟨oe,q1,q2⟩ isSubtype_stop ?_)
 exact wpAny_pure (h h' fun b ob nb e=>kp b ob ((Heap.get?_update_other _ _ (Ne.symm nb)).trans ((Heap.get?_update_other _ _ (Ne.symm nb)).trans e)))
theorem Ah {sl:Nat} {Q:Option (Value×Nat)->Shared->Prop} (b:byT w=true) (ho:s.heap.get? a=some o) (hd:o.data=.set es ep t) (hf:t.fits es.size=true)
  (h:Q (((pickOrder (w.params.setOrder a ep) es)[i]?).map fun e=>(e.2,sl)) s):wpAny (model prog w) A (setNext a sl i ep) Q E s:=by
 have hb:w.params.followText "set-order"=true:=b
 unfold setNext
 refine wpAny_bind (wpAny_setState_of ho hd hf (wpAny_bind (wpAny_bind (wpAny_askSetting (wpAny_pure ?_)))))
 show wpAny _ _ (if w.params.followText "set-order"=true then _ else _) _ _ _
 rw [hb,if_pos rfl]
 show wpAny _ _ (if (ep != ep)=true then _ else _) _ _ _
 rw [if_neg (by simp)]
 refine wpAny_bind ?_
 unfold setWalk
 refine wpAny_bind (wpAny_setState_of ho hd hf (wpAny_bind (wpAny_bind (wpAny_askSetting (wpAny_pure ?_)))))
 show wpAny _ _ (if w.params.followText "set-order"=true then _ else _) _ _ _
 rw [hb,if_pos rfl]
 exact wpAny_bind (wpAny_askSetting (wpAny_pure (wpAny_pure h)))
theorem DQ {sl:Nat} {Q:Option (Value×Nat)->Shared->Prop} (b:byT w=false) (d:(!t.plain && decide (es.size > 1))=false) (hl:t.led=true) (ho:s.heap.get? a=some o) (hd:o.data=.set es ep t) (hf:t.fits es.size=true)
  (h:Q (match es[SetTable.below t.place sl]?,t.place[SetTable.below t.place sl]? with | some (_,x),some j=>some (x,j + 1) | _,_=>none) s):wpAny (model prog w) A (setNext a sl i ep) Q E s:=by
 have hb:w.params.followText "set-order"=false:=b
 unfold setNext
 refine wpAny_bind (wpAny_setState_of ho hd hf (wpAny_bind (wpAny_bind (wpAny_askSetting (wpAny_pure ?_)))))
 show wpAny _ _ (if w.params.followText "set-order"=true then _ else _) _ _ _
 rw [hb,if_neg Bool.false_ne_true]
 refine wpAny_bind (wpAny_pure ?_)
 show wpAny _ _ (if (!t.plain && decide (es.size > 1))=true then _ else _) _ _ _
 rw [d,if_neg Bool.false_ne_true]
 refine wpAny_bind ?_
 show wpAny _ _ (if (!t.led && !es.isEmpty)=true then _ else _) _ _ _
 rw [hl]
 show wpAny _ _ (if (false && !es.isEmpty)=true then _ else _) _ _ _
 rw [Bool.false_and,if_neg Bool.false_ne_true]
 exact wpAny_pure (wpAny_pure h)
end
end GX
namespace GX
open PySem PyProof.Rows
section
variable {prog:Program} {w:World} {A:Around} {E:Value->Shared->Prop} {s:Shared} {I a:Addr} {o:Obj} {es:Array (Int×Value)} {ep:Nat} {t:SetTable}
theorem yI {i:Nat} {first:Value} {Q:Value->Shared->Prop} (hI:s.heap.get? I=some (wO first i a es.size ep)) (h:Q (.ref I) s):wpAny (model prog w) A (pyIter (.ref I)) Q E s:=by
 refine wpAny_pyIter_slot (gO hI) wz (wpAny_call_entry wz (gO hI) Ff ?_ (GD _))
 show wpAny _ _ (ret (.ref I)) _ _ s
 exact wpAny_pure ⟨_,rfl,"set_iterator",_,gO hI,sl_sit_next.lookup,h⟩
theorem Ka (hh:A.handled=none) (b:byT w=true) (hd:o.data=.set es ep t) (hf:t.fits es.size=true) (ne:a≠I) :
  Walks prog w A I [I,a] [I] ((pickOrder (w.params.setOrder a ep) es).toList.map (·.2)).length (fun i v=>((pickOrder (w.params.setOrder a ep) es).toList.map (·.2))[i]?=some v)
   (fun i h=>(∃ sl:Nat,h.get? I=some (wO (.int sl 0) i a es.size ep))/\h.get? a=some o) where
 sub:=fun b hb=>List.mem_singleton.mp hb ▸ List.mem_cons_self
 frame:=fun i h h' st hk=>⟨let ⟨sl,e⟩:=st.1; ⟨sl,hk I (by simp) _ e⟩,hk a (by simp) _ st.2⟩
 item:=fun i s _ _ hi st hQ=>by
  obtain ⟨⟨sl,hI⟩,ho⟩:=st
  have hi':i < (pickOrder (w.params.setOrder a ep) es).size:=by simpa using hi
  refine uJ (x:=((pickOrder (w.params.setOrder a ep) es)[i]).2) (nx:=sl) hI ho hd hf (fun A E Q' q=>Ah b ho hd hf ?_) fun h' e sb=>hQ _ h' s.toks ?_ ⟨⟨sl,e⟩,(sb.2 a ne).trans ho⟩ fun c oc nc ec=>(sb.2 c (fun z=>nc (by simp [z]))).trans ec
  ·rw [Array.getElem?_eq_getElem hi']
   exact q
  ·rw [List.getElem?_map,Array.getElem?_toList,Array.getElem?_eq_getElem hi']
   rfl
 done:=fun s Q E st hQ=>by
  obtain ⟨⟨sl,hI⟩,ho⟩:=st
  refine uw hh hI ho hd hf (fun A E Q' q=>Ah b ho hd hf ?_) fun h' kp=>hQ h' s.toks fun c oc nc ec=>kp c oc (fun z=>nc (by simp [z])) ec
  rw [Array.getElem?_eq_none (by simp)]
  exact q
 self:=fun i s Q E st hQ=>let ⟨⟨_,hI⟩,_⟩:=st; yI hI hQ
theorem M5 (hh:A.handled=none) (b:byT w=false) (d:(!t.plain && decide (es.size > 1))=false) (tb:Tb (!byT w) t) (hd:o.data=.set es ep t) (hf:t.fits es.size=true) (ne:a≠I) :
  Walks prog w A I [I,a] [I] (es.toList.map (·.2)).length (fun i v=>(es.toList.map (·.2))[i]?=some v)
   (fun i h=>(∃ sl:Nat,SetTable.below t.place sl=i/\h.get? I=some (wO (.int sl 0) i a es.size ep))/\h.get? a=some o) where
 sub:=fun b hb=>List.mem_singleton.mp hb ▸ List.mem_cons_self
 frame:=fun i h h' st hk=>⟨let ⟨sl,e1,e⟩:=st.1; ⟨sl,e1,hk I (by simp) _ e⟩,hk a (by simp) _ st.2⟩
 item:=fun i s _ _ hi st hQ=>by
  obtain ⟨⟨sl,e1,hI⟩,ho⟩:=st
  have hi':i < es.size:=by simpa using hi
  have hl:t.led=true:=by rw [tb.2,b]; rfl
  have hp:t.place.size=es.size:=by
   simp only [SetTable.fits,Bool.and_eq_true,beq_iff_eq,decide_eq_true_eq] at hf
   exact hf.1
  have hip:i < t.place.size:=by omega
  refine uJ (x:=(es[i]).2) (nx:=t.place.getD i 0 + 1) hI ho hd hf (fun A E Q' q=>DQ b d hl ho hd hf ?_) fun h' e sb=>hQ _ h' s.toks ?_ ⟨⟨t.place.getD i 0 + 1,IW tb.1 hip,e⟩,(sb.2 a ne).trans ho⟩ fun c oc nc ec=>(sb.2 c (fun z=>nc (by simp [z]))).trans ec
  ·rw [Int.toNat_natCast,e1,Array.getElem?_eq_getElem hi',Array.getElem?_eq_getElem hip]
   rw [Array.getD_eq_getD_getElem?,Array.getElem?_eq_getElem hip] at q
   exact q
  ·rw [List.getElem?_map,Array.getElem?_toList,Array.getElem?_eq_getElem hi']
   rfl
 done:=fun s Q E st hQ=>by
  obtain ⟨⟨sl,e1,hI⟩,ho⟩:=st
  have hl:t.led=true:=by rw [tb.2,b]; rfl
  refine uw hh hI ho hd hf (fun A E Q' q=>DQ b d hl ho hd hf ?_) fun h' kp=>hQ h' s.toks fun c oc nc ec=>kp c oc (fun z=>nc (by simp [z])) ec
  rw [Int.toNat_natCast,e1,Array.getElem?_eq_none (by simp)]
  exact q
 self:=fun i s Q E st hQ=>let ⟨⟨_,_,hI⟩,_⟩:=st; yI hI hQ
theorem HF {tp:Addr} {c:Nat} {ps:List Nat} (hh:A.handled=none) (pm:ps.Perm (List.range es.size)) (hd:o.data=.set es ep t) (hf:t.fits es.size=true) (ne:a≠I) (nt:tp≠I) :
  Walks prog w A I [I,a,tp] [I] (ps.map fun i=>(es.getD i (0,.none)).2).length (fun i v=>(ps.map fun i=>(es.getD i (0,.none)).2)[i]?=some v)
   (fun i h=>h.get? I=some (wO (.ref tp) i a es.size ep)/\h.get? a=some o/\h.get? tp=some { cls:=.type "tuple",dict:=none,data:=.seq (ps.map fun (i:Nat)=>rawInt i).toArray c,slots:=#[] }) where
 sub:=fun b hb=>List.mem_singleton.mp hb ▸ List.mem_cons_self
 frame:=fun i h h' st hk=>⟨hk I (by simp) _ st.1,hk a (by simp) _ st.2.1,hk tp (by simp) _ st.2.2⟩
 item:=fun i s _ _ hi st hQ=>by
  obtain ⟨hI,ho,ht⟩:=st
  rw [List.length_map] at hi
  have hm:ps[i] < es.size:=List.mem_range.mp (pm.mem_iff.mp (List.getElem_mem hi))
  refine BZ (x:=(es[ps[i]]).2) (hk:=(es[ps[i]]).1) hI ho hd hf ht (List.getElem?_eq_getElem hi) (Array.getElem?_eq_getElem hm) fun h' e sb=>hQ _ h' s.toks ?_ ⟨e,(sb.2 a ne).trans ho,(sb.2 tp nt).trans ht⟩ fun c oc nc ec=>(sb.2 c (fun z=>nc (by simp [z]))).trans ec
  rw [List.getElem?_map,List.getElem?_eq_getElem hi,Option.map_some,Array.getD_eq_getD_getElem?,Array.getElem?_eq_getElem hm]
  rfl
 done:=fun s Q E st hQ=>by
  obtain ⟨hI,ho,ht⟩:=st
  exact Dk hh hI ho hd hf ht (List.getElem?_eq_none (by rw [List.length_map]; exact Nat.le_refl _)) fun h' kp=>hQ h' s.toks fun c oc nc ec=>kp c oc (fun z=>nc (by simp [z])) ec
 self:=fun i s Q E st hQ=>yI st.1 hQ
theorem HS (es:Array (Int×Value)):(List.range es.size).map (fun i=>(es.getD i (0,Value.none)).2)=es.toList.map (·.2):=by
 apply List.ext_getElem?
 intro i
 rw [List.getElem?_map,List.getElem?_map,Array.getElem?_toList (xs:=es)]
 by_cases h:i < es.size
 ·rw [List.getElem?_eq_getElem (by rw [List.length_range]; exact h),List.getElem_range,Option.map_some,Array.getD_eq_getD_getElem?,Array.getElem?_eq_getElem h]
  rfl
 ·rw [List.getElem?_eq_none (by rw [List.length_range]; omega),Array.getElem?_eq_none (by omega)]
  rfl
theorem NT (hh:A.handled=none) (ho:s.heap.get? a=some o) (hx:o.ExactSet) (hd:o.data=.set es ep t) (hf:t.fits es.size=true) (hb:es.size < scanBound) (tb:Tb (!byT w) t) {Q:Value->Shared->Prop}
  (h:∀ (h':Heap) (d':Drawn) (I:Addr) (fp:List Addr) (vs:List Value) (St:Nat->Heap->Prop),(∀ b o,s.heap.get? b=some o->h'.get? b=some o)->s.heap.objs.size<=I->(∀ b∈fp,b=a∨s.heap.objs.size<=b)->vs.Perm (es.toList.map (·.2)) ->
   (∀ A:Around,A.handled=none->Walks prog w A I fp [I] vs.length (fun i v=>vs[i]?=some v) St)->St 0 h'->Q (.ref I) { s with heap:=h',drawn:=d' }):wpAny (model prog w) A (pyIter (.ref a)) Q E s:=by
 have hT:s.TypeIs (.ref a) "set":=⟨o,ho,hx.1⟩
 have la:=Heap.lt_size ho
 refine wpAny_pyIter_slot hT PySem.F.slot_set_iter (wpAny_call_entry PySem.F.slot_set_iter hT FZ ?_ (PySem.F.args_set_iter_1 _))
 unfold Builtin.«frozenset.__iter__» Builtin.Frozenset.slot0 Builtin.Frozenset.addrOf Builtin.Frozenset.sizeOf
 refine wpAny_bind (wpAny_bind (wpAny_pure (wpAny_pure (wpAny_bind (wpAny_bind (wpAny_setEntries_of ho hd hf (wpAny_pure ?_)))))))
 refine wpAny_bind ?_
 unfold setDrawn
 refine wpAny_bind (wpAny_setState_of ho hd hf (wpAny_bind (wpAny_bind (wpAny_askSetting (wpAny_pure (wpAny_pure ?_))))))
 show wpAny _ _ (if (!byT w && (!t.plain && decide (es.size > 1)))=true then _ else _) _ _ _
 cases hc:(!byT w && (!t.plain && decide (es.size > 1))) with
 | false =>
  rw [if_neg Bool.false_ne_true]
  refine wpAny_bind (wpAny_pure (wpAny_bind ?_))
  unfold setEpoch
  refine wpAny_bind (wpAny_setState_of ho hd hf (wpAny_pure ?_))
  refine wpAny_bind (wpAny_newObj_type (wpAny_pure ⟨_,rfl,"set_iterator",_,⟨_,Heap.get?_push_size _ rfl,rfl⟩,sl_sit_next.lookup,?_⟩))
  have nI:a≠s.heap.objs.size:=Nat.ne_of_lt la
  have fpok:∀ b∈[s.heap.objs.size,a],b=a∨s.heap.objs.size<=b:=fun b hb=>by
   simp only [List.mem_cons,List.not_mem_nil,or_false] at hb
   rcases hb with z | z
   ·exact .inr (Nat.le_of_eq z.symm)
   ·exact .inl z
  cases hT:byT w with
  | true =>
   refine h _ s.drawn s.heap.objs.size [s.heap.objs.size,a] _ _ (fun b o e=>Heap.get?_push_of_some _ e) (Nat.le_refl _) fpok ((Kf (w.params.setOrder a ep) es).map _) (fun A hA=>Ka hA hT hd hf nI) ⟨⟨0,Heap.get?_push_size _ rfl⟩,Heap.get?_push_of_some _ ho⟩
  | false =>
   have hc':(!t.plain && decide (es.size > 1))=false:=by rw [hT] at hc; exact hc
   refine h _ s.drawn s.heap.objs.size [s.heap.objs.size,a] _ _ (fun b o e=>Heap.get?_push_of_some _ e) (Nat.le_refl _) fpok (.refl _) (fun A hA=>M5 hA hT hc' tb hd hf nI) ⟨⟨0,Jf tb.1,Heap.get?_push_size _ rfl⟩,Heap.get?_push_of_some _ ho⟩
 | true =>
  rw [if_pos rfl]
  refine wpAny_bind (Jl es.size (List.range es.size) s _ (by rw [List.length_range]) fun ps d' pm=>wpAny_bind ?_)
  refine wpAny_newTuple (wpAny_bind ?_) ?_
  ·unfold setEpoch
   have ho':(s.heap.push { cls:=.type "tuple",data:=.seq (ps.map fun (i:Nat)=>rawInt i).toArray }).get? a=some o:=Heap.get?_push_of_some _ ho
   refine wpAny_bind (wpAny_setState_of ho' hd hf (wpAny_pure ?_))
   refine wpAny_bind (wpAny_newObj_type (wpAny_pure ⟨_,rfl,"set_iterator",_,⟨_,Heap.get?_push_size _ rfl,rfl⟩,sl_sit_next.lookup,?_⟩))
   have sz:(s.heap.push { cls:=.type "tuple",data:=.seq (ps.map fun (i:Nat)=>rawInt i).toArray }).objs.size=s.heap.objs.size + 1:=Heap.size_push ..
   refine h _ d' (s.heap.push { cls:=.type "tuple",data:=.seq (ps.map fun (i:Nat)=>rawInt i).toArray }).objs.size [(s.heap.push { cls:=.type "tuple",data:=.seq (ps.map fun (i:Nat)=>rawInt i).toArray }).objs.size,a,s.heap.objs.size] (ps.map fun i=>(es.getD i (0,.none)).2) _
    (fun b o e=>Heap.get?_push_of_some _ (Heap.get?_push_of_some _ e)) (by rw [sz]; exact Nat.le_succ _) (fun b hb=>?_) ?_ (fun A hA=>HF (c:=0) hA pm hd hf (by rw [sz]; exact Nat.ne_of_lt (Nat.lt_succ_of_lt la)) (by rw [sz]; exact Nat.ne_of_lt (Nat.lt_succ_self _)))
    ⟨Heap.get?_push_size _ rfl,Heap.get?_push_of_some _ ho',Heap.get?_push_of_some _ (Heap.get?_push_size _ rfl)⟩
   ·simp only [List.mem_cons,List.not_mem_nil,or_false] at hb
    rcases hb with z | z | z
    ·exact .inr (by rw [z,sz]; exact Nat.le_succ _)
    ·exact .inl z
    ·exact .inr (Nat.le_of_eq z.symm)
   ·exact (pm.map _).trans (by rw [HS])
  ·rw [List.length_map,pm.length_eq,List.length_range]
   exact fits_of_scanBound hb
end
end GX
namespace GX
open PySem PyProof.Rows
theorem zm {α:Type} [DecidableEq α]:∀ {l m:List α},l.Nodup->(∀ x∈l,x∈m)->m.length<=l.length->m.Perm l
 | [],m,_,_,h=>by
  have e:m=[]:=List.eq_nil_of_length_eq_zero (Nat.le_zero.mp h)
  rw [e]
 | x :: l,m,nd,sub,h=>by
  rw [List.nodup_cons] at nd
  have hx:=sub x List.mem_cons_self
  have pm:=List.perm_cons_erase hx
  refine pm.trans (List.Perm.cons x (zm nd.2 (fun y hy=>?_) ?_))
  ·have hy':=sub y (List.mem_cons_of_mem _ hy)
   exact (List.mem_erase_of_ne (show y≠x from fun z=>nd.1 (z ▸ hy))).mpr hy'
  ·have:=pm.length_eq
   rw [List.length_cons] at this h
   omega
theorem ww (val:Nat->Int):∀ i,(firstMet val i).Nodup
 | 0=>List.nodup_nil
 | i + 1=>by
  rw [firstMet_succ]
  unfold step_dedup
  have ih:=ww val i
  by_cases h:List.any (firstMet val i) (· == val i)
  ·rw [if_pos h]
   exact ih
  ·rw [if_neg h,List.nodup_append]
   refine ⟨ih,by simp,fun x hx y hy e=>h ?_⟩
   rw [List.any_eq_true]
   refine ⟨x,hx,?_⟩
   have e2:=List.mem_singleton.mp hy
   rw [e,e2,beq_self_eq_true]
theorem Bq (val:Nat->Int) (i:Nat) (k:Int):k∈firstMet val i↔∃ j,j < i/\val j=k:=by
 have h:=firstMet_any val i k
 rw [Bool.eq_iff_iff,List.any_eq_true,List.any_eq_true] at h
 constructor
 ·intro z
  obtain ⟨x,hx,e⟩:=h.mp ⟨k,z,by simp⟩
  obtain ⟨j,hj,ej⟩:=List.mem_map.mp hx
  exact ⟨j,List.mem_range.mp hj,by rw [ej]; simpa using e⟩
 ·rintro ⟨j,hj,e⟩
  obtain ⟨x,hx,e2⟩:=h.mpr ⟨val j,List.mem_map.mpr ⟨j,List.mem_range.mpr hj,rfl⟩,by simp [e]⟩
  have:x=k:=by simpa using e2
  rw [← this]
  exact hx
section
variable {prog:Program} {w:World} {A:Around} {E:Value->Shared->Prop} {s:Shared} {a:Addr} {o:Obj} {es:Array (Int×Value)} {ep:Nat} {t:SetTable}
theorem xQ:∀ {l:List (Int×Value)},ElemsOf (intKind prog w) l->∃ ns,IntsAre (l.map (·.2)) ns/\∀ k,k∈ns↔∃ e∈l,(intKind prog w).is k e.2=true
 | [],_=>⟨[],.nil,fun k=>by simp⟩
 | e :: l,h=>by
  obtain ⟨ns,h1,h2⟩:=xQ h.tail
  obtain ⟨⟨k,hk,_⟩,_⟩:=h.head
  obtain ⟨t,et⟩:=Value.isInt_shape (k:=k) (v:=e.2) hk
  refine ⟨k :: ns,?_,fun j=>?_⟩
  ·rw [List.map_cons,et]
   exact .cons k t h1
  ·rw [List.mem_cons,h2 j]
   constructor
   ·rintro (z | ⟨e',he,q⟩)
    ·exact ⟨e,List.mem_cons_self,by rw [z]; exact hk⟩
    ·exact ⟨e',List.mem_cons_of_mem _ he,q⟩
   ·rintro ⟨e',he,q⟩
    rcases List.mem_cons.mp he with z | z
    ·rw [z] at q
     exact .inl ((intKind prog w).inj e.2 j k q hk)
    ·exact .inr ⟨e',z,q⟩
theorem KQ {vs us:List Value} {ns:List Int} (pm:vs.Perm us) (h:IntsAre us ns):∃ ms,IntsAre vs ms/\ms.Perm ns:=by
 induction pm generalizing ns with
 | nil=>exact ⟨ns,h,.refl _⟩
 | cons x p ih =>
  cases h with
  | cons n t hr =>
   obtain ⟨ms,h1,h2⟩:=ih hr
   exact ⟨n :: ms,.cons n t h1,h2.cons n⟩
 | swap x y l =>
  cases h with
  | cons n t hr =>
   cases hr with
   | cons m u hr=>exact ⟨_,.cons m u (.cons n t hr),List.Perm.swap ..⟩
 | trans p q ih1 ih2 =>
  obtain ⟨ms,h1,h2⟩:=ih2 h
  obtain ⟨ks,h3,h4⟩:=ih1 h1
  exact ⟨ks,h3,h4.trans h2⟩
theorem Nq {Q:Bool->Shared->Prop} (hT:s.TypeIs (.ref a) "set") (h:Q false s):wpAny (model prog w) A (Builtin.List.listLengthHint (.ref a)) Q E s:=by
 show wpAny _ _ (specialOf (.ref a) "__len__" >>= _) _ _ s
 refine wpAny_bind (wpAny_specialOf hT PySem.F.slot_set_len.lookup ?_)
 generalize hid:("set.__len__":String)=id0
 wp_delta
 rw [show splitId id0=some ("set","__len__") from by subst hid; decide +kernel]
 subst hid
 refine wpAny_bind (wpAny_isInstance (T:="set") (b:=true) hT (by rw [isSubtype_type]; kernel_rfl) ?_)
 refine wpAny_ite_split (fun z=>absurd z (by decide)) (fun _=>?_)
 refine wpAny_ite_split (fun _=>?_) (fun z=>absurd (by decide +kernel) z)
 exact wpAny_bind (wpAny_typeOf hT (wpAny_pure h))
theorem enters {id:String} {B:Builtin} {args:Args} {R:Result->Shared->Prop} (he:entryFor table id=some B) (hp:plainId id=true)
  (h:wpAny (model prog w) A.in1 (B args) (fun f s1=>match f with | .done f=>R (.ok f) s1 | .again c=>c.quiet=true/\codeAny (model prog w) A c R s1) (fun e s1=>R (.error e) s1) s):codeAny (model prog w) A (.builtin id args) R s :=
 codeAny_builtin he (by rw [Around.under_plainId hp]; exact h)
theorem Gv {S:Int->Bool} {n:Nat} {R:List Value->Shared->Prop} (hh:A.handled=none) (x:SetI prog w s.heap a S n)
  (h:∀ (h':Heap) (d':Drawn) (tk:Nat) (vs:List Value) (ns:List Int),(∀ b o,s.heap.get? b=some o->h'.get? b=some o)->IntsAre vs ns->ns.length=n->(∀ k,k∈ns↔S k=true)->R vs { s with heap:=h',drawn:=d',toks:=tk }) :
  wpAny (model prog w) A (collect (.ref a)) R E s:=by
 obtain ⟨o,es,ep,t,ho,hx,hd,he,hm,hb,hf,hn,tb⟩:=x
 have la:=Heap.lt_size ho
 unfold collect
 refine wpAny_bind (wpAny_runValue (enters entry_proto_collect' PySem.F.plain_proto_collect (wpAny_bind (wpAny_newObj_type (wpAny_pure ⟨plainId_quiet PySem.F.plain_list_iadd _,enters entry_list_iadd' PySem.F.plain_list_iadd ?_⟩)))))
 have hS1:(s.heap.push { cls:=.type "list",data:=.seq ([]:List Value).toArray }).get? s.heap.objs.size=some { cls:=.type "list",data:=.seq #[] }:=Heap.get?_push_size _ rfl
 have ho1:(s.heap.push { cls:=.type "list",data:=.seq ([]:List Value).toArray }).get? a=some o:=Heap.get?_push_of_some _ ho
 have sz1:(s.heap.push { cls:=.type "list",data:=.seq ([]:List Value).toArray }).objs.size=s.heap.objs.size + 1:=Heap.size_push ..
 have kp1:∀ b ob,s.heap.get? b=some ob->(s.heap.push { cls:=.type "list",data:=.seq ([]:List Value).toArray }).get? b=some ob:=fun b ob e=>Heap.get?_push_of_some _ e
 show wpAny _ A.in1 (Builtin.List.listExtendWith (.ref s.heap.objs.size) (.ref a) (.ref s.heap.objs.size)) _ _ _
 generalize s.heap.push { cls:=.type "list",data:=.seq ([]:List Value).toArray }=H1 at hS1 ho1 sz1 kp1 ⊢
 show wpAny _ _ (typeOf (.ref a) >>= _) _ _ _
 refine wpAny_bind (wpAny_typeOf (T:="set") ⟨o,ho1,hx.1⟩ ?_)
 have n1:Builtin.List.listSameRef (.ref s.heap.objs.size) (.ref a)=false:=by simp [Builtin.List.listSameRef,Nat.ne_of_gt la]
 have n2:(Value.type "set" == Value.type "list")=false:=by decide
 have n3:(Value.type "set" == Value.type "tuple")=false:=by decide
 simp only [n1,n2,n3,Bool.or_false,Bool.false_eq_true,if_false]
 refine wpAny_bind (NT (s:={ s with heap:=H1 }) (A:=A.in1) hh ho1 hx hd hf hb tb fun h2 d2 I fp vs St k2 lI fpk pm W st=>?_)
 refine wpAny_bind (wpAny_holding (Nq (s:={ s with heap:=h2,drawn:=d2 }) ⟨o,k2 _ _ ho1,hx.1⟩ ?_))
 have hS2:=k2 _ _ hS1
 have nf:s.heap.objs.size∉fp:=fun z=>by
  rcases fpk _ z with q | q
  ·exact absurd la (by rw [← q]; exact Nat.lt_irrefl _)
  ·rw [sz1] at q
   exact absurd q (Nat.not_succ_le_self _)
 have hlen:vs.length=n:=by rw [pm.length_eq,List.length_map,Array.length_toList,hn]
 have nz:vs.length<=sizeLine:=by rw [hlen,← hn]; exact fits_of_scanBound hb
 refine wpAny_ite_split (fun _=>?_) (fun z=>absurd (by decide) z)
 refine wpAny_bind (wpAny_rule (wpAny_bind ?_))
 show wpAny _ _ (updateSeq s.heap.objs.size (·.push .none) >>= fun _=>updateSeq s.heap.objs.size (·.pop)) _ _ _
 refine wpAny_bind (wpAny_updateSeq hS2 rfl ?_)
 have hS3:=Heap.get?_update_self (Obj.mapSeq (·.push Value.none)) hS2 rfl
 refine wpAny_updateSeq (hz:=by seq_fits) hS3 rfl ?_
 have hS4:=Heap.get?_update_self (Obj.mapSeq (·.pop)) hS3 rfl
 have oth:∀ b ob,b≠s.heap.objs.size->h2.get? b=some ob->((h2.update s.heap.objs.size (Obj.mapSeq (·.push Value.none))).update s.heap.objs.size (Obj.mapSeq (·.pop))).get? b=some ob:=fun b ob nb e=>(Heap.get?_update_other _ _ (Ne.symm nb)).trans ((Heap.get?_update_other _ _ (Ne.symm nb)).trans e)
 refine wpAny_pure ⟨plainId_quiet PySem.F.plain_extend_loop _,codeAny_extend_loopS (W A.in1 hh).toS nz _ nf _ vs.length 0 _ #[] _ rfl (Nat.zero_le _) ((W A.in1 hh).frame 0 _ _ st fun b hb ob e=>oth b ob (fun z=>nf (z ▸ hb)) e) hS4 (ItemsOf.nil _) fun s' acc c' hmv hS' hacc=>?_⟩
 apply wpAny_bind (wpAny_load hS' _)
 have ea:acc.toList=vs:=by
  apply List.ext_getElem?
  intro j
  rw [Array.getElem?_toList]
  by_cases hj:j < acc.size
  ·rw [Array.getElem?_eq_getElem hj]
   exact (hacc.2 j _ (Array.getElem?_eq_getElem hj)).symm
  ·rw [Array.getElem?_eq_none (by omega),List.getElem?_eq_none (by rw [← hacc.1]; omega)]
 obtain ⟨ns0,q1,q2⟩:=xQ he
 obtain ⟨ns,q3,q4⟩:=KQ pm q1
 have ln:ns.length=n:=by rw [← q3.length,hlen]
 have:=h s'.heap s'.drawn s'.toks vs ns (fun b ob e=>hmv.heap b ob (fun z=>?_) (oth b ob (Nat.ne_of_lt (Heap.lt_size e)) (k2 b ob (kp1 b ob e)))) q3 ln (fun k=>by rw [q4.mem_iff,q2 k,hm k])
 ·obtain ⟨h',g',d',t',os'⟩:=s'
  have eg:g'=s.gens:=hmv.gens
  have eo:os'=s.os:=hmv.os
  subst eg eo
  show wpAny _ A (pure acc.toList) _ _ _
  rw [ea]
  exact wpAny_pure this
 ·have l1:=Heap.lt_size e
  rcases List.mem_cons.mp z with z | z
  ·rw [z] at l1
   exact Nat.lt_irrefl _ l1
  ·rw [List.mem_singleton.mp z] at l1
   have q:H1.objs.size<=I:=lI
   rw [sz1] at q
   exact absurd l1 (Nat.not_lt.mpr (Nat.le_trans (Nat.le_succ _) q))
end
end GX
namespace L2
open PySem PySem.Spec PyProof.Rows
def Qs (P:Program) (w:World) (a:Addr) (ks:List Int):HO:=.ext fun h=>GX.SetI P w h a (fun k=>ks.any (· == k)) ks.length
section
variable {X:Cx}
theorem Inv.draw {pins:List (Addr×Obj)} {σ:St} {H:Hp} {s:Shared} (I:Inv X pins σ H s) (d:Drawn):Inv X pins σ H { s with drawn:=d }:=⟨I.ok,I.os,I.bare,I.base,I.loc,I.cell,I.free,I.freeC,I.pin,I.hok,I.len⟩
theorem Bh (hc:X.calm=true):gC X (.type "set") (fun xs H Q=>∃ (p:Addr) (ns:List Int),xs=[.ref p]/\SqL X.K H p (ns.map V.int)/\ns.length<=1000/\∀ (q:Addr) (ks:List Int),H q=none->ks.Nodup->(∀ k,k∈ks↔k∈ns)->Q (.ref q) (upd H q (Qs X.prog X.w q ks))):=by
 intro pins s σ H xs us Q I r h
 obtain ⟨p,ns,rfl,hq,hz,q⟩:=h
 obtain ⟨u,rfl,rx⟩:=vals1 r
 cases rx
 obtain ⟨its,rv,pl,hzz⟩:=I.list hq
 have hi:IntsAre its ns:=intsAre_of rv
 have hl:its.length=ns.length:=hi.length
 refine GX.Eb (items:=its.toArray) (ns:=ns) (I.ok.hd hc) pl.isList (by simpa using hi) (by rw [List.size_toArray,hl]; unfold scanBound; omega) fun h' tk x kp=>?_
 have sz:its.toArray.size=ns.length:=by rw [List.size_toArray,hl]
 rw [sz] at x
 have new:ObjOk X.prog X.w (upd H s.heap.objs.size (Qs X.prog X.w s.heap.objs.size (firstMet (fun i=>ns.getD i 0) ns.length))) h' s.heap.objs.size (Qs X.prog X.w s.heap.objs.size (firstMet (fun i=>ns.getD i 0) ns.length)):=by
  refine ⟨x,?_,fun h1 h2 y k=>y.at k⟩
  obtain ⟨o,_,_,_,ho,_⟩:=x
  exact ⟨o,ho⟩
 refine ⟨.ref s.heap.objs.size,_,I.laid (t':=tk) kp (Nat.le_refl _) new,rfl,q _ _ (I.hok.fresh (Nat.le_refl _)) (GX.ww _ _) fun k=>?_⟩
 rw [GX.Bq]
 constructor
 ·rintro ⟨j,hj,e⟩
  rw [List.getD_eq_getElem?_getD,List.getElem?_eq_getElem hj] at e
  have e':ns[j]=k:=e
  rw [← e']
  exact List.getElem_mem hj
 ·intro hk
  obtain ⟨j,hj,e⟩:=List.getElem_of_mem hk
  refine ⟨j,hj,?_⟩
  rw [List.getD_eq_getElem?_getD,List.getElem?_eq_getElem hj]
  exact e
theorem uX (hc:X.calm=true):gC X (.builtin "sorted") (fun xs H Q=>∃ (a:Addr) (ks:List Int),xs=[.ref a]/\H a=some (Qs X.prog X.w a ks)/\ks.Nodup/\ks.length < 64/\∀ (l:Addr) (ns:List Int),H l=none->ns.Perm ks->ns.Pairwise (·<=·)->Q (.ref l) (upd H l (.lst (ns.map V.int)))):=by
 intro pins s σ H xs us Q I r h
 obtain ⟨a,ks,rfl,ha,nd,hlen,q⟩:=h
 obtain ⟨u,rfl,rx⟩:=vals1 r
 cases rx
 have x:GX.SetI X.prog X.w s.heap a (fun k=>ks.any (· == k)) ks.length:=(I.hok a _ ha).1
 refine GX.vM (args_sorted1 _) (GX.Gv (A:=X.A.in1) (I.ok.hd hc) x fun h' d' tk vs ns hk hi hl hm=>?_)
 have pm:ns.Perm ks:=GX.zm nd (fun k hk=>(hm k).mpr (List.any_eq_true.mpr ⟨k,hk,by simp⟩)) (Nat.le_of_eq hl)
 have hv:vs.length=ks.length:=by rw [hi.length,hl]
 have I1:Inv X pins σ H { s with heap:=h',drawn:=d',toks:=tk }:=(I.draw d').kept (t':=tk) hk
 refine Ba (s:={ s with heap:=h',drawn:=d',toks:=tk }) hi (by rw [hv]; exact hlen) (by rw [hv]; exact Nat.le_of_lt (aJ (by omega))) fun h2 out ns' e k2 he a1 a2 a3=>?_
 have ln:ns'.length<=sizeLine:=by rw [a2.length_eq,hl]; exact Nat.le_of_lt (aJ (by omega))
 exact ⟨.ref h'.objs.size,_,I1.lay_ints (tk:=tk) k2 he a1 ln,rfl,q _ ns' (I1.hok.fresh (Nat.le_refl _)) (a2.trans pm) a3⟩
theorem Hk (hc:X.calm=true):gC X (.type "list") (fun xs H Q=>∃ (d:Addr) (m:List (Int×Int)),xs=[.ref d]/\Rd H d (.dK (dI m))/\m.length<=1000/\∀ (l:Addr),H l=none->Q (.ref l) (upd H l (.lst ((m.map (·.1)).map V.int)))):=by
 intro pins s σ H xs us Q I r h
 obtain ⟨d,m,rfl,hd,hlen,q⟩:=h
 obtain ⟨u,rfl,rx⟩:=vals1 r
 cases rx
 obtain ⟨z,hS,vs,rel,dd⟩:=uG I.hok hd
 obtain ⟨ep,hat⟩:=dd.dictAt
 have hl:vs.length=m.length:=by rw [← rel.length,Dr]
 refine PySem.W.kdl_call (A:=X.A) (PySem.W.kdl_dict (knd:=bI X.prog X.w) (kvs:=vs) (ep:=ep) hS) (I.ok.hd hc) hat (by rw [hl]; exact Nat.le_of_lt (aJ (by omega))) fun h' tk acc c hk he hacc=>?_
 have hi:IntsAre acc.toList (m.map (·.1)):=vA (P:=X.prog) (w:=X.w) rel (by rw [Array.length_toList]; exact hacc.1) fun j v e=>hacc.2 j v (by rw [← Array.getElem?_toList]; exact e)
 exact ⟨.ref s.heap.objs.size,_,I.lay_ints (tk:=tk) (e:=c) hk he hi (by rw [List.length_map]; exact Nat.le_of_lt (aJ (by omega))),rfl,q _ (I.hok.fresh (Nat.le_refl _))⟩
end
end L2
namespace GX
open PySem PyProof.Rows
section
variable {prog:Program} {w:World} {A:Around} {E:Value->Shared->Prop} {s:Shared} {I:Addr} {fp wr:List Addr} {N:Nat} {P:Nat->Value->Prop} {St:Nat->Heap->Prop}
end
end GX
namespace L2
open PySem PySem.Spec PyProof.Rows
section
variable {X:Cx}
abbrev Dcs (H:Hp):List V->List (List (Int×Int))->Prop:=Paired fun x m=>∃ d,x=.ref d/\Rd H d (.dK (dI m))
theorem Dcs.get {H:Hp}:∀ {xs:List V} {ms:List (List (Int×Int))} {i:Nat} {x:V},Dcs H xs ms->xs[i]?=some x->∃ m,ms[i]?=some m/\∃ d,x=.ref d/\Rd H d (.dK (dI m))
 | _,_,_,_,.nil,e=>by simp at e
 | _,_,0,_,.cons r _,e=>by simp at e; subst e; exact ⟨_,rfl,r⟩
 | _,_,i + 1,x,.cons _ t,e=>by
  obtain ⟨p,h1,h2⟩:=Dcs.get (i:=i) (x:=x) t (by simpa using e)
  exact ⟨p,by simpa using h1,h2⟩
end
end L2
namespace L2
open PySem PySem.Spec PyProof.Rows
section
variable {X:Cx}
end
end L2
namespace L2
open PySem PySem.Spec PyProof.Rows
mutual
inductive Dp (K:PySem.W.Frag) (H:Hp):V->PyData->Prop
 | none:Dp K H .non .none
 | bool (b:Bool):Dp K H (.bl b) (.bool b)
 | int (i:Int):Dp K H (.int i) (.int i)
 | str (x:Str):Dp K H (.str x) (.str x)
 | tup {a:Addr} {xs:List V} {ds:List PyData}:SqT K H a xs->Dps K H xs ds->Dp K H (.ref a) (.tuple ds)
inductive Dps (K:PySem.W.Frag) (H:Hp):List V->List PyData->Prop
 | nil:Dps K H [] []
 | cons {x:V} {xs:List V} {d:PyData} {ds:List PyData}:Dp K H x d->Dps K H xs ds->Dps K H (x :: xs) (d :: ds)
end
def SmT (K:PySem.W.Frag) (H H':Hp):Prop:=∀ a xs,SqT K H a xs->SqT K H' a xs
theorem SmT.same {K:PySem.W.Frag} {H H':Hp} (e:Same H H'):SmT K H H':=by
 rintro a xs ((h | ⟨o,h⟩) | h)
 ·exact .inl (.inl (e _ _ h))
 ·exact .inl (.inr ⟨o,e _ _ h⟩)
 ·exact .inr h
section
variable {X:Cx} {pins:List (Addr×Obj)} {σ:St} {H:Hp} {s:Shared}
mutual
theorem Dp.reads (I:Inv X pins σ H s):∀ {x:V} {d:PyData} {u:Value},Dp X.K H x d->RelV x u->∃ as,Reads s.heap u d as
 | _,_,_,.none,r=>by cases r; exact ⟨_,.none⟩
 | _,_,_,.bool b,r=>by cases r; exact ⟨_,.bool b⟩
 | _,_,_,.int i,r=>by obtain ⟨t,rfl⟩:=r; exact ⟨_,.int i t⟩
 | _,_,_,.str z,r=>by obtain ⟨t,rfl⟩:=r; exact ⟨_,.str z t⟩
 | _,_,_,.tup h t,r=>by
  cases r
  obtain ⟨its,rv,⟨o,e,c,n,dd⟩,_⟩:=I.tuple h
  obtain ⟨as,q⟩:=Dps.reads I t rv
  exact ⟨_,.tuple e c dd (by simpa using q)⟩
theorem Dps.reads (I:Inv X pins σ H s):∀ {xs:List V} {ds:List PyData} {us:List Value},Dps X.K H xs ds->Vals xs us->∃ as,ReadsAll s.heap us ds as
 | _,_,_,.nil,r=>by cases r; exact ⟨_,.nil⟩
 | _,_,_,.cons h t,r=>by
  cases r with
  | cons r1 r2 =>
   obtain ⟨as,q⟩:=Dp.reads I h r1
   obtain ⟨bs,q2⟩:=Dps.reads I t r2
   exact ⟨_,.cons q q2⟩
end
def Dl (K:PySem.W.Frag) (H:Hp) (x:V) (d:PyData):Prop:=Dp K H x d∨∃ a xs ds,x=.ref a/\d=.list ds/\SqL K H a xs/\Dps K H xs ds
theorem Dl.reads (I:Inv X pins σ H s) {x:V} {d:PyData} {u:Value} (h:Dl X.K H x d) (r:RelV x u):∃ as,Reads s.heap u d as:=by
 rcases h with h | ⟨a,xs,ds,rfl,rfl,h,t⟩
 ·exact Dp.reads I h r
 ·cases r
  obtain ⟨its,rv,⟨o,n,e,c,_,dd⟩,_⟩:=I.list h
  obtain ⟨as,q⟩:=Dps.reads I t rv
  exact ⟨_,.list e c dd (by simpa using q)⟩
def Q5 (K:PySem.W.Frag):R2:=fun x y H Q=>∃ d e,Dl K H x d/\Dl K H y e/\d.canLay0=true/\e.canLay0=true/\min d.depth e.depth<=60/\Q (.bl (d.eqv e)) H
def RX (K:PySem.W.Frag):R2:=fun x y H Q=>∃ d e,Dl K H x d/\Dl K H y e/\d.canLay0=true/\e.canLay0=true/\min d.depth e.depth<=60/\Q (.bl (!d.eqv e)) H
theorem RT (hu:X.A.units + 64 < cLine):OpR X (compareOp .Eq) (Q5 X.K):=by
 intro pins s σ H x y v u Q I rx ry h
 obtain ⟨d,e,h1,h2,c1,c2,dp,q⟩:=h
 obtain ⟨as,r1⟩:=h1.reads I rx
 obtain ⟨bs,r2⟩:=h2.reads I ry
 exact SeqAt.compareEq_reads r1 r2 c1 c2 (by omega) ⟨.bl _,H,I,rfl,q⟩
theorem QG (hu:X.A.units + 64 < cLine):OpR X (compareOp .NotEq) (RX X.K):=by
 intro pins s σ H x y v u Q I rx ry h
 obtain ⟨d,e,h1,h2,c1,c2,dp,q⟩:=h
 obtain ⟨as,r1⟩:=h1.reads I rx
 obtain ⟨bs,r2⟩:=h2.reads I ry
 exact SeqAt.compareNe_reads r1 r2 c1 c2 (by omega) ⟨.bl _,H,I,rfl,q⟩
def Og (K:PySem.W.Frag) (neg:Bool):R2:=fun x y H Q=>∃ a xs ds d,y=.ref a/\(SqL K H a xs∨SqT K H a xs)/\Dps K H xs ds/\Dp K H x d/\PyData.canLayAll0 ds=true/\d.canLay0=true/\d.depth<=60/\Q (.bl (if neg then !(ds.any fun z=>z.eqv d) else ds.any fun z=>z.eqv d)) H
theorem Yc (hu:X.A.units + 64 < cLine):OpR X (compareOp .In) (Og X.K false):=by
 intro pins s σ H x y v u Q I rx ry h
 obtain ⟨a,xs,ds,d,rfl,hs,hd,hx,c1,c2,dp,q⟩:=h
 obtain ⟨bs,r2⟩:=hx.reads I rx
 cases ry
 rcases hs with hs | hs
 ·obtain ⟨as,r1⟩:=Dl.reads I (x:=.ref a) (u:=.ref a) (.inr ⟨a,xs,ds,rfl,rfl,hs,hd⟩) rfl
  exact SeqAt.in_list_reads r1 r2 c1 c2 (by omega) ⟨.bl _,H,I,rfl,q⟩
 ·obtain ⟨as,r1⟩:=Dp.reads I (x:=.ref a) (u:=.ref a) (.tup hs hd) rfl
  exact SeqAt.in_tuple_reads r1 r2 c1 c2 (by omega) ⟨.bl _,H,I,rfl,q⟩
theorem Ls (hu:X.A.units + 64 < cLine):OpR X (compareOp .NotIn) (Og X.K true):=by
 intro pins s σ H x y v u Q I rx ry h
 obtain ⟨a,xs,ds,d,rfl,hs,hd,hx,c1,c2,dp,q⟩:=h
 obtain ⟨bs,r2⟩:=hx.reads I rx
 cases ry
 rcases hs with hs | hs
 ·obtain ⟨as,r1⟩:=Dl.reads I (x:=.ref a) (u:=.ref a) (.inr ⟨a,xs,ds,rfl,rfl,hs,hd⟩) rfl
  exact SeqAt.notIn_list_reads r1 r2 c1 c2 (by omega) ⟨.bl _,H,I,rfl,q⟩
 ·obtain ⟨as,r1⟩:=Dp.reads I (x:=.ref a) (u:=.ref a) (.tup hs hd) rfl
  exact SeqAt.notIn_tuple_reads r1 r2 c1 c2 (by omega) ⟨.bl _,H,I,rfl,q⟩
end
theorem Wn {K:PySem.W.Frag} {x y:V} {H:Hp} {Q:VK} {d:PyData} (h1:Dl K H x d) (h2:Dl K H y d) (c:d.canLay0=true) (dp:d.depth<=60) (q:Q (.bl true) H):Q5 K x y H Q :=
 ⟨d,d,h1,h2,c,c,by omega,by rw [SeqAt.eqv_refl d c]; exact q⟩
theorem Af {K:PySem.W.Frag} {x y:V} {H:Hp} {Q:VK} {d:PyData} (h1:Dl K H x d) (h2:Dl K H y d) (c:d.canLay0=true) (dp:d.depth<=60) (q:Q (.bl false) H):RX K x y H Q :=
 ⟨d,d,h1,h2,c,c,by omega,by rw [SeqAt.eqv_refl d c]; exact q⟩
end L2
namespace L2
open PySem PySem.Spec PyProof.Rows
theorem aH {H:Hp} {l:Addr} {o:HO} (h:H l=none):Same H (upd H l o):=fun b u e=>by rw [aF (aD e h)]; exact e
def But (d:Addr) (H H':Hp):Prop:=∀ b,b≠d->H' b=H b
theorem But.upd {d:Addr} {H:Hp} {o:HO}:But d H (L2.upd H d o):=fun b h=>aF h
theorem But.same {d:Addr} {B H H':Hp} (e:But d H H') (s:Same B H) (h:B d=none):Same B H':=fun b o hb=>by rw [e b (aD hb h)]; exact s b o hb
theorem But.at {d b:Addr} {H H':Hp} {o:Option HO} (e:But d H H') (n:b≠d) (h:H b=o):H' b=o:=by rw [e b n]; exact h
theorem But.of {d b:Addr} {H H':Hp} {o u:HO} (e:But d H H') (hd:H d=some u) (h:H b=some o) (n:o≠u):H' b=some o:=e.at (jM h hd n) h
def nwT (xs:List V) (H:Hp) (Q:VK):Prop:=xs.length<=sizeLine/\∀ p,H p=none->Q (.ref p) (upd H p (.tup xs))
def nwL (xs:List V) (H:Hp) (Q:VK):Prop:=xs.length<=sizeLine/\∀ p,H p=none->Q (.ref p) (upd H p (.lst xs))
section
variable {D:Ends} {σ:St} {H:Hp} {Q:VK} {K:PySem.W.Frag}
theorem S5 {t u:TS} (h:t { D with nx:=u D } σ H):yC t u D σ H:=h
theorem Uw {te:TE} {g:TG} {u:TS} (h:te σ H fun x H1=>g x σ H1 (u D)):yC (Oo te g) u D σ H:=h
theorem UL {te:TE} {u:TS} (h:te σ H fun _ H1=>u D σ H1):yC (Pa te) u D σ H:=h
theorem Vx {td ty tv:TE} {u:TS} (h:J6 td ty tv { D with nx:=u D } σ H):yC (J6 td ty tv) u D σ H:=h
theorem Uz {wi:TI} {g:TG} {tb u:TS} (h:RQ wi g tb { D with nx:=u D } σ H):yC (RQ wi g tb) u D σ H:=h
theorem UJ {c:TT} {tb u:TS} (h:HJ c tb { D with nx:=u D } σ H):yC (HJ c tb) u D σ H:=h
theorem Ue {ta tv:TE} {f:Str} {u:TS} (h:M8 K ta tv f { D with nx:=u D } σ H):yC (M8 K ta tv f) u D σ H:=h
theorem Vg {c:TT} {te:TE} {u:TS} (h:c σ H fun b H1=>if b=true then te σ H1 D.rt else u D σ H1):yC (RL c (U0 te) JB) u D σ H:=h
theorem Fy (I:St->Hp->Prop) {t u:TS} (h2:∀ σ' H',I σ' H'->u D σ' H') (h:∀ N:St->Hp->Prop,(∀ σ' H',I σ' H'->N σ' H')->t { D with nx:=N } σ H):yC t u D σ H:=h _ h2
theorem Uj (h:D.nx σ H):JB D σ H:=h
theorem Xd {te:TE} (h:te σ H D.rt):U0 te D σ H:=h
theorem Vv {te:TE} (h:te σ H fun _ H1=>D.nx σ H1):Pa te D σ H:=h
theorem XS {te:TE} {g:TG} (h:te σ H fun x H1=>g x σ H1 D.nx):Oo te g D σ H:=h
theorem X3 {c:TT} {t u:TS} (h:c σ H fun b H1=>if b=true then t D σ H1 else u D σ H1):RL c t u D σ H:=h
theorem Vf {i:Nat} {v:V} {R:St->Hp->Prop} (h:R (σ.set i (some v)) H):yj i v σ H R:=h
theorem Uh {R:St->Hp->Prop} (h:R σ H):V7 [] σ H R:=⟨rfl,h⟩
theorem Q4 {t:TG} {u:TGs} {v:V} {r:List V} {R:St->Hp->Prop} (h:t v σ H fun σ' H'=>u r σ' H' R):Ji t u (v :: r) σ H R:=⟨v,r,rfl,h⟩
theorem Vh {n:Nat} {t:TGs} {a:Addr} {xs:List V} {R:St->Hp->Prop} (h1:SqT K H a xs) (h2:xs.length=n) (h:t xs σ H R):QV K n t (.ref a) σ H R:=⟨a,xs,rfl,h1,h2,h⟩
theorem Xo {i:Nat} {v:V} (h1:σ[i]?=some (some v)) (h:Q v H):Lg i σ H Q:=⟨v,h1,h⟩
theorem x_c {v:V} (h:Q v H):tC v σ H Q:=h
theorem Yl {r:R2} {ta tb:TE} (h:ta σ H fun x H1=>tb σ H1 fun y H2=>r x y H2 Q):tOp r ta tb σ H Q:=h
theorem Ym {r:V->Hp->VK->Prop} {ta:TE} (h:ta σ H fun x H1=>r x H1 Q):tUn r ta σ H Q:=h
theorem Yn {g:Int->Int->V} {i j:Int} (h:Q (g i j) H):rI0 g (.int i) (.int j) H Q:=⟨i,j,rfl,rfl,h⟩
theorem x_I {C:Int->Int->Prop} {g:Int->Int->V} {i j:Int} (hc:C i j) (h:Q (g i j) H):rI C g (.int i) (.int j) H Q:=⟨i,j,rfl,rfl,hc,h⟩
theorem x_U {g:Int->V} {i:Int} (h:Q (g i) H):rU g (.int i) H Q:=⟨i,rfl,h⟩
theorem W0 (i j:Int):decide (V.int i=V.int j)=decide (i=j):=by
 by_cases h:i=j
 ·subst h; rw [decide_eq_true rfl,decide_eq_true rfl]
 ·rw [decide_eq_false h,decide_eq_false (fun e=>h (V.int.inj e))]
theorem XJ (i j:Str):decide (V.str i=V.str j)=decide (i=j):=by
 by_cases h:i=j
 ·subst h; rw [decide_eq_true rfl,decide_eq_true rfl]
 ·rw [decide_eq_false h,decide_eq_false (fun e=>h (V.str.inj e))]
theorem Xe {i j:Int} (h:Q (.bl (decide (i=j))) H):rEq (.int i) (.int j) H Q:=⟨rfl,by rw [W0]; exact h⟩
theorem WL {i j:Int} (h:Q (.bl (!decide (i=j))) H):rNe (.int i) (.int j) H Q:=⟨rfl,by rw [W0]; exact h⟩
theorem W4 {i j:Str} (h:Q (.bl (decide (i=j))) H):rEq (.str i) (.str j) H Q:=⟨rfl,by rw [XJ]; exact h⟩
theorem Xl {i j:Str} (h:Q (.bl (!decide (i=j))) H):rNe (.str i) (.str j) H Q:=⟨rfl,by rw [XJ]; exact h⟩
theorem Us {t:TE} {R:Bool->Hp->Prop} (h:t σ H fun x H'=>∃ k,x=.bl k/\R k H'):N7 t σ H R:=h
theorem XF {t:TE} {R:Bool->Hp->Prop} (h:t σ H fun x H'=>∃ k,Nx K x H' k/\R k H'):Xq K t σ H R:=h
theorem x_b {t:TE} {R:Bool->Hp->Prop} (h:t σ H fun x H'=>∃ k,x=.bl k/\R k H'):tB t σ H R:=h
theorem U4 {c:Bool} {P:Bool->Prop} (h:P c):∃ k,V.bl c=.bl k/\P k:=⟨c,rfl,h⟩
theorem Ri {c:Bool} {P:Bool->Prop} (h:P c):∃ k,Nx K (.bl c) H k/\P k:=⟨c,rfl,h⟩
theorem Wz {t u:TT} {R:Bool->Hp->Prop} (h:t σ H fun c H1=>if c=true then u σ H1 R else R false H1):WX t u σ H R:=h
theorem Yr {t u:TT} {R:Bool->Hp->Prop} (h:t σ H fun c H1=>if c=true then R true H1 else u σ H1 R):tOr t u σ H R:=h
theorem XN {t:TT} {R:Bool->Hp->Prop} (h:t σ H fun c H1=>R (!c) H1):Xj t σ H R:=h
theorem T8 {ta tb:TE} (h:ta σ H fun x H1=>∃ c,x=.bl c/\if c=true then tb σ H1 Q else Q (.bl false) H1):Sy ta tb σ H Q:=h
theorem Xu {ta tb:TE} (h:ta σ H fun x H1=>∃ c,x=.bl c/\if c=true then Q (.bl true) H1 else tb σ H1 Q):Xp ta tb σ H Q:=h
theorem T5 {ta:TE} (h:ta σ H fun x H1=>∃ c,x=.bl c/\Q (.bl (!c)) H1):TF ta σ H Q:=h
theorem Wq {t:TT} {ta tb:TE} (h:t σ H fun c H1=>if c=true then ta σ H1 Q else tb σ H1 Q):tIf t ta tb σ H Q:=h
theorem Xz {R:List V->Hp->Prop} (h:R [] H):Ig σ H R:=h
theorem TX {ta:TE} {tr:TA} {R:List V->Hp->Prop} (h:ta σ H fun x H1=>tr σ H1 fun xs H2=>R (x :: xs) H2):yE ta tr σ H R:=h
theorem WT {t:TA} (h:t σ H fun xs H1=>nwT xs H1 Q):Ur t σ H Q:=h
theorem Xg {t:TA} (h:t σ H fun xs H1=>nwL xs H1 Q):XQ t σ H Q:=h
theorem Xn {xs:List V} (hl:xs.length<=sizeLine) (h:∀ p H',H p=none->Same H H'->H' p=some (.tup xs)->Q (.ref p) H'):nwT xs H Q:=⟨hl,fun p hp=>h p _ hp (aH hp) az⟩
theorem Xy {xs:List V} (hl:xs.length<=sizeLine) (h:∀ p H',H p=none->Same H H'->H' p=some (.lst xs)->Q (.ref p) H'):nwL xs H Q:=⟨hl,fun p hp=>h p _ hp (aH hp) az⟩
theorem Ua (h:∀ p H',H p=none->Same H H'->H' p=some (.dK (dI []))->Q (.ref p) H'):Oa σ H Q:=fun p hp=>h p _ hp (aH hp) az
theorem x_call {sp:Sp} {dvs:List V} {E:XK} {t:TA} (h:t σ H fun vs H1=>sp (vs ++ dvs) H1 Q E):Jp sp dvs E t σ H Q:=h
theorem Ys {r:List V->Hp->VK->Prop} {t:TA} (h:t σ H fun vs H1=>r vs H1 Q):tCB r t σ H Q:=h
theorem Yp {r:V->Option Int->Option Int->Hp->VK->Prop} {te:TE} {tl th:TO} (h:te σ H fun x H1=>tl σ H1 fun l H2=>th σ H2 fun u H3=>r x l u H3 Q):tSl r te tl th σ H Q:=h
theorem Nz {R:Option Int->Hp->Prop} (h:R none H):JM σ H R:=h
theorem Wc {t:TE} {R:Option Int->Hp->Prop} (h:t σ H fun x H1=>∃ i,x=.int i/\R (some i) H1):Sw t σ H R:=h
theorem Rt {c:Int} {P:Int->Prop} (h:P c):∃ k,V.int c=.int k/\P k:=⟨c,rfl,h⟩
theorem Xf {a:Addr} {xs:List V} {lo hi:Option Int} (h1:SqL K H a xs) (h:∀ p H',H p=none->Same H H'->H' p=some (.lst (dz xs lo hi))->Q (.ref p) H'):We K (.ref a) lo hi H Q:=⟨a,xs,rfl,h1,fun p hp=>h p _ hp (aH hp) az⟩
theorem W8 {a:Addr} {xs:List V} {i:Int} {v:V} (h1:SqL K H a xs) (h2:atI xs i=some v) (h:Q v H):Rm K (.ref a) (.int i) H Q:=⟨a,xs,i,v,rfl,rfl,h1,h2,h⟩
theorem X5 {a:Addr} {xs:List V} {i:Int} {v:V} (h1:SqT K H a xs) (h2:atI xs i=some v) (h:Q v H):Rw K (.ref a) (.int i) H Q:=⟨a,xs,i,v,rfl,rfl,h1,h2,h⟩
theorem T7 {td ty:TE} (h:td σ H fun x H1=>ty σ H1 fun y H2=>∃ a v,x=.ref a/\DGet H2 a y (some v)/\Q v H2):S6 td ty σ H Q:=h
theorem UW {d:Addr} {m:List (Int×Int)} {k n:Int} {P:V->Prop} (hd:Rd H d (.dK (dI m))) (hk:lkI m k=some n) (h:P (.int n)):∃ a v,V.ref d=.ref a/\DGet H a (.int k) (some v)/\P v :=
 ⟨d,.int n,rfl,.inl ⟨_,Sum.inl k,hd,rfl,by rw [Bt,hk]; rfl⟩,h⟩
theorem Rv {td ty tx:TE} (h:td σ H fun x H1=>∃ a,x=.ref a/\IsD H1 a/\ty σ H1 fun y H2=>tx σ H2 fun z H3=>∃ o,DGet H3 a y o/\Q (o.getD z) H3):Mh td ty tx σ H Q:=h
theorem Wm {d:Addr} {m:List (Int×Int)} {k:Int} {P:Option V->Prop} (hd:Rd H d (.dK (dI m))) (h:P ((lkI m k).map V.int)):∃ o,DGet H d (.int k) o/\P o :=
 ⟨_,.inl ⟨_,Sum.inl k,hd,rfl,(Bt m k).symm⟩,h⟩
theorem JS (o:Option Int) (z:Int):(o.map V.int).getD (V.int z)=V.int (o.getD z):=by cases o <;> rfl
theorem O6 {td ty:TE} (h:ty σ H fun y H1=>td σ H1 fun x H2=>∃ a o,x=.ref a/\DGet H2 a y o/\Q (.bl (!o.isSome)) H2):Jm ty td σ H Q:=h
theorem Vc {td ty tv:TE} (h:tv σ H fun v H1=>td σ H1 fun x H2=>ty σ H2 fun y H3=>∃ a H4,x=.ref a/\DPut H3 a y v H4/\D.nx σ H4):J6 td ty tv D σ H:=h
theorem Ol {d:Addr} {m:List (Int×Int)} {k n:Int} {P:Hp->Prop} (hd:H d=some (.dK (dI m))) (nd:(m.map (·.1)).Nodup) (hl:m.length < sizeLine) (h:∀ H2,But d H H2->H2 d=some (.dK (dI (eY m k n)))->P H2):∃ a H4,V.ref d=.ref a/\DPut H a (.int k) (.int n) H4/\P H4 :=
 ⟨d,_,rfl,.inl ⟨_,Sum.inl k,hd,rfl,by rw [Dr]; exact hl,rfl⟩,h _ .upd (by rw [az,Ph m k n nd])⟩
theorem Xh {wi:TI} {g:TG} {tb:TS} (h:wi σ H fun J H1=>∃ W:Nat->Nat->St->Hp->Prop,(∃ m,W 0 m σ H1)/\∀ i m σ H,W i m σ H ->
 (J.stop i H/\D.nx σ H)∨(J.go i H/\∃ N:St->Hp->Prop,(∀ σ' H',N σ' H'->∃ m',m' < m/\W (i + 1) m' σ' H')/\∀ x H',J.yld i H x H'->g x σ H' fun σ2 H2=>tb { D with nx:=N,ct:=N,bk:=D.nx } σ2 H2)):RQ wi g tb D σ H:=h
theorem Ry {tl:TE} {R:It->Hp->Prop} (h:tl σ H fun x H1=>∃ a,x=.ref a/\(∃ xs,SqL K H1 a xs)/\R (Itl K a) H1):PB K tl σ H R:=h
theorem Vm {a:Addr} {xs:List V} {P:Addr->Prop} (hd:SqL K H a xs) (h:P a):∃ b,V.ref a=.ref b/\(∃ xs,SqL K H b xs)/\P b:=⟨a,rfl,⟨xs,hd⟩,h⟩
theorem VL {tl:TE} {R:It->Hp->Prop} (h:tl σ H fun x H1=>∃ a,x=.ref a/\(∃ xs,SqT K H1 a xs)/\R (Itt K a) H1):Ud K tl σ H R:=h
theorem Ui {a:Addr} {xs:List V} {P:Addr->Prop} (hd:SqT K H a xs) (h:P a):∃ b,V.ref a=.ref b/\(∃ xs,SqT K H b xs)/\P b:=⟨a,rfl,⟨xs,hd⟩,h⟩
theorem Wx {ta:TA} {R:It->Hp->Prop} (h:ta σ H fun vs H1=>∃ j:Int,vs=[.int j]/\-(2 ^ 62)<=j/\j < 2 ^ 62/\R (Itr 0 j.toNat) H1):Tp ta σ H R:=h
theorem Yb {T:String} {r:V->List V->Hp->VK->Prop} {to:TE} {t:TA} (h:to σ H fun x H1=>tyV K T x H1/\t σ H1 fun xs H2=>r x xs H2 Q):tBM K T r to t σ H Q:=h
theorem Xv {T:String} {r:V->List V->Hp->VK->Prop} {to:TE} (h:to σ H fun x H1=>tyV K T x H1/\r x [] H1 Q):WY K T r to σ H Q:=h
theorem W5 {a:Addr} {xs:List V} {P:Prop} (hd:H a=some (.lst xs)) (h:P):tyV K "list" (.ref a) H/\P:=⟨.inl ⟨rfl,_,SqL.of hd⟩,h⟩
theorem M3 {a:Addr} {xs:List V} {y:V} (hd:H a=some (.lst xs)) (hl:xs.length < sizeLine) (h:∀ H2,But a H H2->H2 a=some (.lst (xs ++ [y]))->Q .non H2):xN (.ref a) [y] H Q:=⟨a,xs,y,rfl,rfl,hd,hl,h _ .upd az⟩
theorem Wd {src:List (Option Nat)} {wi:TI} {g:TG} {tt:TT} {te:TE} (h:wi σ H fun J H1=>∀ D,H1 D=none->∃ W:Nat->Nat->St->Hp->Prop,(∃ m,W 0 m (Fv src σ) (upd H1 D (.lst []))) /\
 ∀ i m σ' H',W i m σ' H'->(J.stop i H'/\Q (.ref D) H')∨(J.go i H'/\∃ N:St->Hp->Prop,(∀ σ2 H2,N σ2 H2->∃ m',m' < m/\W (i + 1) m' σ2 H2) /\
  ∀ x H'',J.yld i H' x H''->nD g tt te D N x σ' H'')):Mf src wi g tt te σ H Q:=h
end
theorem Wv {A B:Prop} (h:B):if (!true)=true then A else B:=h
theorem W9 {A B:Prop} (h:A):if (!false)=true then A else B:=h
theorem WF:(10:Int) ^ (18:Int).toNat=1000000000000000000:=by decide
theorem LQ:(0:Int) < (10:Int) ^ (18:Int).toNat:=by rw [WF]; decide
theorem NZ:(0:Int) < (10:Int) ^ (60:Int).toNat:=Int.pow_pos (by decide)
end L2
namespace L2
open PySem PySem.Spec PyProof.Rows
section
variable {X:Cx} {K:PySem.W.Frag}
theorem aY (hK:X.K=K):IxR X (Rw K):=by subst hK; exact ix_tup
theorem bf (hK:X.K=K):IxR X (Rm K):=by subst hK; exact ix_list
theorem kE (hK:X.K=K):SlR X (We K):=by subst hK; exact Sh
theorem pA (hK:X.K=K):SlR X (Xc K):=by subst hK; exact Ux
theorem vV (hK:X.K=K) (hu:X.A.units + 64 < cLine):OpR X (compareOp .Eq) (Q5 K):=by subst hK; exact RT hu
theorem By (hK:X.K=K) (hu:X.A.units + 64 < cLine):OpR X (compareOp .NotEq) (RX K):=by subst hK; exact QG hu
theorem Jo (hK:X.K=K) (hu:X.A.units + 64 < cLine):OpR X (compareOp .NotIn) (Og K true):=by subst hK; exact Ls hu
def Uu (K:PySem.W.Frag):List V->Hp->VK->Prop:=fun xs H Q=>∃ p ys,xs=[.ref p]/\(SqL K H p ys∨SqT K H p ys)/\Q (.int ys.length) H
theorem bY (hK:X.K=K):gC X (.builtin "len") (Uu K):=by subst hK; exact Bw
def CG (K:PySem.W.Frag):List V->Hp->VK->Prop:=fun xs H Q=>∃ p ys,xs=[.ref p]/\(SqL K H p ys∨SqT K H p ys)/\∀ l,H l=none->Q (.ref l) (upd H l (.lst ys))
theorem pN (hK:X.K=K):gC X (.type "list") (CG K):=by subst hK; exact BL
def Gb (K:PySem.W.Frag):List V->Hp->VK->Prop:=fun xs H Q=>∃ p ys,xs=[.ref p]/\((SqL K H p ys/\∀ l,H l=none->Q (.ref l) (upd H l (.tup ys)))∨(SqT K H p ys/\Q (.ref p) H))
theorem jj (hK:X.K=K):gC X (.type "tuple") (Gb K):=by subst hK; exact zW
def Yt (K:PySem.W.Frag):List V->Hp->VK->Prop:=fun xs H Q=>∃ (x:V) (t:Value) (T:String) (b:Bool),xs=[x,.ty T]/\TyOf K H x t/\PySem.W.kitOne K t (.type T)=some b/\Q (.bl b) H
theorem oO (hK:X.K=K):gC X (.builtin "isinstance") (Yt K):=by subst hK; exact FJ
theorem xH {es:List Expr} {k:Nat} {t:TGs} {n:Nat} {pos:Pos} (hK:X.K=K) (hc:X.calm=true) (h:PGs X es t) (hn:(assignEach es X.env).length=n:=by rfl) (hst:(assignEach es X.env).findIdx? (·.1)=none:=by rfl):PG X (.Tuple es k pos) (QV K n t):=by subst hK; exact Vy hc h hn hst
theorem bB {tg l:Expr} {tl:TE} (hK:X.K=K) (hl:PE X l tl):PI X tg l (PB K tl):=by subst hK; exact QL hl
theorem uU {tg l:Expr} {tl:TE} (hK:X.K=K) (hl:PE X l tl):PI X tg l (Ud K tl):=by subst hK; exact Vj hl
theorem RD {tg l:Expr} {tl:TE} (hK:X.K=K) (hl:PE X l tl):PI X tg l (Wr K tl):=by subst hK; exact VF hl
theorem gH {o e:Expr} {to:TE} {t:TA} {apos cpos:Pos} (hK:X.K=K) (h:PE X (.Call (.Attribute o "append" apos) [e] [] cpos) (tBM X.K "list" xN to t)):PE X (.Call (.Attribute o "append" apos) [e] [] cpos) (tBM K "list" xN to t):=by subst hK; exact h
end
section
variable {σ:St} {H:Hp} {Q:VK} {K:PySem.W.Frag}
theorem Q3 {a:Addr} {xs:List V} (hd:SqT K H a xs) (h:Q (.int xs.length) H):Uu K [.ref a] H Q:=⟨a,xs,rfl,.inr hd,h⟩
theorem Qy {a:Addr} {xs:List V} (hd:SqL K H a xs) (h:∀ p H',H p=none->Same H H'->H' p=some (.lst xs)->Q (.ref p) H'):CG K [.ref a] H Q:=⟨a,xs,rfl,.inl hd,fun p hp=>h p _ hp (aH hp) az⟩
theorem O8 {a:Addr} {xs:List V} (hd:SqT K H a xs) (h:∀ p H',H p=none->Same H H'->H' p=some (.lst xs)->Q (.ref p) H'):CG K [.ref a] H Q:=⟨a,xs,rfl,.inr hd,fun p hp=>h p _ hp (aH hp) az⟩
theorem Rb {a:Addr} {xs:List V} (hd:SqL K H a xs) (h:∀ p H',H p=none->Same H H'->H' p=some (.tup xs)->Q (.ref p) H'):Gb K [.ref a] H Q:=⟨a,xs,rfl,.inl ⟨hd,fun p hp=>h p _ hp (aH hp) az⟩⟩
end
end L2
namespace L2
open PySem PySem.Spec PyProof.Rows
theorem Mr (ns:List Int) (lo hi:Option Int):∃ ms:List Int,dz (ns.map V.int) lo hi=ms.map V.int/\ms.length<=ns.length:=by
 refine ⟨(ns.drop (HT.sIx (ns.map V.int).length 0 lo)).take (HT.sIx (ns.map V.int).length (ns.map V.int).length hi - HT.sIx (ns.map V.int).length 0 lo),?_,?_⟩
 ·unfold dz
  rw [List.map_take,List.map_drop]
 ·rw [List.length_take,List.length_drop]
  omega
theorem cX {H H':Hp} {a:Addr} {u:HO} (s:Same H H') (h:Rd H a u):Rd H' a u:=by
 rcases h with h | ⟨o,h⟩
 ·exact .inl (s _ _ h)
 ·exact .inr ⟨o,s _ _ h⟩
theorem bc {α:Type} {ls:List α} {i:Nat} {n:α} (h:ls[i]?=some n):ls.take (i + 1)=ls.take i ++ [n]:=by
 rw [List.take_succ,h]
 rfl
theorem jJ {ms:List Int} {i:Nat} {x:V} (h:(ms.map V.int)[i]?=some x):∃ n:Int,ms[i]?=some n/\x=.int n:=by
 rw [List.getElem?_map] at h
 cases e:ms[i]? with
 | none=>rw [e] at h; cases h
 | some n=>rw [e] at h; exact ⟨n,rfl,(Option.some.inj h).symm⟩
theorem rK {α:Type} {xs:List α} {i:Int} {v:α} (h0:0<=i) (h:xs[i.toNat]?=some v):atI xs i=some v:=by
 obtain ⟨n,rfl⟩:=Int.eq_ofNat_of_zero_le h0
 exact ig h
theorem Gp (m:List (Int×Int)) (k v:Int):lkI (eY m k v) k=some v:=by rw [Ht,if_pos rfl]
abbrev Nm:=Int×Int×Int
def nmD (p:Nm):PyData:=.tuple [.int p.1,.int p.2.1,.int p.2.2]
def NmAt (H:Hp) (x:V) (p:Nm):Prop:=∃ a,x=.ref a/\H a=some (.tup [.int p.1,.int p.2.1,.int p.2.2])
abbrev Nms (H:Hp):List V->List Nm->Prop:=Paired (NmAt H)
def SmH (H H':Hp):Prop:=∀ a xs,H a=some (.tup xs)->H' a=some (.tup xs)
theorem SmH.trans {H1 H2 H3:Hp} (a:SmH H1 H2) (b:SmH H2 H3):SmH H1 H3:=fun _ _ h=>b _ _ (a _ _ h)
theorem SmH.same {H H':Hp} (e:Same H H'):SmH H H':=fun _ _ h=>e _ _ h
theorem SmH.upd {H:Hp} {l:Addr} {o:HO} (h1:∀ xs,H l≠some (.tup xs)):SmH H (upd H l o):=fun a xs h=>by
 have:a≠l:=fun e=>h1 xs (e ▸ h)
 rw [aF this]; exact h
theorem SmH.lst {H:Hp} {l:Addr} {o:HO} {ys:List V} (h:H l=some (.lst ys)):SmH H (L2.upd H l o):=.upd (fun _ z=>by rw [h] at z; cases z)
theorem SmH.but {H H':Hp} {l:Addr} {o:HO} (e:But l H H') (h:H l=some o) (n:∀ xs,o≠.tup xs):SmH H H':=fun a xs z=>e.of h z (Ne.symm (n xs))
theorem NmAt.up {H H':Hp} (m:SmH H H') {x:V} {p:Nm} (h:NmAt H x p):NmAt H' x p:=by
 obtain ⟨a,e,h⟩:=h
 exact ⟨a,e,m _ _ h⟩
theorem Nms.up {H H':Hp} (m:SmH H H'):∀ {xs:List V} {ns:List Nm},Nms H xs ns->Nms H' xs ns
 | _,_,.nil=>.nil
 | _,_,.cons r t=>.cons (r.up m) (Nms.up m t)
theorem Nms.get {H:Hp}:∀ {xs:List V} {ns:List Nm} {i:Nat} {x:V},Nms H xs ns->xs[i]?=some x->∃ p,ns[i]?=some p/\NmAt H x p
 | _,_,_,_,.nil,e=>by simp at e
 | _,_,0,_,.cons r _,e=>by simp at e; subst e; exact ⟨_,rfl,r⟩
 | _,_,i + 1,x,.cons _ t,e=>by
  obtain ⟨p,h1,h2⟩:=Nms.get (i:=i) (x:=x) t (by simpa using e)
  exact ⟨p,by simpa using h1,h2⟩
theorem Nms.len {H:Hp} {xs:List V} {ns:List Nm} (h:Nms H xs ns):xs.length=ns.length:=Paired.length h
theorem Nms.at {H:Hp} {xs:List V} {ns:List Nm} {i:Nat} (h:Nms H xs ns) (hi:i < ns.length):∃ x,xs[i]?=some x/\NmAt H x ns[i]:=by
 have hx:i < xs.length:=by rw [h.len]; exact hi
 obtain ⟨p,e,r⟩:=h.get (List.getElem?_eq_getElem hx)
 rw [List.getElem?_eq_getElem hi] at e
 cases e
 exact ⟨_,List.getElem?_eq_getElem hx,r⟩
theorem Nms.snoc {H:Hp}:∀ {xs:List V} {ns:List Nm} {x:V} {p:Nm},Nms H xs ns->NmAt H x p->Nms H (xs ++ [x]) (ns ++ [p])
 | _,_,_,_,.nil,h=>.cons h .nil
 | _,_,_,_,.cons r t,h=>.cons r (Nms.snoc t h)
theorem NmAt.dp {K:PySem.W.Frag} {H:Hp} {x:V} {p:Nm} (h:NmAt H x p):Dp K H x (nmD p):=by
 obtain ⟨a,rfl,h⟩:=h
 exact .tup (SqT.of h) (.cons (.int _) (.cons (.int _) (.cons (.int _) .nil)))
theorem Nms.dps {K:PySem.W.Frag} {H:Hp}:∀ {xs:List V} {ns:List Nm},Nms H xs ns->Dps K H xs (ns.map nmD)
 | _,_,.nil=>.nil
 | _,_,.cons r t=>.cons r.dp (Nms.dps t)
theorem yg (p:Nm):(nmD p).canLay0=true:=rfl
theorem xK:∀ ns:List Nm,PyData.canLayAll0 (ns.map nmD)=true
 | []=>rfl
 | p :: ns=>by rw [List.map_cons,PyData.canLayAll0.eq_2,yg,xK ns]; rfl
section
variable {σ:St} {H:Hp} {Q:VK} {K:PySem.W.Frag} {X:Cx}
theorem JW (hK:X.K=K):IxR X (rIx K):=by subst hK; exact Wl
theorem Wt {a:Addr} {xs:List V} {i:Int} {v:V} (h1:SqL K H a xs∨SqT K H a xs) (h2:atI xs i=some v) (h:Q v H):rIx K (.ref a) (.int i) H Q:=by
 rcases h1 with h1 | h1
 ·exact .inl ⟨a,xs,i,v,rfl,rfl,h1,h2,h⟩
 ·exact .inr (.inl ⟨a,xs,i,v,rfl,rfl,h1,h2,h⟩)
theorem Q7 {a:Addr} {xs:List V} (hd:SqL K H a xs∨SqT K H a xs) (h:Q (.int xs.length) H):Uu K [.ref a] H Q:=⟨a,xs,rfl,hd,h⟩
end
theorem Ni {P:Prop} (h:P):V.non=V.non/\P:=⟨rfl,h⟩
end L2
namespace L2
open PySem PySem.Spec PyProof.Rows
section
variable {X:Cx} {CX:CXT} {k:Nat} {f C:Addr} {fd:FuncData} {ps:List Str} {sp:Sp} {dvs:List V} {ds:List Value} {E:XK} {x m:Str} {p pos apos:Pos} {e o:Expr} {es:List Expr} {ta:TE} {t:TA}
structure ClsFn (K:PySem.W.Frag) (C:Addr) (m:Str) (f:Addr):Prop where
 ga:PySem.W.specialIn K (.ref C) "__getattribute__"=some (some (.builtin "type.__getattribute__"))
 rd:PySem.W.readsIn K C (.type "type")=true
 at_:PySem.W.findCls K (.ref C) (.type "type") m=some (.val (.ref f))
 hd:PySem.W.handedIn (.ref f)=true
 kp:PySem.W.keepIn K (.ref f)=true
theorem O2 {pl:Sem Bool} (hg:Gl X x) (hm:X.mg x=some (.ref C)) (c:ClsFn X.K C m f) (F:FnOk X.prog X.w X.K X.mg X.base CX0 k f fd ps sp) (hb:Binds X.K fd ps []) (hr:Room k X.A) (ha:PA X (e :: es) t)
  (hdb:(x == ("__debug__":Str))=false:=by decide)
  (hst:starEach (e :: es) X.env=(false,eval e X.env) :: starEach es X.env:=by rfl) (hpl:(backTo pos (starEach es X.env)).any (·.1)=false:=by rfl)
  (ht:eval (.Call (.Attribute (.Name x p) m apos) (e :: es) [] pos) X.env=(do
   let ov ← eval (.Name x p) X.env
   standAt apos.atName
   let (f,first) ← holding [ov] (getMethod ov m pl)
   callWith pos f first (backTo pos (starEach (e :: es) X.env)) (backToKw pos (keywordEach [] X.env))):=by rfl) :
  PE X (.Call (.Attribute (.Name x p) m apos) (e :: es) [] pos) (Jp sp [] E0 t):=by
 intro pins s σ H Q I h
 refine PySem.W.methodCall_KW (pl:=pl) (thn (JT (v:=.ref C) hg hm rfl hdb pins s σ H (fun v H1=>v=.ref C/\t σ H1 fun vs H2=>sp (vs ++ []) H2 Q E0) I ⟨rfl,h⟩) fun u s1 ⟨x,H1,I1,rx,ex,q⟩=>?_) ht
 subst ex
 obtain rfl:u=Value.ref C:=rx
 refine PySem.W.method_cls I1.kIn c.ga (PySem.W.cls_value I1.kIn c.rd c.at_ c.hd ?_)
 refine PySem.W.callWith_K (first:=[]) (h₀:=X.base) I.ok.mod.kin c.kp (thn (ha pos pins _ σ H1 _ (I1.tok _) q) fun us s2 ⟨vs,H2,I2,r,q2⟩=>⟨I2.kIn,?_⟩) hst hpl
 exact vN (us:=us) (vs:=vs) F hr hb .nil yz I2 r q2
def MOk (P:Program) (w:World) (K:PySem.W.Frag) (mg:Str->Option Value) (base:Heap) (k:Nat) (m:Str) (ms:List (Addr×Sp)):Prop :=
 ∀ cs∈ms,∃ f fd ps,Cls K cs.1/\Meth K cs.1 m f/\FnOk P w K mg base CX0 k f fd ps cs.2/\Binds K fd ps []
theorem MOk.nil {P:Program} {w:World} {K:PySem.W.Frag} {mg:Str->Option Value} {base:Heap}:MOk P w K mg base k m []:=fun _ h=>nomatch h
theorem MOk.cons {P:Program} {w:World} {K:PySem.W.Frag} {mg:Str->Option Value} {base:Heap} {ms:List (Addr×Sp)} (c:Cls K C) (hm:Meth K C m f) (F:FnOk P w K mg base CX0 k f fd ps sp) (hb:Binds K fd ps []) (r:MOk P w K mg base k m ms):MOk P w K mg base k m ((C,sp) :: ms):=by
 intro cs h
 rcases List.mem_cons.mp h with rfl | h
 ·exact ⟨f,fd,ps,c,hm,F,hb⟩
 ·exact r cs h
def mtS (ms:List (Addr×Sp)) (m:Str) (t:TA) (σ:St) (x:V) (H:Hp) (Q:VK):Prop :=
 ∃ cs∈ms,∃ a dx fs,x=.ref a/\H a=some (.ins cs.1 dx fs)/\fs.lookup m=none/\t σ H fun vs H2=>cs.2 (x :: (vs ++ [])) H2 Q E0
def GQ (ms:List (Addr×Sp)) (m:Str) (ta:TE) (t:TA):TE:=fun σ H Q=>ta σ H fun x H1=>mtS ms m t σ x H1 Q
theorem ux {pl:Sem Bool} {ms:List (Addr×Sp)} (M:MOk X.prog X.w X.K X.mg X.base k m ms) (he:PE X o ta) (hr:Room k X.A) (ha:PA X (e :: es) t)
  (hst:starEach (e :: es) X.env=(false,eval e X.env) :: starEach es X.env:=by rfl) (hpl:(backTo pos (starEach es X.env)).any (·.1)=false:=by rfl)
  (ht:eval (.Call (.Attribute o m apos) (e :: es) [] pos) X.env=(do
   let ov ← eval o X.env
   standAt apos.atName
   let (f,first) ← holding [ov] (getMethod ov m pl)
   callWith pos f first (backTo pos (starEach (e :: es) X.env)) (backToKw pos (keywordEach [] X.env))):=by rfl) :
  PE X (.Call (.Attribute o m apos) (e :: es) [] pos) (GQ ms m ta t):=by
 intro pins s σ H Q I h
 refine PySem.W.methodCall_KW (pl:=pl) (thn (he pins s σ H _ I h) fun u s1 ⟨x,H1,I1,rx,cs,hcs,a,dx,fs,ex,ea,l,q⟩=>?_) ht
 subst ex
 obtain rfl:u=Value.ref a:=rx
 obtain ⟨f,fd,ps,c,hm,F,hb⟩:=M cs hcs
 refine yH I1 ea c hm l ?_
 refine PySem.W.callWith_K (first:=[.ref a]) (h₀:=X.base) I.ok.mod.kin hm.kp (thn (ha pos pins s1 σ H1 _ I1 q) fun us s2 ⟨vs,H2,I2,r,q2⟩=>⟨I2.kIn,?_⟩) hst hpl
 exact vN (us:=.ref a :: us) (vs:=.ref a :: vs) F hr hb .nil yz I2 (.cons rfl r) q2
theorem fY {pl:Sem Bool} {ms:List (Addr×Sp)} (M:MOk X.prog X.w X.K X.mg X.base k m ms) (he:PE X o ta) (hr:Room k X.A)
  (ht:eval (.Call (.Attribute o m apos) [] [] pos) X.env=(do
   let ov ← eval o X.env
   standAt apos.atName
   let (f,first) ← holding [ov] (getMethod ov m pl)
   callWith pos f first (backTo pos (starEach [] X.env)) (backToKw pos (keywordEach [] X.env))):=by rfl) :
  PE X (.Call (.Attribute o m apos) [] [] pos) (GQ ms m ta Ig):=by
 intro pins s σ H Q I h
 refine PySem.W.methodCall_KW (pl:=pl) (thn (he pins s σ H _ I h) fun u s1 ⟨x,H1,I1,rx,cs,hcs,a,dx,fs,ex,ea,l,q⟩=>?_) ht
 subst ex
 obtain rfl:u=Value.ref a:=rx
 obtain ⟨f,fd,ps,c,hm,F,hb⟩:=M cs hcs
 refine yH I1 ea c hm l ?_
 exact PySem.W.callWith_K0 (first:=[.ref a]) I1.kIn hm.kp (vN (us:=[.ref a]) (vs:=[.ref a]) F hr hb .nil yz I1 (.cons rfl .nil) q)
end
section
variable {X:Cx} {K:PySem.W.Frag}
theorem dH {e:Expr} {ta:TE} {f:Str} {pos:Pos} (hK:X.K=K) (he:PE X e ta) (hb:attributeBase e f X.env (eval e X.env)=eval e X.env):PE X (.Attribute e f pos) (Wa K ta f):=by subst hK; exact V8 he hb
theorem uD {o value:Expr} {ta tv:TE} {f:Str} {pos pos':Pos} (hK:X.K=K) (ha:PE X o ta) (hv:PE X value tv) (hs:swapsWith value (some (.Attribute o f pos')) pos.line X.env=pure false):PS X (.Assign [.Attribute o f pos'] value pos) (M8 K ta tv f):=by subst hK; exact U6 ha hv hs
end
section
variable {D:Ends} {σ:St} {H:Hp} {Q:VK} {K:PySem.W.Frag}
def XM (K:PySem.W.Frag) (f:Str) (x:V) (H:Hp) (Q:VK):Prop:=∃ a C dx fs v,x=.ref a/\H a=some (.ins C dx fs)/\Cls K C/\NoAttr K C f/\fs.lookup f=some v/\Q v H
theorem Xm {ta:TE} {f:Str} (h:ta σ H fun x H1=>XM K f x H1 Q):Wa K ta f σ H Q:=h
theorem Vi {f:Str} {a C dx:Addr} {fs:List (Str×V)} {v:V} (e:H a=some (.ins C dx fs)) (c:Cls K C) (n:NoAttr K C f) (l:fs.lookup f=some v) (h:Q v H):XM K f (.ref a) H Q:=⟨a,C,dx,fs,v,rfl,e,c,n,l,h⟩
def sfK (K:PySem.W.Frag) (f:Str) (y x:V) (H:Hp) (R:Hp->Prop):Prop:=∃ a C dx fs,x=.ref a/\H a=some (.ins C dx fs)/\Cls K C/\NoAttr K C f/\fs.length < 1000/\R (upd H a (.ins C dx (lY f y fs)))
theorem Vs {ta tv:TE} {f:Str} (h:tv σ H fun y H1=>ta σ H1 fun x H2=>sfK K f y x H2 fun H3=>D.nx σ H3):M8 K ta tv f D σ H:=h
theorem XH {f:Str} {y:V} {a C dx:Addr} {fs:List (Str×V)} {R:Hp->Prop} (e:H a=some (.ins C dx fs)) (c:Cls K C) (n:NoAttr K C f) (hl:fs.length < 1000) (h:∀ H2,But a H H2->H2 a=some (.ins C dx (lY f y fs))->R H2):sfK K f y (.ref a) H R:=⟨a,C,dx,fs,rfl,e,c,n,hl,h _ .upd az⟩
theorem Q0 {ms:List (Addr×Sp)} {m:Str} {ta:TE} {t:TA} (h:ta σ H fun x H1=>mtS ms m t σ x H1 Q):GQ ms m ta t σ H Q:=h
theorem Io {ms:List (Addr×Sp)} {m:Str} {t:TA} {C a dx:Addr} {sp:Sp} {fs:List (Str×V)} (e:H a=some (.ins C dx fs)) (l:fs.lookup m=none) (h:t σ H fun vs H2=>sp (.ref a :: (vs ++ [])) H2 Q E0):mtS ((C,sp) :: ms) m t σ (.ref a) H Q :=
 ⟨(C,sp),List.mem_cons_self,a,dx,fs,rfl,e,l,h⟩
theorem Hm {ms:List (Addr×Sp)} {m:Str} {t:TA} {cs:Addr×Sp} {x:V} (h:mtS ms m t σ x H Q):mtS (cs :: ms) m t σ x H Q:=by
 obtain ⟨c,h1,h2⟩:=h
 exact ⟨c,List.mem_cons_of_mem _ h1,h2⟩
def mkK (C:Addr) (sp:Sp) (vs:List V) (H:Hp) (Q:VK):Prop:=∀ x dx,H x=none->H dx=none->dx≠x->sp (.ref x :: (vs ++ [])) (upd (upd H dx (.own x)) x (.ins C dx [])) (fun v H2=>v=.non/\Q (.ref x) H2) E0
theorem Ul {C:Addr} {sp:Sp} {t:TA} (h:t σ H fun vs H1=>mkK C sp vs H1 Q):S7 C sp [] E0 t σ H Q:=h
theorem Yg {C:Addr} {sp:Sp} {vs:List V} (h:∀ x dx H',H x=none->Same H H'->H' x=some (.ins C dx [])->sp (.ref x :: (vs ++ [])) H' (fun v H2=>v=.non/\Q (.ref x) H2) E0):mkK C sp vs H Q:=by
 intro x dx nx ndx nex
 refine h x dx _ nx (fun b o e=>?_) az
 rw [aF (aD e nx),aF (aD e ndx)]
 exact e
end
theorem Ye {f b c:St->Hp->Prop} {r:VK} {σ:St} {H:Hp} (h:f σ H):Ends.nx ⟨f,r,b,c⟩ σ H:=h
theorem WP {σ:St} {H:Hp} {R:Bool->Hp->Prop} (h:R true H):Vo σ H R:=h
theorem Ug {g:TG} {tt:TT} {te:TE} {D:Addr} {N:St->Hp->Prop} {x:V} {σ:St} {H:Hp} (h:g x σ H fun σ2 H2=>tt σ2 H2 fun b H3=>if b=true then te σ2 H3 fun y H4=>∃ ys,H4 D=some (.lst ys)/\ys.length < sizeLine/\N σ2 (upd H4 D (.lst (ys ++ [y]))) else N σ2 H3):nD g tt te D N x σ H:=h
theorem Va {D:Ends} {σ:St} {H:Hp} {c:TT} {u:TS} (h:c σ H fun b H1=>if b=true then False else u D σ H1):yC (RL c N8 JB) u D σ H:=h
end L2
namespace L2
open PySem PySem.Spec PyProof.Rows
theorem Ey {K:PySem.W.Frag} {H H':Hp} {a:Addr} {xs:List V} (e:Same H H') (h:SqT K H a xs):SqT K H' a xs:=by
 rcases h with (h | ⟨o,h⟩) | h
 ·exact .inl (.inl (e _ _ h))
 ·exact .inl (.inr ⟨o,e _ _ h⟩)
 ·exact .inr h
structure Ck (m:List (Int×Int)):Prop where
 nd:(m.map (·.1)).Nodup
 nn:∀ p∈m,0<=p.2
 rg:∀ p∈m,0<=p.1/\p.1 < 63
def QK:List Int:=(List.range 63).map fun (h:Nat)=>(h:Int)
theorem mem_hs {k:Int}:k∈QK↔0<=k/\k < 63:=by
 unfold QK
 rw [List.mem_map]
 constructor
 ·rintro ⟨n,hn,rfl⟩
  have:=List.mem_range.mp hn
  omega
 ·rintro ⟨h0,h1⟩
  exact ⟨k.toNat,List.mem_range.mpr (by omega),by omega⟩
theorem Qt {α:Type} [DecidableEq α]:∀ {l m:List α},l.Nodup->(∀ x∈l,x∈m)->l.length<=m.length
 | [],m,_,_=>Nat.zero_le _
 | x :: l,m,nd,sub=>by
  rw [List.nodup_cons] at nd
  have hx:=sub x List.mem_cons_self
  have pm:=List.perm_cons_erase hx
  have:=Qt (l:=l) (m:=m.erase x) nd.2 fun y hy=>(List.mem_erase_of_ne (show y≠x from fun z=>nd.1 (z ▸ hy))).mpr (sub y (List.mem_cons_of_mem _ hy))
  have q:=pm.length_eq
  rw [List.length_cons] at q ⊢
  omega
theorem rm {l:List Int} (nd:l.Nodup) (h:∀ k∈l,0<=k/\k < 63):l.length < 64:=by
 have:=Qt nd (m:=QK) fun k hk=>mem_hs.mpr (h k hk)
 unfold QK at this
 rw [List.length_map,List.length_range] at this
 omega
theorem Ck.keys {m:List (Int×Int)} (c:Ck m):∀ k∈m.map (·.1),0<=k/\k < 63:=fun k hk=>by
 obtain ⟨p,hp,e⟩:=List.mem_map.mp hk
 rw [← e]
 exact c.rg p hp
theorem Ck.len {m:List (Int×Int)} (c:Ck m):m.length < 64:=by
 have:=rm c.nd c.keys
 rw [List.length_map] at this
 exact this
theorem Ck.nil:Ck []:=⟨List.nodup_nil,(fun p hp=>nomatch hp),(fun p hp=>nomatch hp)⟩
theorem Ck.ct {m:List (Int×Int)} (c:Ck m) (k:Int):0<=ct m k:=by
 unfold L2.ct
 cases e:lkI m k with
 | none=>exact Int.le_refl _
 | some v=>exact c.nn _ (HY e)
theorem n6 {m:List (Int×Int)} {k:Int} (h:k∉m.map (·.1)):ct m k=0:=by
 unfold ct
 rw [R8 h]
 rfl
theorem SN {m:List (Int×Int)} {k:Int} (h:k∈m.map (·.1)):lkI m k=some (ct m k):=by
 obtain ⟨v,e⟩:=QF h
 unfold ct
 rw [e]
 rfl
theorem yN {m:List (Int×Int)} (nd:(m.map (·.1)).Nodup) {p:Int×Int} (h:p∈m):ct m p.1=p.2:=by
 unfold ct
 rw [Tj (k:=p.1) (v:=p.2) nd h]
 rfl
theorem Ck.put {m:List (Int×Int)} (c:Ck m) {k v:Int} (h0:0<=k) (h1:k < 63) (hv:0<=v):Ck (eY m k v) :=
 ⟨N6 m k v c.nd,fun p hp=>by
  rcases vd m k v p hp with z | z
  ·rw [z]; exact hv
  ·exact c.nn p z,fun p hp=>by
  rcases vd m k v p hp with z | z
  ·rw [z]; exact ⟨h0,h1⟩
  ·exact c.rg p z⟩
theorem lG (m:List (Int×Int)) (k v j:Int):ct (eY m k v) j=if j=k then v else ct m j:=by
 unfold ct
 rw [Ht]
 split <;> rfl
structure Td (m:List (Int×Int)):Prop extends Ck m where
 ps:∀ p∈m,0 < p.2
theorem Td.nil:Td []:=⟨Ck.nil,(fun p hp=>nomatch hp)⟩
theorem Td.pos {m:List (Int×Int)} (t:Td m) {k:Int} (h:k∈m.map (·.1)):0 < L2.ct m k:=by
 obtain ⟨p,hp,e⟩:=List.mem_map.mp h
 rw [← e,yN t.nd hp]
 exact t.ps p hp
def Wi (ms:List (List (Int×Int))) (k b:Int):Prop:=(∃ m∈ms,ct m k=b)/\∀ m∈ms,ct m k<=b
def cov (m n:List (Int×Int)):Bool:=(List.range 63).all fun (h:Nat)=>decide (ct n h<=ct m h)
theorem J7 {m n:List (Int×Int)} (cm:Ck m) (cn:Ck n):cov m n=true↔∀ k,ct n k<=ct m k:=by
 unfold cov
 rw [List.all_eq_true]
 constructor
 ·intro h k
  by_cases hk:0<=k/\k < 63
  ·have:=of_decide_eq_true (h k.toNat (List.mem_range.mpr (by omega)))
   rw [show ((k.toNat:Nat):Int)=k by omega] at this
   exact this
  ·rw [n6 (fun z=>hk (cn.keys k z))]
   exact cm.ct k
 ·intro h n _
  exact decide_eq_true (h n)
def iB (ps:List (Int×Int)):List (Int×Int):=ps.filter fun p=>decide (0 < p.2)
theorem QQ {ps:List (Int×Int)} {p:Int×Int} (h:0 < p.2):iB (ps ++ [p])=iB ps ++ [p]:=by
 unfold iB
 rw [List.filter_append,List.filter_cons,decide_eq_true h]
 rfl
theorem Wh {ps:List (Int×Int)} {p:Int×Int} (h:¬ 0 < p.2):iB (ps ++ [p])=iB ps:=by
 unfold iB
 rw [List.filter_append,List.filter_cons,decide_eq_false h]
 exact List.append_nil _
theorem vX {ps:List (Int×Int)} (h:(ps.map (·.1)).Nodup):((iB ps).map (·.1)).Nodup:=by
 unfold iB
 exact h.sublist ((List.filter_sublist).map _)
theorem QM (ps:List (Int×Int)):(iB ps).length<=ps.length:=List.length_filter_le _ _
def prs (S:List Int) (f:Int->Int):List (Int×Int):=S.map fun k=>(k,f k)
theorem qW (S:List Int) (f:Int->Int):(prs S f).map (·.1)=S:=by
 unfold prs
 rw [List.map_map]
 exact List.map_id _
theorem prs_td {S:List Int} {f:Int->Int} (nd:S.Nodup) (rg:∀ k∈S,0<=k/\k < 63):Td (iB (prs S f)):=by
 have mem:∀ p∈iB (prs S f),0 < p.2/\p.1∈S:=fun p hp=>by
  have h:=List.mem_filter.mp hp
  refine ⟨of_decide_eq_true h.2,?_⟩
  have:=List.mem_map_of_mem (f:=(·.1)) h.1
  rw [qW] at this
  exact this
 exact ⟨⟨vX (by rw [qW]; exact nd),fun p hp=>Int.le_of_lt (mem p hp).1,fun p hp=>rg _ (mem p hp).2⟩,fun p hp=>(mem p hp).1⟩
theorem Vl {S:List Int} {f:Int->Int} (nd:S.Nodup) (k:Int) (hk:k∈S) (h0:0<=f k):ct (iB (prs S f)) k=f k:=by
 by_cases h:0 < f k
 ·have hm:(k,f k)∈iB (prs S f):=List.mem_filter.mpr ⟨List.mem_map_of_mem (f:=fun k=>(k,f k)) hk,decide_eq_true h⟩
  exact yN (p:=(k,f k)) (vX (by rw [qW]; exact nd)) hm
 ·have e:f k=0:=by omega
  rw [e]
  apply n6
  intro z
  obtain ⟨p,hp,e2⟩:=List.mem_map.mp z
  have q:=List.mem_filter.mp hp
  obtain ⟨k',_,e3⟩:=List.mem_map.mp q.1
  have:=of_decide_eq_true q.2
  rw [← e3] at e2 this
  have e2:k'=k:=e2
  rw [e2] at this
  exact h this
theorem R0 {S:List Int} {f:Int->Int} {k:Int} (hk:k∉S):ct (iB (prs S f)) k=0:=by
 apply n6
 intro z
 apply hk
 have:k∈(prs S f).map (·.1):=((List.filter_sublist).map _).subset z
 rw [qW] at this
 exact this
theorem two {m n:List (Int×Int)} {k:Int}:(∃ x∈[m,n],k∈x.map (·.1))↔k∈m.map (·.1)∨k∈n.map (·.1):=by simp
theorem QR (m:List (Int×Int)) (h:Int):((fZ (dI m) (Sum.inl h:Key)).getD (.int 0))=V.int (ct m h):=by
 rw [Bt]
 unfold ct
 cases lkI m h <;> rfl
def cfl (n c k w cs:V):List (Str×V):=[("number",n),("caller",c),("count",k),("word",w),("causes",cs)]
theorem Ss (n c k w cs:V):lY "causes" cs (lY "word" w (lY "count" k (lY "caller" c (lY "number" n []))))=cfl n c k w cs:=by
 have e:∀ (a b:Str),decide (a=b)=false->a≠b:=fun a b h=>of_decide_eq_false h
 simp only [lY,cfl,if_neg (e "number" "caller" (by decide +kernel)),if_neg (e "number" "count" (by decide +kernel)),if_neg (e "caller" "count" (by decide +kernel)),if_neg (e "number" "word" (by decide +kernel)),if_neg (e "caller" "word" (by decide +kernel)),if_neg (e "count" "word" (by decide +kernel)),if_neg (e "number" "causes" (by decide +kernel)),if_neg (e "caller" "causes" (by decide +kernel)),if_neg (e "count" "causes" (by decide +kernel)),if_neg (e "word" "causes" (by decide +kernel))]
theorem Ho {n c k w cs:V}:(cfl n c k w cs).lookup ("number":Str)=some n:=by kernel_rfl
theorem Hv {n c k w cs:V}:(cfl n c k w cs).lookup ("caller":Str)=some c:=by kernel_rfl
theorem Lq {n c k w cs:V}:(cfl n c k w cs).lookup ("count":Str)=some k:=by kernel_rfl
theorem Mt {n c k w cs:V}:(cfl n c k w cs).lookup ("word":Str)=some w:=by kernel_rfl
theorem Im {n c k w cs:V}:(cfl n c k w cs).lookup ("causes":Str)=some cs:=by kernel_rfl
theorem M4 {n c k w cs:V}:(cfl n c k w cs).lookup ("free":Str)=none:=by kernel_rfl
theorem DX {n c k w cs:V}:(cfl n c k w cs).lookup ("in_turn":Str)=none:=by kernel_rfl
theorem yL {n c k w cs:V}:(cfl n c k w cs).lookup ("asks_place":Str)=none:=by kernel_rfl
theorem Qm {n c k w cs:V}:(cfl n c k w cs).lookup ("kind":Str)=none:=by kernel_rfl
theorem Pu {n c k w cs:V}:(cfl n c k w cs).lookup ("name":Str)=none:=by kernel_rfl
theorem Mi {n c k w cs:V}:(cfl n c k w cs).lookup ("rank":Str)=none:=by kernel_rfl
theorem Ow {n c k w cs:V}:(cfl n c k w cs).lookup ("told":Str)=none:=by kernel_rfl
theorem Su {K:PySem.W.Frag} {H:Hp} {Q:VK} {a:Addr} {kd:Str} (h:kd="own"∨kd="heard"∨kd="one") (ha:SqT K H a [.str "own",.str "heard",.str "one"]) (q:Q (.bl false) H):Og K true (.str kd) (.ref a) H Q:=by
 refine ⟨a,_,_,_,rfl,.inr ha,.cons (.str _) (.cons (.str _) (.cons (.str _) .nil)),.str kd,by kernel_rfl,?_,by show 0<=60; decide,?_⟩
 ·rcases h with rfl | rfl | rfl <;> kernel_rfl
 ·have e:(([.str "own",.str "heard",.str "one"]:List PyData).any fun z=>z.eqv (.str kd))=true:=by rcases h with rfl | rfl | rfl <;> kernel_rfl
  show Q (.bl (!_)) H
  rw [e]
  exact q
theorem Wu:decide (("heard":Str)="own")=false:=by decide +kernel
theorem WR:decide (("one":Str)="own")=false:=by decide +kernel
theorem X7:decide (("one":Str)="heard")=false:=by decide +kernel
theorem WD:decide (("own":Str)="own")=true:=by decide +kernel
theorem WK:decide (("heard":Str)="heard")=true:=by decide +kernel
def prD (p:Int×Int):PyData:=.tuple [.int p.1,.int p.2]
theorem Prs.dps {K:PySem.W.Frag} {H:Hp}:∀ {xs:List V} {ps:List (Int×Int)},Prs H xs ps->Dps K H xs (ps.map prD)
 | _,_,.nil=>.nil
 | _,_,.cons r t=>by
  obtain ⟨a,rfl,h⟩:=r
  exact .cons (.tup (SqT.of h) (.cons (.int _) (.cons (.int _) .nil))) (Prs.dps t)
theorem JD:∀ ps:List (Int×Int),PyData.canLayAll0 (ps.map prD)=true
 | []=>rfl
 | p :: ps=>by rw [List.map_cons,PyData.canLayAll0.eq_2,JD ps]; rfl
theorem Jt:∀ ps:List (Int×Int),PyData.depthAll (ps.map prD)<=1
 | []=>by rw [List.map_nil,PyData.depthAll.eq_1]; omega
 | p :: ps=>by
  have e:PyData.depthAll ((p :: ps).map prD)=max (prD p).depth (PyData.depthAll (ps.map prD)):=rfl
  rw [e]
  have:=Jt ps
  have:(prD p).depth=1:=rfl
  omega
theorem Sq {K:PySem.W.Frag} {H:Hp} {Q:VK} {a b:Addr} {xs:List V} {ds:List PyData} (ha:SqL K H a xs) (hx:Dps K H xs ds) (hl:PyData.canLayAll0 ds=true) (hb:SqL K H b []) (q:Q (.bl (!decide (ds=[]))) H):RX K (.ref a) (.ref b) H Q:=by
 refine ⟨.list ds,.list [],.inr ⟨_,_,_,rfl,rfl,ha,hx⟩,.inr ⟨_,_,_,rfl,rfl,hb,.nil⟩,by rw [PyData.canLay0.eq_5]; exact hl,rfl,by have:(PyData.list []).depth=1:=rfl; omega,?_⟩
 have e:(PyData.list ds).eqv (.list [])=decide (ds=[]):=by
  cases ds with
  | nil=>rfl
  | cons d ds=>rw [decide_eq_false (by intro z; cases z)]; rfl
 rw [e]
 exact q
theorem JZ {H:Hp} {Q:VK} {a b:Addr} {xs zs:List V} (h1:H a=some (.lst xs)) (h2:H b=some (.lst zs)) (hl:xs.length + zs.length<=1000) (h:∀ p H',H p=none->Same H H'->H' p=some (.lst (xs ++ zs))->Q (.ref p) H'):Xa (.ref a) (.ref b) H Q:=⟨a,b,xs,zs,rfl,rfl,h1,h2,Nat.le_of_lt (aJ hl),fun p hp=>h p _ hp (aH hp) az⟩
def SmB (d:Addr) (B H:Hp):Prop:=∀ b o,b≠d->B b=some o->H b=some o
theorem SmB.refl (d:Addr) (B:Hp):SmB d B B:=fun _ _ _ h=>h
theorem SmB.but {d:Addr} {B H H':Hp} (a:SmB d B H) (s:But d H H'):SmB d B H':=fun b o n h=>s.at n (a b o n h)
structure TCall (K:PySem.W.Frag) (C:Addr):Prop where
 cl:Cls K C
 n1:NoAttr K C "number"
 n2:NoAttr K C "caller"
 n3:NoAttr K C "count"
 n4:NoAttr K C "word"
 n5:NoAttr K C "causes"
end L2
namespace L2
open PySem PySem.Spec PyProof.Rows
def dG (m:List (Int×V)):List (Key×V):=m.map fun p=>(Sum.inl p.1,p.2)
theorem Mz (m:List (Int×V)):(dG m).length=m.length:=List.length_map ..
def lkG:List (Int×V)->Int->Option V
 | [],_=>none
 | p :: m,k=>if p.1=k then some p.2 else lkG m k
theorem Qn:∀ (m:List (Int×V)) (k:Int),fZ (dG m) (Sum.inl k:Key)=lkG m k
 | [],_=>rfl
 | p :: m,k=>by
  show fZ ((Sum.inl p.1,p.2) :: dG m) (Sum.inl k)=_
  unfold lkG
  by_cases e:p.1=k
  ·rw [if_pos e,eV (by rw [e])]
  ·rw [if_neg e,eQ (fun z=>e (Sum.inl.inj z)),Qn m k]
def wR:List (Int×V)->Int->V->List (Int×V)
 | [],k,v=>[(k,v)]
 | p :: m,k,v=>if p.1=k then (p.1,v) :: m else p :: wR m k v
theorem Mq (k:Int):∀ m:List (Int×V),((dG m).any fun kv=>decide (kv.1=(Sum.inl k:Key)))=m.any fun p=>decide (p.1=k)
 | []=>rfl
 | p :: m=>by
  show (decide ((Sum.inl p.1:Key)=Sum.inl k) || (dG m).any _)=(decide (p.1=k) || m.any _)
  rw [Mq k m]
  congr 1
  rw [decide_eq_decide]
  exact ⟨fun h=>Sum.inl.inj h,fun h=>congrArg _ h⟩
theorem putg_new:∀ (m:List (Int×V)) (k:Int) (v:V),(m.any fun p=>decide (p.1=k))=false->wR m k v=m ++ [(k,v)]
 | [],_,_,_=>rfl
 | p :: m,k,v,h=>by
  rw [List.any_cons,Bool.or_eq_false_iff] at h
  show (if p.1=k then (p.1,v) :: m else p :: wR m k v)=_
  rw [if_neg (of_decide_eq_false h.1),putg_new m k v h.2]
  rfl
theorem Gx:∀ (m:List (Int×V)) (k:Int) (v:V),(m.map (·.1)).Nodup->(m.any fun p=>decide (p.1=k))=true->wR m k v=m.map fun p=>if p.1=k then (p.1,v) else p
 | [],_,_,_,h=>by cases h
 | p :: m,k,v,nd,h=>by
  rw [List.map_cons,List.nodup_cons] at nd
  show (if p.1=k then (p.1,v) :: m else p :: wR m k v)=(if p.1=k then (p.1,v) else p) :: m.map _
  by_cases e:p.1=k
  ·rw [if_pos e,if_pos e]
   congr 1
   have:m.map (fun p=>if p.1=k then (p.1,v) else p)=m.map id:=List.map_congr_left fun q hq=>by
    rw [if_neg (fun z=>nd.1 (by rw [e,← z]; exact List.mem_map_of_mem hq))]
    rfl
   rw [this,List.map_id]
  ·rw [if_neg e,if_neg e,Gx m k v nd.2 (by
    rw [List.any_cons,decide_eq_false e,Bool.false_or] at h
    exact h)]
theorem Vr (m:List (Int×V)) (k:Int) (v:V) (nd:(m.map (·.1)).Nodup):putK (dG m) (Sum.inl k:Key) (v)=dG (wR m k v):=by
 unfold putK
 rw [Mq]
 cases e:m.any fun p=>decide (p.1=k) with
 | false =>
  rw [putg_new m k v e]
  unfold dG
  rw [List.map_append]
  rfl
 | true =>
  rw [Gx m k v nd e]
  unfold dG
  rw [List.map_map,if_pos rfl,List.map_map]
  apply List.map_congr_left
  intro p _
  show (if (Sum.inl p.1:Key)=Sum.inl k then ((Sum.inl p.1:Key),v) else (Sum.inl p.1,p.2))=((Sum.inl (if p.1=k then (p.1,v) else p).1:Key),(if p.1=k then (p.1,v) else p).2)
  by_cases z:p.1=k
  ·rw [if_pos (congrArg _ z),if_pos z]
  ·rw [if_neg (fun q=>z (Sum.inl.inj q)),if_neg z]
section
variable {X:Cx}
theorem ut {α β:Type} {R:α->β->Prop}:∀ {xs:List α} {ys:List β},xs.length=ys.length->(∀ (i:Nat) x y,xs[i]?=some x->ys[i]?=some y->R x y)->Paired R xs ys
 | [],[],_,_=>.nil
 | [],_ :: _,h,_=>by cases h
 | _ :: _,[],h,_=>by cases h
 | x :: xs,y :: ys,h,k=>.cons (k 0 x y rfl rfl) (ut (Nat.succ.inj h) fun i a b ha hb=>k (i + 1) a b (by simpa using ha) (by simpa using hb))
theorem Ew:gC X (.type "range") (fun xs H Q=>∃ j:Int,xs=[.int j]/\∀ r,H r=none->Q (.ref r) (upd H r (.rng 0 j))):=by
 intro pins s σ H xs us Q I r h
 obtain ⟨j,rfl,q⟩:=h
 obtain ⟨u,rfl,t,rfl⟩:=vals1 r
 exact call_range_1 ⟨.ref s.heap.objs.size,_,I.laid (o:=.rng 0 j) (t':=s.toks + 1 + 1) (fun b o e=>Heap.get?_push_of_some _ e) (Nat.le_refl _) ⟨_,_,_,Heap.get?_push_size _ rfl⟩,rfl,q _ (I.hok.fresh (Nat.le_refl _))⟩
theorem HW (hc:X.calm=true):gC X (.type "list") (fun xs H Q=>∃ (r:Addr) (n:Nat),xs=[.ref r]/\H r=some (.rng 0 n)/\n<=1000/\∀ l,H l=none->Q (.ref l) (upd H l (.lst (((List.range n).map fun (i:Nat)=>(i:Int)).map V.int)))):=by
 intro pins s σ H xs us Q I rr h
 obtain ⟨r,n,rfl,hr,hn,q⟩:=h
 obtain ⟨u,rfl,rx⟩:=vals1 rr
 cases rx
 obtain ⟨t,u,v,e⟩:∃ t u v,s.heap.get? r=some { cls:=.type "range",data:=.fields #[.int 0 t,.int n u,.int 1 v] }:=I.hok r _ hr
 have hs:Builtin.Range.rangeSize 0 n 1=(n:Int):=by rw [rangeSize_one]; split <;> omega
 refine call_list_range (I.ok.hd hc) e (small_one (by omega) (by omega) (by omega) (by omega)) hs (Nat.le_trans hn (by decide)) fun h' tk acc c' kp he ho=>?_
 refine ⟨.ref s.heap.objs.size,_,I.laid (o:=.lst (((List.range n).map fun (i:Nat)=>(i:Int)).map V.int)) (t':=tk) kp (Nat.le_refl _) ⟨?_,acc.toList,c',?_,?_⟩,rfl,q _ (I.hok.fresh (Nat.le_refl _))⟩
 ·rw [List.length_map,List.length_map,List.length_range]
  exact Nat.le_of_lt (aJ hn)
 ·refine ut ?_ fun i x u hx hu=>?_
  ·rw [List.length_map,List.length_map,List.length_range,Array.length_toList,ho.1]
  ·have hi:i < n:=by
    have:=(List.getElem?_eq_some_iff.mp hx).1
    rw [List.length_map,List.length_map,List.length_range] at this
    exact this
   rw [Array.getElem?_toList] at hu
   obtain ⟨tt,rfl⟩:=ho.2 i u hu
   rw [List.getElem?_map,List.getElem?_map,List.getElem?_range hi] at hx
   cases hx
   exact ⟨tt,by show Value.int (0 + (i:Int) * 1) tt=Value.int (i:Int) tt; congr 1; omega⟩
 ·rw [he]
theorem BK:gC X (.builtin "sorted") (fun xs H Q=>∃ (p:Addr) (ns:List Int),xs=[.ref p]/\SqL X.K H p (ns.map V.int)/\ns.length < 64/\∀ (l:Addr) (ms:List Int),H l=none->ms.Perm ns->ms.Pairwise (·<=·)->Q (.ref l) (upd H l (.lst (ms.map V.int)))):=by
 intro pins s σ H xs us Q I r h
 obtain ⟨p,ns,rfl,hp,hl,q⟩:=h
 obtain ⟨u,rfl,rx⟩:=vals1 r
 cases rx
 obtain ⟨its,rv,pl,hz⟩:=I.list hp
 have hi:=intsAre_of rv
 refine sorted_ints pl.isList hi (by rw [hi.length]; exact hl) fun out ms a1 a2 a3=>?_
 obtain ⟨e,he⟩:=sortedAll_at s.heap its out
 refine ⟨.ref (s.heap.objs.size + 1),_,I.laid (o:=.lst (ms.map V.int)) (t':=s.toks) (fun b o e=>sortedAll_old e) (Nat.le_succ _) ⟨?_,out.toList,e,sH a1,he⟩,rfl,q _ ms (I.hok.fresh (Nat.le_succ _)) a2 a3⟩
 rw [List.length_map,a2.length_eq]
 exact Nat.le_of_lt (aJ (by omega))
theorem Eh:∀ (ns:List Int) (n:Nat),n<=ns.length->preSum (fun i=>ns.getD i 0) n=(ns.take n).sum:=by
 intro ns n
 induction n with
 | zero=>intro _; rfl
 | succ n ih =>
  intro h
  show preSum _ n + ns.getD n 0=_
  rw [ih (by omega),List.take_succ,List.sum_append]
  have:n < ns.length:=h
  rw [List.getD_eq_getElem?_getD,List.getElem?_eq_getElem this]
  simp
theorem J8 (hc:X.calm=true):gC X (.builtin "sum") (fun xs H Q=>∃ (p:Addr) (ns:List Int),xs=[.ref p]/\SqL X.K H p (ns.map V.int)/\Q (.int ns.sum) H):=by
 intro pins s σ H xs us Q I r h
 obtain ⟨p,ns,rfl,hq,q⟩:=h
 obtain ⟨u,rfl,rx⟩:=vals1 r
 cases rx
 obtain ⟨its,rv,pl,hz⟩:=I.list hq
 have hl:its.toArray.size=ns.length:=by rw [List.size_toArray,← rv.length,List.length_map]
 have hp:p < s.heap.objs.size:=let ⟨_,z,_⟩:=pl.isList; Heap.lt_size z
 refine call_sum_walkG (wpAny_pyIter_list pl.isList ?_)
 refine ⟨s.heap.objs.size,[s.heap.objs.size,p],[s.heap.objs.size],its.toArray.size,_,_,fun i=>ns.getD i 0,rfl,Walks.list (A:=X.A.in1) (I.ok.hd hc) _ p (Nat.ne_of_lt hp) its.toArray,
  ⟨⟨_,Heap.get?_push_size _ rfl,rfl,rfl⟩,pl.isList.push _⟩,fun b hb=>?_,fun i v hP=>?_,fun h' tk t' kp=>?_⟩
 ·rw [Heap.size_push]
  rcases List.mem_cons.mp hb with z | z
  ·rw [z]; exact Nat.lt_succ_self _
  ·rw [List.mem_singleton.mp z]; exact Nat.lt_succ_of_lt hp
 ·have hv:its[i]?=some v:=by simpa using hP
  have hb:i < ns.length:=by
   have:=(List.getElem?_eq_some_iff.mp hv).1
   rw [← hl,List.size_toArray]
   exact this
  obtain ⟨u,hu,ru⟩:=rv.get (i:=i) (x:=V.int ns[i]) (by rw [List.getElem?_map,List.getElem?_eq_getElem hb]; rfl)
  rw [hv] at hu
  cases hu
  obtain ⟨t,rfl⟩:=ru
  refine ⟨t,?_⟩
  show Value.int ns[i] t=Value.int (ns.getD i 0) t
  rw [List.getD_eq_getElem?_getD,List.getElem?_eq_getElem hb,Option.getD_some]
 ·refine ⟨.int ns.sum,H,I.kept (t':=tk) fun b o e=>kp b o ?_ (Heap.get?_push_of_some _ e),⟨t',?_⟩,q⟩
  ·intro z
   have z':b=s.heap.objs.size:=by simpa using z
   exact absurd (Heap.lt_size e) (by rw [z']; exact Nat.lt_irrefl _)
  ·rw [hl,Eh ns ns.length (Nat.le_refl _),List.take_length]
end
section
variable {D:Ends} {σ:St} {H:Hp} {Q:VK}
theorem Ko {d:Addr} {H A:Hp} {u:HO} (s:SmB d H A) (h:H d=some u):Same H (upd A d u):=fun b o e=>by
 by_cases z:b=d
 ·subst z
  rw [h] at e
  cases e
  exact az
 ·rw [aF z]
  exact s b o z e
theorem Vu {d:Addr} {kvs:List (Key×V)} {P:Addr->Prop} (hd:Rd H d (.dK kvs)) (h:P d):∃ a,V.ref d=.ref a/\IsD H a/\P a:=⟨d,rfl,.inl ⟨_,hd⟩,h⟩
end
end L2
namespace L2
open PySem PySem.Spec PyProof.Rows
theorem snoc_ind {α:Type} {P:List α->Prop} (h0:P []) (h1:∀ l a,P l->P (l ++ [a])) (l:List α):P l:=by
 have key:∀ r:List α,P r.reverse:=by
  intro r
  induction r with
  | nil=>exact h0
  | cons a r ih=>rw [List.reverse_cons]; exact h1 _ _ ih
 have:=key l.reverse
 rw [List.reverse_reverse] at this
 exact this
theorem VG:∀ (l:List Nat) (b:Nat),l.Pairwise (· < ·)->(∀ x∈l,x < b)->(l.map fun h=>2 ^ h).sum < 2 ^ b:=by
 refine snoc_ind ?_ ?_
 ·intro b _ _; exact Nat.two_pow_pos b
 ·intro l h ih b hp hb
  rw [List.pairwise_append] at hp
  have h1:=ih h hp.1 fun x hx=>hp.2.2 x hx h (by simp)
  have h2:h < b:=hb h (by simp)
  rw [List.map_append,List.sum_append]
  have h3:2 ^ (h + 1)<=2 ^ b:=Nat.pow_le_pow_right (by decide) h2
  rw [Nat.pow_succ] at h3
  simp only [List.map_cons,List.map_nil,List.sum_cons,List.sum_nil]
  omega
theorem sum_set:∀ (l:List Nat),l.Pairwise (· < ·)->(l.map fun h=>2 ^ h).sum=GB.Q9 l:=by
 refine snoc_ind ?_ ?_
 ·intro _; rfl
 ·intro l h ih hp
  rw [List.pairwise_append] at hp
  have h1:=VG l h hp.1 fun x hx=>hp.2.2 x hx h (by simp)
  have e:=ih hp.1
  rw [List.map_append,List.sum_append]
  unfold GB.Q9 at e ⊢
  rw [List.foldl_append,← e]
  simp only [List.map_cons,List.map_nil,List.sum_cons,List.sum_nil,List.foldl_cons,List.foldl_nil]
  have:=Nat.two_pow_add_eq_or_of_lt h1 1
  rw [Nat.mul_one] at this
  rw [Nat.add_zero,Nat.add_comm,this,Nat.or_comm]
structure Hs (hs:List Int):Prop where
 up:hs.Pairwise (· < ·)
 rg:∀ h∈hs,0<=h/\h < 63
theorem Hs.nat {hs:List Int} (c:Hs hs):∃ l:List Nat,hs=l.map (fun (h:Nat)=>(h:Int))/\l.Pairwise (· < ·)/\∀ x∈l,x < 63:=by
 refine ⟨hs.map Int.toNat,?_,?_,?_⟩
 ·rw [List.map_map]
  conv=>lhs; rw [← List.map_id hs]
  refine List.map_congr_left fun h hh=>?_
  have:=(c.rg h hh).1
  show h=((h.toNat:Nat):Int)
  omega
 ·rw [List.pairwise_map]
  refine c.up.imp_of_mem fun {a b} ha hb h=>?_
  have:=(c.rg a ha).1
  omega
 ·intro x hx
  obtain ⟨h,hh,rfl⟩:=List.mem_map.mp hx
  have:=c.rg h hh
  omega
theorem Ej:∀ l:List Nat,(l.map fun (h:Nat)=>(h:Int)).sum=((l.sum:Nat):Int)
 | []=>rfl
 | x :: l=>by rw [List.map_cons,List.sum_cons,List.sum_cons,Ej l]; omega
end L2
namespace L2
open PySem PySem.Spec PyProof.Rows
section
variable {X:Cx}
end
section
variable {X:Cx}
end
end L2
namespace L2
open PySem PySem.Spec PyProof.Rows
section
variable {X:Cx}
def VwO (v d:Addr):HO:=.ext fun h=>h.IsValuesView v d
end
end L2
namespace L2
open PySem PySem.Spec PyProof.Rows
section
variable {X:Cx}
def Tu:V->List V->Hp->VK->Prop:=fun x vs H Q=>∃ d m i y,x=.ref d/\vs=[.int i,y]/\H d=some (.dK (dG m))/\m.length < 1000/\(∀ v,lkG m i=some v->Q v H)/\(lkG m i=none->Q y (upd H d (.dK (putK (dG m) (Sum.inl i) y))))
theorem G5:MtR X "dict.setdefault" Tu:=by
 intro pins s σ H x xs v us Q I rx rv h
 obtain ⟨d,m,i,y,rfl,rfl,hd,hl,q1,q2⟩:=h
 cases rx
 obtain ⟨u1,u2,rfl,r1,r2⟩:=rv.two
 obtain ⟨t,rfl⟩:=r1
 obtain ⟨z,hS,vs,rel,dd⟩:=Tg I.hok hd
 obtain ⟨h1,h2⟩:=Dm (T:="dict") I (x:=.ref d) rfl (.inr (.inr (.inl ⟨rfl,.inl ⟨_,hd⟩⟩)))
 have l1:vs.length=m.length:=by rw [← KV.length rel,Mz]
 have hv:=rel.val (Sum.inl i:Key)
 rw [Qn] at hv
 have hk:=qp X.prog X.w i t
 refine call_meetsIn PySem.F.slot_dict_setdefault h1 PySem.F.entry_dict_setdefault (PySem.F.args_dict_setdefault_3 _ _ _) (kt_meets_setdefault (bI X.prog X.w) d hk hS u2) ⟨vs,dd,by rw [l1]; exact Nat.le_of_lt (aJ (by omega)),fun v e=>?_,fun e h' g1 sb=>?_⟩
 ·cases w:lkG m i with
  | none =>
   rw [w] at hv
   rw [RelO.none_of hv] at e
   cases e
  | some v0 =>
   rw [w] at hv
   obtain ⟨u,hu,ru⟩:=RelO.some_of hv
   rw [hu] at e
   cases e
   exact ⟨v0,H,I.tok _,ru,q1 v0 w⟩
 ·have w:lkG m i=none:=by
   cases w:lkG m i with
   | none=>rfl
   | some v0 =>
    rw [w] at hv
    obtain ⟨u,hu,ru⟩:=RelO.some_of hv
    rw [hu] at e
    cases e
  obtain ⟨o,es,ep,ho,rr⟩:=id g1
  have lp:(putK (dG m) (Sum.inl i) y).length<=1000:=by
   have:=nG (dG m) (Sum.inl i:Key) y
   rw [Mz] at this
   omega
  exact ⟨y,_,I.write (t':=s.toks + 1) (x:=d) (e:=d) (o:=.dK (putK (dG m) (Sum.inl i) y)) (by rw [hd]; trivial) (.inl rfl) (fun b ob n e=>(sb.2 b n).trans e) ⟨o,ho⟩ (Jg (Nat.le_of_lt (aJ lp)) hS (KV.put rel (Sum.inl i:Key) r2) g1),r2,q2 w⟩
end
theorem T4 {H:Hp} {Q:VK} {d:Addr} {m:List (Int×V)} {i:Int} {y:V} (hd:H d=some (.dK (dG m))) (nd:(m.map (·.1)).Nodup) (hl:m.length < 1000) (h:∀ v H',(lkG m i=some v/\H'=H)∨(lkG m i=none/\v=y/\H'=upd H d (.dK (dG (wR m i y))))->Q v H'):Tu (.ref d) [.int i,y] H Q :=
 ⟨d,m,i,y,rfl,rfl,hd,hl,fun v e=>h v H (.inl ⟨e,rfl⟩),fun e=>h y _ (.inr ⟨e,rfl,by rw [Vr m i y nd]⟩)⟩
end L2
namespace GX
open PySem
section
variable {prog:Program} {w:World} {A:Around} {E:Value->Shared->Prop} {s:Shared} {K:Type} [DecidableEq K] {knd:KeyKind prog w K}
end
end GX
namespace L2
open PySem PySem.Spec PyProof.Rows
section
variable {X:Cx}
end
end L2
namespace GX
open PySem PyProof.Rows
theorem TQ (a v d:Value):argsOk "max" ⟨[a],[(Str.ofString "key",v),(Str.ofString "default",d)]⟩:=by unfold argsOk; kernel_rfl
end GX
namespace L2
open PySem PySem.Spec PyProof.Rows
abbrev TLs (K:PySem.W.Frag) (H:Hp):List V->List Nat->Prop:=Paired fun v n=>∃ a ys,v=.ref a/\SqT K H a ys/\ys.length=n
def Tv (K:PySem.W.Frag) (te td:TE):TE:=fun σ H Q=>te σ H fun x H1=>td σ H1 fun y H2=>∃ l vs ns,x=.ref l/\SqL K H2 l vs/\TLs K H2 vs ns/\(vs=[]->Q y H2)/\∀ (i:Nat) v n,vs[i]?=some v->ns[i]?=some n->(∀ j m,ns[j]?=some m->m<=n/\(j < i->m < n))->Q v H2
theorem bu {α β:Type} {F:α->β->Prop}:∀ {l:List α} {m:List β} {i:Nat} {a:α},Paired F l m->l[i]?=some a->∃ b,m[i]?=some b/\F a b
 | _,_,_,_,.nil,e=>by simp at e
 | _,_,0,_,.cons h _,e=>by simp at e; subst e; exact ⟨_,rfl,h⟩
 | _,_,i + 1,x,.cons _ t,e=>by
  obtain ⟨b,h1,h2⟩:=bu (i:=i) t (by simpa using e)
  exact ⟨b,by simpa using h1,h2⟩
section
variable {X:Cx}
theorem K5 {K:PySem.W.Frag} {e dflt:Expr} {te td:TE} {p p2 pos k1 k2:Pos} (hK:X.K=K) (hc:X.calm=true) (ha:PA X [e] (yE te Ig)) (hd:PE X dflt td) (hg:Gl X "max") (hm:X.mg "max"=none) (hgl:Gl X "len") (hml:X.mg "len"=none)
  (h1:backTo pos (starEach [e] X.env)=(false,eval e X.env) :: backTo pos (starEach [] X.env):=by rfl) (h2:(backTo pos (starEach [e] X.env)).any (·.1)=false:=by rfl) :
  PE X (.Call (.Name "max" p) [e] [⟨some "key",.Name "len" p2,k1⟩,⟨some "default",dflt,k2⟩] pos) (Tv K te td):=by
 subst hK
 intro pins s σ H Q I h
 refine wpAny_Call_Name_kw (q9 I hg hm PyProof.Rows.boot_max ?_)
 refine PyProof.Rows.callWith_kw ?_ h1 h2
 refine thn (ha pos pins s σ H (fun vs H1=>match vs with | [x]=>td σ H1 fun y H2=>∃ l vs ns,x=.ref l/\SqL X.K H2 l vs/\TLs X.K H2 vs ns/\(vs=[]->Q y H2)/\∀ (i:Nat) v n,vs[i]?=some v->ns[i]?=some n->(∀ j m,ns[j]?=some m->m<=n/\(j < i->m < n))->Q v H2 | _=>False) I h) fun us s1 ⟨vs,H1,I1,r1,q1⟩=>?_
 obtain ⟨x,rfl⟩:∃ x,vs=[x]:=by
  match vs,q1 with
  | [x],_=>exact ⟨x,rfl⟩
 obtain ⟨u,rfl,rx⟩:=vals1 r1
 refine PyProof.Rows.kws_cons (q9 I1 hgl hml PySem.boot_len ?_)
 refine PyProof.Rows.kws_cons (thn (hd pins s1 σ H1 _ I1 q1) fun w s2 ⟨y,H2,I2,ry,l,xs,ns,ex,hl,ht,q0,q⟩=>?_)
 subst ex
 cases rx
 refine PyProof.Rows.kws_nil ?_
 obtain ⟨its,rv,pl,hz⟩:=I2.list hl
 have l63:=vG
 have lx:=rv.length
 have ln:xs.length=ns.length:=Paired.length ht
 have lens:∀ (i:Nat) v,its[i]?=some v->∃ x n a ys,xs[i]?=some x/\ns[i]?=some n/\x=.ref a/\v=.ref a/\SqT X.K H2 a ys/\ys.length=n:=by
  intro i v e
  have hi:i < xs.length:=by rw [lx]; exact (List.getElem?_eq_some_iff.mp e).1
  obtain ⟨n,hn,a,ys,ea,hs,hl⟩:=bu ht (List.getElem?_eq_getElem hi)
  obtain ⟨u,hu,ru⟩:=rv.get (List.getElem?_eq_getElem hi)
  rw [e] at hu
  cases hu
  rw [ea] at ru
  exact ⟨_,n,a,ys,List.getElem?_eq_getElem hi,hn,ea,ru,hs,hl⟩
 show wpAny _ _ (call (.builtin "max") [Value.ref l] [(Str.ofString "key",.builtin "len"),(Str.ofString "default",w)]) _ _ _
 refine GX.IK GX.Kv GX.O5 PySem.F.entry_max_loop PySem.F.plain_max_loop (ko:=some (.builtin "len")) (d:=some w) (I2.ok.hd hc) rfl (GX.TQ _ _ _) pl.isList
  (fun i j=>decide (((ns.getD i 0:Nat):Int) > ((ns.getD j 0:Nat):Int))) (fun i=>by simp) (fun i j h=>by simp at h ⊢; omega) (fun a b c h h2=>by simp at h h2 ⊢; omega) (fun i v=>∃ t,v=.int ((ns.getD i 0:Nat):Int) t) ?_ ?_ ?_ ?_
 ·intro i v h tk hv G
  obtain ⟨x,n,a,ys,hx,hn,rfl,rfl,hs,hl⟩:=lens i v hv
  obtain ⟨its2,r2,tp,hz2⟩:=I2.tuple hs
  have l2:=r2.length
  refine len_tuple (s:={ s2 with heap:=h,toks:=tk }) (tp.keeps G) (by simp only [List.size_toArray] <;> omega) (And.intro ⟨_,congrArg (Value.int · _) ?_⟩ ⟨_,rfl⟩)
  rw [List.size_toArray,← r2.length,hl,List.getD_eq_getElem?_getD,hn]
  rfl
 ·exact fun i j k k' h tk hk hk' G Q q=>CmpOf.ints_gt (P:=fun i v=>∃ t,v=.int ((ns.getD i 0:Nat):Int) t) (fun i=>((ns.getD i 0:Nat):Int)) (fun _ _ z=>z) j i _ _ _ _ _ hk hk' q
 ·exact fun e=>⟨w,rfl,fun h tk G=>⟨y,H2,I2.kept (t':=tk) G,ry,q0 (List.eq_nil_of_length_eq_zero (by rw [lx,e]; rfl))⟩⟩
 ·intro i v h tk hv ft G
  obtain ⟨x,n,a,ys,hx,hn,rfl,rfl,hs,hl⟩:=lens i v hv
  refine ⟨.ref a,H2,I2.kept (t':=tk) G,rfl,q i _ n hx hn fun j m hm=>?_⟩
  have b:=ft j (by have:=(List.getElem?_eq_some_iff.mp hm).1; omega)
  simp only [List.getD_eq_getElem?_getD,hn,hm,Option.getD_some,decide_eq_false_iff_not,decide_eq_true_eq] at b
  omega
end
theorem Ut {K:PySem.W.Frag} {te td:TE} {σ:St} {H:Hp} {Q:VK} (h:te σ H fun x H1=>td σ H1 fun y H2=>∃ l vs ns,x=.ref l/\SqL K H2 l vs/\TLs K H2 vs ns/\(vs=[]->Q y H2)/\∀ (i:Nat) v n,vs[i]?=some v->ns[i]?=some n->(∀ j m,ns[j]?=some m->m<=n/\(j < i->m < n))->Q v H2):Tv K te td σ H Q:=h
end L2
namespace HT
open PySem PyProof.Rows
section
open PySem.SeqAt
open PySem.AutoSeq1 (wpAny_loadPart')
open PySem.MeetsSeq PySem.MeetsSeq2 PySem.MeetsSeq3
end
section
variable {prog:Program} {w:World} {A:Around} {E:Value->Shared->Prop} {s:Shared}
end
end HT
namespace L2
open PySem PySem.Spec PyProof.Rows
section
variable {X:Cx}
end
section
variable {me hd ba ye vo re ag v:V}
end
end L2
namespace GX
open PySem PyProof.Rows
section
variable {prog:Program} {w:World} {A:Around} {R:Result->Shared->Prop} {I d:Addr} {fp wr:List Addr} {n:Nat} {P:Nat->Value->Prop} {St:Nat->Heap->Prop} {K:Type} [DecidableEq K] {knd:KeyKind prog w K}
def lX (kx:List (List K×Addr×Value)):List (List K×Addr×Value):=kx.foldl (fun acc p=>storedH acc p.1 p.2.1 p.2.2) []
theorem Dj (kx:List (List K×Addr×Value)) (p:List K×Addr×Value):lX (kx ++ [p])=storedH (lX kx) p.1 p.2.1 p.2.2:=by
 unfold lX
 rw [List.foldl_append]
 rfl
theorem Eu {xs:List (List K×Addr×Value)} {k:List K} {b:Addr} {v:Value} {x:List K×Addr×Value} (h:x∈storedH xs k b v):(∃ y∈xs,y.1=x.1/\y.2.1=x.2.1)∨x=(k,b,v):=by
 unfold storedH at h
 by_cases z:(atKey xs k).isSome=true
 ·rw [if_pos z] at h
  obtain ⟨y,hy,e⟩:=List.mem_map.mp h
  refine .inl ⟨y,hy,?_⟩
  rw [← e]
  unfold putAt
  split <;> exact ⟨rfl,rfl⟩
 ·rw [if_neg z] at h
  rcases List.mem_append.mp h with q | q
  ·exact .inl ⟨x,q,rfl,rfl⟩
  ·exact .inr (List.mem_singleton.mp q)
theorem Ez (xs:List (List K×Addr×Value)) (k:List K) (b:Addr) (v:Value):(storedH xs k b v).length<=xs.length + 1:=by
 unfold storedH
 split
 ·rw [List.length_map]; omega
 ·rw [List.length_append]; exact Nat.le_refl _
theorem rF {G:List K->Addr->Prop}:∀ (kx acc:List (List K×Addr×Value)),(∀ x∈acc,G x.1 x.2.1)->(∀ p∈kx,G p.1 p.2.1)->(∀ x∈kx.foldl (fun acc p=>storedH acc p.1 p.2.1 p.2.2) acc,G x.1 x.2.1)/\(kx.foldl (fun acc p=>storedH acc p.1 p.2.1 p.2.2) acc).length<=acc.length + kx.length
 | [],acc,ha,_=>⟨ha,Nat.le_refl _⟩
 | p :: kx,acc,ha,h=>by
  have hp:=h p List.mem_cons_self
  have:=rF (G:=G) kx (storedH acc p.1 p.2.1 p.2.2) (fun x hx=>by
   rcases Eu hx with ⟨y,hy,e1,e2⟩ | e
   ·have:=ha y hy
    rw [e1,e2] at this
    exact this
   ·rw [e]; exact hp) (fun q hq=>h q (List.mem_cons_of_mem _ hq))
  refine ⟨this.1,?_⟩
  have l:=Ez acc p.1 p.2.1 p.2.2
  have l2:=this.2
  simp only [List.foldl_cons,List.length_cons]
  omega
theorem Gu {h h':Heap} {k:List K} {b:Addr} (x:IsTupleKey knd h k b) (e:∀ o,h.get? b=some o->h'.get? b=some o):IsTupleKey knd h' k b:=by
 obtain ⟨o,items,n,ho,r⟩:=x
 exact ⟨o,items,n,e o ho,r⟩
def DT (knd:KeyKind prog w K) (h:Heap) (d:Addr) (xs:List (List K×Addr×Value)):Prop:=∃ o es ep,h.get? d=some o/\o.ExactDict/\o.data=.dict es ep/\es.toList=xs.map (entryOfKey (tupleKind knd))/\(xs.map (·.1)).Nodup
theorem Kr (W:Walks prog w A.in1 I fp wr n P St) (nd:d∉fp) (h₀:Heap) (kx:List (List K×Addr×Value)) (hn:kx.length=n) (hz:n<=sizeLine) (hu:(tupleKind knd).room A.in1)
  (hK:∀ p∈kx,IsTupleKey knd h₀ p.1 p.2.1/\p.2.1≠d/\p.2.1∉wr)
  (hP:∀ i v,P i v->∃ a k b x o c,v=.ref a/\kx[i]?=some (k,b,x)/\h₀.get? a=some o/\o.cls=.type "tuple"/\o.data=.seq #[.ref b,x] c/\a≠d/\a∉wr) :
  ∀ (k i:Nat) (s:Shared) (t:Tok),n=i + k->St i s.heap->(∀ b o,b∉wr->b≠d->h₀.get? b=some o->s.heap.get? b=some o)->DT knd s.heap d (lX (kx.take i)) ->
  (∀ h' tk,(∀ b o,b∉wr->b≠d->h₀.get? b=some o->h'.get? b=some o)->DT knd h' d (lX kx)->R (.ok (.ret .none)) { s with heap:=h',toks:=tk }) ->
  codeAny (model prog w) A (.builtin "dict.update.loop" ⟨[.ref d,.ref I,.int i t,.none],[]⟩) R s:=by
 have nw:d∉wr:=fun z=>nd (W.sub _ z)
 have isAt:∀ (h:Heap) (j:Nat),(∀ b o,b∉wr->b≠d->h₀.get? b=some o->h.get? b=some o)->∀ x∈lX (kx.take j),IsTupleKey knd h x.1 x.2.1:=fun h j kp=>(rF (G:=fun k b=>IsTupleKey knd h k b) (kx.take j) [] (fun x hx=>(nomatch hx)) (fun p hp=>by
  obtain ⟨q1,q2,q3⟩:=hK p (List.mem_of_mem_take hp)
  exact Gu q1 fun o e=>kp _ o q3 q2 e)).1
 intro k i s t en st kp dd fin
 refine Od (D:=fun i h=>(∀ b o,b∉wr->b≠d->h₀.get? b=some o->h.get? b=some o)/\DT knd h d (lX (kx.take i))) W nd ?_ ?_ k i s t en st ⟨kp,dd⟩ fun h tk q=>fin h tk q.1 ?_
 ·rintro i h h' ⟨kp,od,es,ep,ho,r⟩ q
  exact ⟨fun b o nb nb' e=>q b o nb (kp b o nb nb' e),od,es,ep,q d od nw ho,r⟩
 ·rintro i v s pv ⟨kp,od,es,ep,ho,r1,r2,r3,r4⟩
  obtain ⟨a,k,b,x,o,c,rfl,hx,ha,hc,hd,na,naw⟩:=hP i v pv
  obtain ⟨q1,q2,q3⟩:=hK _ (List.mem_of_getElem? hx)
  have len:=(rF (G:=fun _ _=>True) (kx.take i) [] (fun _ _=>trivial) fun _ _=>trivial).2
  refine ⟨a,o,.ref b,x,c,rfl,kp a o naw na ha,hc,hd,fun Q q=>wpAny_dictSet_heap (knd:=tupleKind knd) hu (Gu q1 fun o e=>kp _ o q3 q2 e) ⟨od,es,ep,ho,r1,r2,r3,isAt s.heap i kp,r4⟩ (fun h2 d2 sb=>q h2 ⟨fun b o nb nb' e=>(sb.2 b nb').trans (kp b o nb nb' e),?_⟩ sb.2 _) (Nat.le_trans len (by rw [List.length_take,List.length_nil]; omega))⟩
  obtain ⟨od,es,ep,ho,r1,r2,r3,_,r4⟩:=d2
  rw [List.take_succ,hx,Option.toList_some,Dj]
  exact ⟨od,es,ep,ho,r1,r2,r3,r4⟩
 ·have z:=q.2
  rwa [← hn,List.take_length] at z
end
section
variable {prog:Program} {w:World} {A:Around} {E:Value->Shared->Prop} {s:Shared} {K:Type} [DecidableEq K] {knd:KeyKind prog w K}
theorem z7 {l:Addr} {vs:List Value} {n:Nat} {kx:List (List K×Addr×Value)} {Q:Value->Shared->Prop} (hA:A.handled=none) (hu:(tupleKind knd).room A.in1.in1)
  (hl:s.heap.get? l=some { cls:=.type "list",dict:=none,data:=.seq vs.toArray n,slots:=#[] }) (hz:vs.length<=sizeLine) (hlen:kx.length=vs.length)
  (hK:∀ p∈kx,IsTupleKey knd s.heap p.1 p.2.1)
  (hP:∀ (i:Nat) v,vs[i]?=some v->∃ a k b x o c,v=.ref a/\kx[i]?=some (k,b,x)/\s.heap.get? a=some o/\o.cls=.type "tuple"/\o.data=.seq #[.ref b,x] c)
  (h:∀ h' tk,(∀ b o,s.heap.get? b=some o->h'.get? b=some o)->DT knd h' s.heap.objs.size (lX kx)->Q (.ref s.heap.objs.size) { s with heap:=h',toks:=tk }) :
  wpAny (model prog w) A (call (.type "dict") [.ref l]) Q E s:=by
 have hl':(newD s.heap).get? l=some { cls:=.type "list",dict:=none,data:=.seq vs.toArray n,slots:=#[] }:=Heap.get?_push_of_some _ hl
 refine yR (T:="list") ⟨_,hl',rfl⟩ (by decide) (Js hA hl' fun h1 tk1 k1=>⟨rfl,?_⟩)
 have hl1:=k1 l _ hl'
 have lt1:l < h1.objs.size:=Heap.lt_size hl1
 have ld:l < s.heap.objs.size:=Heap.lt_size hl
 have il:h1.IsList l vs.toArray:=⟨_,hl1,rfl,n,rfl⟩
 have d1:DT knd h1 s.heap.objs.size []:=by
  obtain ⟨od,es,ep,ho,r1,r2,r3,_,r4⟩:=Heap.DictOfH.new (knd:=tupleKind knd) s.heap
  exact ⟨od,es,ep,k1 _ _ ho,r1,r2,r3,r4⟩
 have dlt:s.heap.objs.size < h1.objs.size:=by
  obtain ⟨od,es,ep,ho,r⟩:=d1
  exact Heap.lt_size ho
 have hI:∀ {b:Addr},b < h1.objs.size->b≠h1.objs.size:=fun z=>Nat.ne_of_lt z
 have nw:∀ {b:Addr},b < s.heap.objs.size->b∉[h1.objs.size]:=fun {b} hb z=>by
  have z':b=h1.objs.size:=by simpa using z
  exact absurd (Nat.lt_trans hb dlt) (by rw [z']; exact Nat.lt_irrefl _)
 refine wpAny_pyIter_list (s:={ s with heap:=h1,toks:=tk1 }) il ?_
 have W:=Walks.list (prog:=prog) (w:=w) (A:=A.in1.in1) hA h1.objs.size l (hI lt1) vs.toArray
 refine Kr (A:=A.in1) (knd:=knd) W (d:=s.heap.objs.size) ?_ s.heap kx (by rw [hlen,List.size_toArray]) (by rw [List.size_toArray]; exact hz) hu (fun p hp=>?_) (fun i v hv=>?_) vs.toArray.size 0 _ 0 (by omega)
  ⟨⟨_,Heap.get?_push_size _ rfl,rfl,rfl⟩,il.push _⟩ (fun b o _ nb e=>Heap.get?_push_of_some _ (k1 b o (Heap.get?_push_of_some _ e))) ?_ fun h2 tk2 k2 d2=>?_
 ·intro z
  have z':s.heap.objs.size=h1.objs.size∨s.heap.objs.size=l:=by simpa using z
  rcases z' with z' | z'
  ·exact absurd dlt (by rw [z']; exact Nat.lt_irrefl _)
  ·exact absurd ld (by rw [z']; exact Nat.lt_irrefl _)
 ·have q:=hK p hp
  obtain ⟨o,items,m,ho,r⟩:=id q
  exact ⟨q,Nat.ne_of_lt (Heap.lt_size ho),nw (Heap.lt_size ho)⟩
 ·obtain ⟨a,k,b,x,o,c,e1,e2,e4,e5,e6⟩:=hP i v (by simpa using hv)
  exact ⟨a,k,b,x,o,c,e1,e2,e4,e5,e6,Nat.ne_of_lt (Heap.lt_size e4),nw (Heap.lt_size e4)⟩
 ·obtain ⟨od,es,ep,ho,r⟩:=d1
  exact ⟨od,es,ep,Heap.get?_push_of_some _ ho,r⟩
 ·exact ⟨rfl,h h2 tk2 (fun b o e=>k2 b o (nw (Heap.lt_size e)) (Nat.ne_of_lt (Heap.lt_size e)) e) d2⟩
end
end GX
namespace L2
open PySem PySem.Spec PyProof.Rows
abbrev GZ (H:Hp):List V->List (List Key×V)->Prop:=Paired fun x q=>∃ a b,x=.ref a/\H a=some (.tup [.ref b,q.2])/\H b=some (.tup (q.1.map kV))
def pR (ps:List (List Key×V)):List (List Key×V):=ps.foldl (fun acc p=>putK acc p.1 p.2) []
section
variable {X:Cx}
theorem Ao {pins:List (Addr×Obj)} {σ:St} {H:Hp} {s:Shared} (I:Inv X pins σ H s):∀ {xs:List V} {us:List Value} {ps:List (List Key×V)},GZ H xs ps->Vals xs us ->
  ∃ kx:List (List Key×Addr×Value),Paired (fun (p:List Key×V) (q:List Key×Addr×Value)=>p.1=q.1/\H q.2.1=some (.tup (p.1.map kV))/\RelV p.2 q.2.2) ps kx/\kx.length=us.length/\∀ (i:Nat) v,us[i]?=some v->∃ a k b x o c,v=.ref a/\kx[i]?=some (k,b,x)/\s.heap.get? a=some o/\o.cls=.type "tuple"/\o.data=.seq #[.ref b,x] c
 | _,_,_,.nil,.nil=>⟨[],.nil,rfl,fun i v e=>by simp at e⟩
 | x :: xs,u :: us,p :: ps,.cons h t,.cons r q=>by
  obtain ⟨kx,k1,k2,k3⟩:=Ao I t q
  obtain ⟨a,b,rfl,ha,hb⟩:=h
  obtain rfl:u=Value.ref a:=r
  obtain ⟨_,its,rv,o,ho,hc,n,hd,_⟩:[V.ref b,p.2].length<=sizeLine/\∃ its:List Value,Vals [V.ref b,p.2] its/\IsTpl s.heap a its.toArray:=I.hok a _ ha
  obtain ⟨u1,u2,rfl,r1,r2⟩:=vals2 rv
  obtain rfl:u1=Value.ref b:=r1
  refine ⟨(p.1,b,u2) :: kx,.cons ⟨rfl,hb,r2⟩ k1,congrArg (· + 1) k2,fun i v e=>?_⟩
  cases i with
  | zero =>
   have e':Value.ref a=v:=Option.some.inj e
   subst e'
   exact ⟨a,p.1,b,u2,o,n,rfl,rfl,ho,hc,hd⟩
  | succ i=>exact k3 i v e
theorem JR {H:Hp}:∀ {ps:List (List Key×V)} {kx:List (List Key×Addr×Value)},Paired (fun (p:List Key×V) (q:List Key×Addr×Value)=>p.1=q.1/\H q.2.1=some (.tup (p.1.map kV))/\RelV p.2 q.2.2) ps kx->∀ {acc:List (List Key×V)} {xs:List (List Key×Addr×Value)},KT H acc xs ->
  KT H (ps.foldl (fun acc p=>putK acc p.1 p.2) acc) (kx.foldl (fun acc p=>storedH acc p.1 p.2.1 p.2.2) xs)
 | _,_,.nil,_,_,h=>h
 | p :: ps,q :: kx,.cons ⟨e1,e2,e3⟩ t,acc,xs,h=>by
  rw [List.foldl_cons,List.foldl_cons]
  refine JR t ?_
  rw [← e1]
  exact h.put p.1 e2 e3
theorem Hj (ps:List (List Key×V)):∀ acc:List (List Key×V),(ps.foldl (fun acc p=>putK acc p.1 p.2) acc).length<=acc.length + ps.length:=by
 induction ps with
 | nil=>intro acc; exact Nat.le_refl _
 | cons p ps ih =>
  intro acc
  have h1:=ih (putK acc p.1 p.2)
  have h2:=nG acc p.1 p.2
  simp only [List.foldl_cons,List.length_cons]
  omega
theorem Gf (hc:X.calm=true) (hu:X.A.units + 2 < cLine):gC X (.type "dict") (fun xs H Q=>∃ (a:Addr) (ys:List V) (ps:List (List Key×V)),xs=[.ref a]/\H a=some (.lst ys)/\GZ H ys ps/\ps.length<=1000/\∀ p,H p=none->Q (.ref p) (upd H p (.dT (pR ps)))):=by
 intro pins s σ H xs us Q I r h
 obtain ⟨a,ys,ps,rfl,ha,hp,hl,q⟩:=h
 obtain ⟨u,rfl,rx⟩:=vals1 r
 cases rx
 obtain ⟨z,its,n,rv,hlen,e⟩:=I.lstM ha
 obtain ⟨kx,k1,k2,k3⟩:=Ao I hp rv
 have hK:∀ p∈kx,IsTupleKey (bI X.prog X.w) s.heap p.1 p.2.1:=by
  have all:∀ {l:List (List Key×V)} {m:List (List Key×Addr×Value)},Paired (fun (p:List Key×V) (q:List Key×Addr×Value)=>p.1=q.1/\H q.2.1=some (.tup (p.1.map kV))/\RelV p.2 q.2.2) l m->∀ x∈m,IsTupleKey (bI X.prog X.w) s.heap x.1 x.2.1:=by
   intro l m q
   induction q with
   | nil=>intro x hx; exact nomatch hx
   | @cons a b as bs h t ih =>
    intro x hx
    rcases List.mem_cons.mp hx with z | z
    ·rw [z,← h.1]; exact key_of I.hok h.2.1
    ·exact ih x z
  exact all k1
 refine GX.z7 (knd:=bI X.prog X.w) (I.ok.hd hc) ?_ e (by rw [← hlen]; exact z) k2 hK k3 fun h' tk kp dd=>?_
 ·exact hu
 have I0:Inv X pins σ H { s with heap:=h',toks:=tk }:=I.kept kp
 obtain ⟨o,es,ep,ho,r1,r2,r3,r4⟩:=dd
 refine ⟨.ref s.heap.objs.size,_,I.laid (o:=.dT (pR ps)) (t':=tk) kp (Nat.le_refl _) ⟨?_,beq_eq_false_iff_ne.mpr (Ne.symm (Nat.ne_of_lt I.big)),GX.lX kx,?_,o,es,ep,ho,r1,r2,r3,r4⟩,rfl,q _ (I.hok.fresh (Nat.le_refl _))⟩
 ·have:=Hj ps []
  rw [List.length_nil] at this
  exact Nat.le_of_lt (aJ (by unfold pR; omega))
 ·refine (JR k1 .nil).keeps fun c zs ec=>?_
  rw [aF (aD ec (I.hok.fresh (Nat.le_refl _)))]
  exact ec
end
end L2
namespace L2
open PySem PySem.Spec PyProof.Rows
abbrev Cx.one (X:Cx):Cx:={ X with A:=X.A.in1,xe:=fun _ _=>False }
section
variable {X:Cx} {pins:List (Addr×Obj)} {σ:St} {H:Hp} {s:Shared}
theorem Inv.one (I:Inv X pins σ H s):Inv X.one pins σ H s :=
 ⟨⟨I.ok.mod,I.ok.kind,I.ok.glob,I.ok.blt,I.ok.above,I.ok.inj,I.ok.has,I.ok.cab,I.ok.hd,I.ok.frames,I.ok.stk,I.ok.exf,I.ok.bs,I.ok.bsz,I.ok.noex,I.ok.exfs,I.ok.funs,I.ok.frf⟩,I.os,I.bare,I.base,I.loc,I.cell,I.free,I.freeC,I.pin,I.hok,I.len⟩
theorem Inv.back (ok:X.Ok) (I:Inv X.one pins σ H s):Inv X pins σ H s :=
 ⟨ok,I.os,I.bare,I.base,I.loc,I.cell,I.free,I.freeC,I.pin,I.hok,I.len⟩
end
theorem Jq:∀ a:List Int,HT.lexLt a a=false
 | []=>rfl
 | x :: a=>by rw [HT.o4,if_pos rfl]; exact Jq a
theorem Ga:∀ {a b:List Int},HT.lexLt a b=true->HT.lexLt b a=false
 | [],[],h=>by cases h
 | [],_ :: _,_=>rfl
 | _ :: _,[],h=>by cases h
 | x :: a,y :: b,h=>by
  rw [HT.o4] at h ⊢
  by_cases z:x=y
  ·rw [if_pos z] at h
   rw [if_pos z.symm]
   exact Ga h
  ·rw [if_neg z] at h
   rw [if_neg (fun w=>z w.symm)]
   have h:=of_decide_eq_true h
   exact decide_eq_false (by omega)
theorem Jv:∀ {a b c:List Int},HT.lexLt a b=true->HT.lexLt c b=false->HT.lexLt a c=true
 | [],[],_,h,_=>by cases h
 | _ :: _,[],_,h,_=>by cases h
 | [],_ :: _,[],_,h=>by cases h
 | [],_ :: _,_ :: _,_,_=>rfl
 | x :: a,y :: b,[],h,h2=>by cases h2
 | x :: a,y :: b,z :: c,h,h2=>by
  rw [HT.o4] at h h2 ⊢
  by_cases e1:x=y
  ·rw [if_pos e1] at h
   by_cases e2:z=y
   ·rw [if_pos e2] at h2
    rw [if_pos (e1.trans e2.symm)]
    exact Jv h h2
   ·rw [if_neg e2] at h2
    have h2:=of_decide_eq_false h2
    rw [if_neg (fun w=>e2 (w.symm.trans e1))]
    exact decide_eq_true (by omega)
  ·rw [if_neg e1] at h
   have h:=of_decide_eq_true h
   by_cases e2:z=y
   ·rw [if_neg (fun w=>e1 (w.trans e2))]
    exact decide_eq_true (by omega)
   ·rw [if_neg e2] at h2
    have h2:=of_decide_eq_false h2
    rw [if_neg (by omega)]
    exact decide_eq_true (by omega)
section
variable {X:Cx} {pins:List (Addr×Obj)} {σ:St} {l f:Addr} {xs:List V} {its:List Value} {ks:List (List Int)} {k:Nat} {fd:FuncData} {ps:List Str} {sp:Sp}
theorem Wj (a v d:Value):argsOk "min" ⟨[a],[(Str.ofString "key",v),(Str.ofString "default",d)]⟩:=by unfold argsOk; kernel_rfl
theorem T9 {s:Shared} {H:Hp} {Q:Value->Shared->Prop} {E:Value->Shared->Prop} (d:Value) (hh:X.A.handled=none) (hu:X.A.units + 2 < cLine) (F:FnOk X.prog X.w X.K X.mg X.base CX0 k f fd ps sp) (hr:Room k X.A.in1) (hb:Binds X.K fd ps [])
  (IV:Inv X pins σ H s) (rv:Vals xs its) (lk:xs.length=ks.length) (lst:∀ s H',Inv X pins σ H' s->Same H H'->s.heap.IsList l its.toArray)
  (KY:∀ (i:Nat) x k H3 (Q':VK),xs[i]?=some x->ks[i]?=some k->Same H H3->(∀ H4 t,Same H3 H4->SqT X.K H4 t (k.map V.int)->Q' (.ref t) H4)->sp [x] H3 Q' E0)
  (hD:xs=[]->∀ s',Inv X pins σ H s'->Q d s')
  (hR:∀ (i:Nat) v kb s' H',its[i]?=some v->ks[i]?=some kb->(∀ (j':Nat) k',ks[j']?=some k'->HT.lexLt k' kb=false/\(j' < i->HT.lexLt kb k'=true))->Inv X pins σ H' s'->Same H H'->Q v s') :
  wpAny (model X.prog X.w) X.A (call (.builtin "min") [.ref l] [(Str.ofString "key",.ref f),(Str.ofString "default",d)]) Q E s:=by
 have lx:=rv.length
 have fp:∀ x H',x=s.heap.objs.size∨x=s.heap.objs.size + 1->H' x=none->vL X pins H' x:=fun x H' hx n=>IV.fpOk (by rcases hx with rfl | rfl <;> omega) n
 refine GX.Bf GX.Kh GX.Qx PySem.F.entry_min_loop PySem.F.plain_min_loop (ko:=some (.ref f)) (d:=some d) (vs:=its) hh rfl (Wj _ _ _) (lst s H IV (.refl _)) (bt:=fun i j=>HT.lexLt (ks.getD i []) (ks.getD j []))
  (G:=fun L s'=>∃ H',Inv X pins σ H' s'/\(Same H H'/\(L=[]->H'=H))/\(∀ x,x=s.heap.objs.size∨x=s.heap.objs.size + 1->H' x=none)/\∀ p∈L,∃ t k,p.2=.ref t/\ks[p.1]?=some k/\SqT X.K H' t (k.map V.int))
  ⟨fun i=>Jq _,fun i j=>Ga,fun a b c=>Jv,?_,?_,?_,?_,?_,?_⟩ ?_ ?_ ?_
 ·exact fun p q L s' ⟨H',a,b,c,e⟩=>⟨H',a,⟨b.1,fun z=>nomatch z⟩,c,fun q hq=>e q (List.mem_cons_of_mem _ hq)⟩
 ·exact fun p L s' ⟨H',a,b,c,e⟩=>⟨H',a,⟨b.1,fun z=>nomatch z⟩,c,fun q hq=>e q (List.mem_singleton.mp hq ▸ List.mem_cons_self)⟩
 ·rintro x L s' h tk hx ⟨H',a,b,c,e⟩ kp
  obtain ⟨f0,f1,f2,f3,f4,f5⟩:=fp x H' hx (c x hx)
  exact ⟨H',a.turned (it:=x) kp f0 f1 f3 f4 f5,b,c,e⟩
 ·exact fun L s' ⟨H',a,b,_⟩=>lst s' H' a b.1
 ·rintro L s' j v a c m ⟨H',I1,⟨sm,_⟩,nn,hL⟩ hv hS hI
  obtain ⟨oI,gI,cI,dI⟩:=id hI
  have hx:j < xs.length:=by have:=(List.getElem?_eq_some_iff.mp hv).1; omega
  obtain ⟨v',hv',rx⟩:=rv.get (List.getElem?_eq_getElem hx)
  cases hv.symm.trans hv'
  have hk:ks[j]?=some (ks[j]'(lk ▸ hx)):=List.getElem?_eq_getElem _
  have pl:∀ b∈[s.heap.objs.size + 1,s.heap.objs.size],b=s.heap.objs.size∨b=s.heap.objs.size + 1:=fun b hb=>by simp at hb; exact hb.symm
  have IP:=I1.pinned (fp:=[s.heap.objs.size + 1,s.heap.objs.size]) (fun b hb=>fp b H' (pl b hb) (nn b (pl b hb))) fun b hb=>by
   rcases pl b hb with rfl | rfl
   ·exact ⟨oI,gI,fun z e=>by rw [dI] at e; cases e⟩
   ·exact ⟨_,hS,fun z e=>nomatch e⟩
  refine wpAny_mono (vN (X:=X.one) (vs:=[xs[j]]) (us:=[v]) (Q:=fun z H4=>∃ t,z=.ref t/\Same H' H4/\SqT X.K H4 t ((ks[j]'(lk ▸ hx)).map V.int)) (E:=E0) (dvs:=[]) (ds:=[]) F hr hb .nil (fun _ _ _ _ _ _ _ q=>q.elim) IP.one (.cons rx .nil) (by
   rw [List.append_nil]
   exact KY j _ _ H' _ (List.getElem?_eq_getElem hx) hk sm fun H4 t s4 h4=>⟨t,rfl,s4,h4⟩)) ?_ fun _ _ q=>q.elim
  rintro u s2 ⟨z,H4,I4,rz,t,rfl,s4,ht⟩
  cases rz
  have I4:=Inv.back IV.ok I4
  have at_:∀ b o,b∈[s.heap.objs.size + 1,s.heap.objs.size]->s'.heap.get? b=some o->s2.heap.get? b=some o/\H4 b=none:=fun b o hb e =>
   let r:=I4.pin (b,o) (List.mem_append_right _ (List.mem_append_right _ (jQ hb e)))
   ⟨r.1,r.2.1⟩
  have aS:=at_ _ _ (by simp) hS
  have aI:=at_ _ _ (by simp) gI
  refine ⟨⟨H4,I4.unpinned,⟨sm.trans s4,fun z=>nomatch z⟩,fun x hx=>?_,fun p hp=>?_⟩,aS.1,oI,aI.1,cI,dI⟩
  ·rcases hx with rfl | rfl
   ·exact aI.2
   ·exact aS.2
  ·rcases List.mem_cons.mp hp with rfl | hp
   ·exact ⟨t,_,rfl,hk,ht⟩
   ·obtain ⟨t',k',e1,e2,e3⟩:=hL p hp
    exact ⟨t',k',e1,e2,SmT.same s4 _ _ e3⟩
 ·rintro i j y y' s' ⟨H',I1,_,nn,hL⟩
  obtain ⟨t1,k1,rfl,e1,h1⟩:=hL (j,y) (by simp)
  obtain ⟨t2,k2,rfl,e2,h2⟩:=hL (i,y') (by simp)
  obtain ⟨ia,ra,pa,_⟩:=I1.tuple h1
  obtain ⟨ib,rb,pb,_⟩:=I1.tuple h2
  refine HT.Jd (A:=X.A.in1) pa pb (intsAre_of ra) (intsAre_of rb) (by show X.A.units + 1 < cLine; omega) ⟨?_,rfl⟩
  simp [List.getD_eq_getElem?_getD,e1,e2]
 ·exact fun h kp=>⟨H,IV.kept (t':=s.toks) kp,⟨.refl _,fun _=>rfl⟩,fun x hx=>IV.hok.fresh (by rcases hx with rfl | rfl <;> omega),by simp⟩
 ·exact fun e=>⟨d,rfl,fun s' ⟨H',a,b,_⟩=>hD (List.eq_nil_of_length_eq_zero (by rw [lx,e]; rfl)) s' (b.2 rfl ▸ a)⟩
 ·rintro i v y s' hv ft ⟨H',I1,⟨sm,_⟩,nn,hL⟩
  obtain ⟨t,k',_,e1,_⟩:=hL (i,y) (by simp)
  refine hR i v k' s' H' hv e1 (fun j k2 hj=>?_) I1 sm
  have b:=ft j (by have:=(List.getElem?_eq_some_iff.mp hj).1; omega)
  simpa [List.getD_eq_getElem?_getD,e1,hj] using b
end
theorem Room.one {k:Nat} {A:Around} (r:Room (k + 1) A):Room k A.in1:=⟨r.hd,by have:=r.dp; show A.depth + 3 * k + 5 < recursionLimit; omega,by have:=r.un; show A.units + 1 + 16 * k + 200 < cLine; omega⟩
def VN (K:PySem.W.Frag) (sp:Sp) (x y:V) (H2:Hp) (Q:VK):Prop:=∃ (l:Addr) (xs:List V) (ks:List (List Int)),x=.ref l/\SqL K H2 l xs/\xs.length=ks.length/\(∀ x∈xs,∃ p,x=V.ref p) /\
 (∀ (i:Nat) (x:V) (k:List Int) (H3:Hp) (Q':VK),xs[i]?=some x->ks[i]?=some k->Same H2 H3->(∀ H4 t,Same H3 H4->SqT K H4 t (k.map V.int)->Q' (.ref t) H4)->sp [x] H3 Q' E0)/\(xs=[]->Q y H2) /\
 ∀ (i:Nat) (v:V) (kb:List Int) (H':Hp),xs[i]?=some v->ks[i]?=some kb->(∀ (j':Nat) k',ks[j']?=some k'->HT.lexLt k' kb=false/\(j' < i->HT.lexLt kb k'=true))->Same H2 H'->Q v H'
def TJ (K:PySem.W.Frag) (sp:Sp) (te td:TE):TE:=fun σ H Q=>te σ H fun x H1=>td σ H1 fun y H2=>VN K sp x y H2 Q
theorem Az:∀ {xs:List V} {a b:List Value},Vals xs a->Vals xs b->(∀ x∈xs,∃ p,x=V.ref p)->a=b
 | _,_,_,.nil,.nil,_=>rfl
 | x :: xs,_,_,.cons r1 t1,.cons r2 t2,h=>by
  obtain ⟨p,rfl⟩:=h x List.mem_cons_self
  rw [Az t1 t2 fun y hy=>h y (List.mem_cons_of_mem _ hy)]
  cases r1
  cases r2
  rfl
section
variable {X:Cx}
theorem KR {K:PySem.W.Frag} {e dflt:Expr} {te td:TE} {p p2 pos k1 k2:Pos} {fx:Str} {k:Nat} {f:Addr} {fd:FuncData} {ps:List Str} {sp:Sp} (hK:X.K=K) (hc:X.calm=true) (hu:X.A.units + 2 < cLine) (ha:PA X [e] (yE te Ig)) (hd:PE X dflt td) (hg:Gl X "min") (hm:X.mg "min"=none)
  (G:FnOk X.prog X.w X.K X.mg X.base CX0 k f fd ps sp) (hmk:X.mg fx=some (.ref f)) (hbk:Binds X.K fd ps []) (hgk:Gl X fx) (hr:Room (k + 1) X.A) (hdb:(fx == ("__debug__":Str))=false:=by decide)
  (h1:backTo pos (starEach [e] X.env)=(false,eval e X.env) :: backTo pos (starEach [] X.env):=by rfl) (h2:(backTo pos (starEach [e] X.env)).any (·.1)=false:=by rfl) :
  PE X (.Call (.Name "min" p) [e] [⟨some "key",.Name fx p2,k1⟩,⟨some "default",dflt,k2⟩] pos) (TJ K sp te td):=by
 subst hK
 intro pins s σ H Q I h
 refine wpAny_Call_Name_kw (q9 I hg hm PyProof.Rows.boot_min ?_)
 refine PyProof.Rows.callWith_kw ?_ h1 h2
 refine thn (ha pos pins s σ H (fun vs H1=>match vs with | [x]=>td σ H1 fun y H2=>VN X.K sp x y H2 Q | _=>False) I h) fun us s1 ⟨vs,H1,I1,r1,q1⟩=>?_
 obtain ⟨x,rfl⟩:∃ x,vs=[x]:=by
  match vs,q1 with
  | [x],_=>exact ⟨x,rfl⟩
 obtain ⟨u,rfl,rx⟩:=vals1 r1
 refine PyProof.Rows.kws_cons (uT I1 hgk hmk ?_ hdb)
 refine PyProof.Rows.kws_cons (thn (hd pins s1 σ H1 _ I1 q1) fun w s2 ⟨y,H2,I2,ry,l,xs,ks,ex,hl,lk,rfs,KY,q0,q⟩=>?_)
 subst ex
 cases rx
 refine PyProof.Rows.kws_nil ?_
 obtain ⟨its,rv,pl,hz⟩:=I2.list hl
 have lx:=rv.length
 show wpAny _ _ (call (.builtin "min") [Value.ref l] [(Str.ofString "key",.ref f),(Str.ofString "default",w)]) _ _ _
 refine T9 (H:=H2) w (I2.ok.hd hc) hu G (Room.one hr) hbk I2 rv lk (fun s' H' I' sm=>?_) KY (fun e s' I'=>⟨y,H2,I',ry,q0 e⟩) (fun i v kb s' H' hv hkb best I' sm=>?_)
 ·obtain ⟨its',rv',pl',_⟩:=I'.list (sm.seq hl)
  rw [Az rv rv' rfs]
  exact pl'.isList
 ·have hi:i < xs.length:=by rw [lx]; exact (List.getElem?_eq_some_iff.mp hv).1
  obtain ⟨u',hu',ru⟩:=rv.get (List.getElem?_eq_getElem hi)
  rw [hv] at hu'
  cases hu'
  exact ⟨xs[i],H',I',ru,q i _ kb H' (List.getElem?_eq_getElem hi) hkb best sm⟩
end
theorem Uk {K:PySem.W.Frag} {sp:Sp} {te td:TE} {σ:St} {H:Hp} {Q:VK} (h:te σ H fun x H1=>td σ H1 fun y H2=>VN K sp x y H2 Q):TJ K sp te td σ H Q:=h
end L2
namespace L2
open PySem PySem.Spec PyProof.Rows
section
variable {prog:Program} {w:World} {A:Around} {E:Value->Shared->Prop} {s:Shared}
theorem Kg {l:Addr} {vs:List Value} {kw:List (Str×Value)} {Q:Value->Shared->Prop} (hl:s.heap.IsList l vs.toArray) (h64:vs.length < 64) (a1:argsOk "sorted" ⟨[.ref l],kw⟩) (a2:∀ D,argsOk "list.sort" ⟨[D],kw⟩)
  (h:∀ h1:Heap,GX.uA s.heap h1->h1.get? (s.heap.objs.size + 1)=some (seqObj "list" vs.toArray 0)->wpAny (model prog w) A.in1.in1 (Builtin.«list.sort» ⟨[.ref (s.heap.objs.size + 1)],kw⟩) (fun f s2=>f=.done (.ret .none)/\Q (.ref (s.heap.objs.size + 1)) s2) E { s with heap:=h1 }) :
  wpAny (model prog w) A (call (.builtin "sorted") [.ref l] kw) Q E s:=by
 have z:vs.length<=sizeLine:=by rw [sizeLine_eq]; omega
 refine GX.vM a1 (collect_list hl (wpAny_bind (wpAny_newList ?_ z)) z)
 have g:GX.uA s.heap ((s.heap.push (seqObj "list" #[] 0)).update s.heap.objs.size (Obj.mapSeq (· ++ vs.toArray))):=fun b o q=>(Heap.get?_update_other _ _ (Nat.ne_of_gt (Heap.lt_size q))).trans (Heap.get?_push_of_some _ q)
 have sz:((s.heap.push (seqObj "list" #[] 0)).update s.heap.objs.size (Obj.mapSeq (· ++ vs.toArray))).objs.size=s.heap.objs.size + 1:=(Heap.size_after_update ..).trans (Heap.size_push ..)
 generalize (s.heap.push (seqObj "list" #[] 0)).update s.heap.objs.size (Obj.mapSeq (· ++ vs.toArray))=h0 at g sz ⊢
 have at1:(h0.push (seqObj "list" vs.toArray 0)).get? (s.heap.objs.size + 1)=some (seqObj "list" vs.toArray 0):=Heap.get?_push_at sz.symm rfl
 have:=h _ (fun b o q=>Heap.get?_push_of_some _ (g b o q)) at1
 show wpAny _ _ (holding [.ref h0.objs.size] (call (.builtin "list.sort") [.ref h0.objs.size] kw) >>= fun _=>ret (.ref h0.objs.size)) _ _ { s with heap:=h0.push (seqObj "list" vs.toArray 0) }
 rw [sz]
 refine wpAny_bind (wpAny_holding (wpAny_call_entry_kw slot_list_sort ⟨_,at1,rfl⟩ entry_list_sort (wpAny_mono this (fun f s2 q=>?_) fun _ _ e=>e) (a2 _)))
 exact ⟨_,q.1,wpAny_pure ⟨_,rfl,q.2⟩⟩
theorem emptied {a:Addr} {vs:List Value} {n:Nat} {k:Array Value->Nat->Value->Sem PySem.Fin} {P:PySem.Fin->Shared->Prop} (ho:s.heap.get? a=some (seqObj "list" vs.toArray n)) (h64:vs.length < 64)
  (h:∀ (h2:Heap) (e:Nat),(∀ b o,b≠a->s.heap.get? b=some o->h2.get? b=some o)->h2.get? a=some (seqObj "list" #[] e)->wpAny (model prog w) A (k vs.toArray e (.ref h2.objs.size)) P E { s with heap:=h2.push (seqObj "list" #[] 0) }) :
  wpAny (model prog w) A (Builtin.List.listItems (.ref a) >>= fun its=>Builtin.List.listUpdate (.ref a) (fun _=>#[]) >>= fun _=>seqEpoch a >>= fun e=>newTuple its.toList >>= fun t=>newList [] >>= fun ks=>holding [t,ks] (k its e ks)) P E s:=by
 have z:vs.toArray.size<=sizeLine:=by rw [List.size_toArray,sizeLine_eq]; omega
 obtain ⟨e,he⟩:∃ e,(s.heap.update a (Obj.mapSeq fun _=>(#[]:Array Value))).get? a=some (seqObj "list" #[] e):=⟨_,get?_update_seq ho fun _=>#[]⟩
 refine wpAny_bind (listItems_at ho rfl (wpAny_bind (listUpdate_at ho rfl (wpAny_bind (seqEpoch_at he rfl (wpAny_bind (wpAny_newTuple (wpAny_bind (wpAny_newList (wpAny_holding (h _ e (fun b o nb q=>?_) (Heap.get?_push_of_some _ he))) (Nat.zero_le _))) ?_)))) z (Nat.zero_le _))))
 ·exact Heap.get?_push_of_some _ ((Heap.get?_update_other _ _ (Ne.symm nb)).trans q)
 ·simpa using z
theorem Ha {a:Addr} {e:Nat} {out:Array Value} {tl:Nat->Sem PySem.Fin} {P:PySem.Fin->Shared->Prop} (ho:s.heap.get? a=some (seqObj "list" #[] e)) (hz:out.size<=sizeLine)
  (h:∀ (h1:Heap) (c:Nat),(∀ b o,b≠a->s.heap.get? b=some o->h1.get? b=some o)->h1.get? a=some (seqObj "list" out c)->wpAny (model prog w) A (tl e) P E { s with heap:=h1 }) :
  wpAny (model prog w) A (seqEpoch a >>= fun x=>Builtin.List.listUpdate (.ref a) (fun _=>out) >>= fun _=>tl x) P E s :=
 wpAny_bind (seqEpoch_at ho rfl (wpAny_bind (listUpdate_at ho rfl (h _ _ (fun b o nb q=>(Heap.get?_update_other _ _ (Ne.symm nb)).trans q) (get?_update_seq ho fun _=>out)) (Nat.zero_le _) (Nat.le_succ_of_le hz))))
end
end L2
namespace L2
open PySem PySem.Spec PyProof.Rows
def Lv {α:Type} (n:Nat) (P:α->Prop):PySem.W.KasT α->Prop
 | .ret a=>P a
 | .ask i j k=>i < n/\j < n/\∀ b,Lv n P (k b)
theorem rP {α β:Type} {n:Nat} {P:α->Prop} {P':β->Prop} {f:α->PySem.W.KasT β} (hf:∀ a,P a->Lv n P' (f a)):∀ t:PySem.W.KasT α,Lv n P t->Lv n P' (t.bind f)
 | .ret a,h=>hf a h
 | .ask i j k,h=>⟨h.1,h.2.1,fun b=>rP hf (k b) (h.2.2 b)⟩
def Prn (n:Nat) (p:Array Nat):Prop:=p.toList.Perm (List.range n)
theorem cL {n:Nat} {p:Array Nat} (h:Prn n p) (hn:0 < n) (i:Nat):p.getD i 0 < n:=by
 by_cases z:i < p.size
 ·have e:p.getD i 0=p[i]:=by simp [Array.getD,z]
  rw [e]
  have:p[i]∈p.toList:=Array.getElem_mem_toList z
  exact List.mem_range.mp (h.mem_iff.mp this)
 ·have e:p.getD i 0=0:=by simp [Array.getD,z]
  rw [e]
  exact hn
theorem nY {n:Nat} {p:Array Nat} (h:Prn n p) (i j:Nat):Prn n (PySem.W.kas_rev p i j):=(Array.perm_iff_toList_perm.mp (mirror_perm p i j _)).trans h
theorem MK {n:Nat} {p:Array Nat} (h:Prn n p) (i j:Nat):Prn n (bubble p i j):=(Array.perm_iff_toList_perm.mp (bubble_perm p i j)).trans h
section
variable {n:Nat} (hn:0 < n)
include hn
theorem G4 {p:Array Nat} (h:Prn n p):∀ f m:Nat,Lv n (fun _=>True) (PySem.W.kas_asc p f m)
 | 0,m=>trivial
 | f + 1,m=>by
  refine ⟨cL h hn _,cL h hn _,fun b=>?_⟩
  cases b
  ·exact G4 h f (m + 1)
  ·exact trivial
theorem xM:∀ (f:Nat) {p:Array Nat} (m q:Nat),Prn n p->Lv n (fun r=>Prn n r.1) (PySem.W.kas_desc f p m q)
 | 0,p,m,q,h=>h
 | f + 1,p,m,q,h=>by
  refine ⟨cL h hn _,cL h hn _,fun b=>?_⟩
  cases b
  ·refine ⟨cL h hn _,cL h hn _,fun d=>?_⟩
   cases d
   ·exact xM f (m + 1) (q + 1) h
   ·exact h
  ·show Lv n _ (if q > 0 then _ else _)
   by_cases z:q > 0
   ·rw [if_pos z]
    exact xM f (m + 1) 0 (nY h _ _)
   ·rw [if_neg z]
    exact xM f (m + 1) 0 h
theorem El {p:Array Nat} (h:Prn n p) (m r:Nat):Lv n (fun r=>Prn n r.2) (PySem.W.kas_tail3 m r p):=by
 refine rP (P:=fun _=>True) (fun a _=>?_) _ (G4 hn (nY h _ _) _ _)
 exact nY h _ _
theorem wH {p:Array Nat} (h:Prn n p) (m r:Nat):Lv n (fun r=>Prn n r.2) (PySem.W.kas_descPart m r p):=by
 refine rP (P:=fun r=>Prn n r.1) (fun a ha=>?_) _ (xM hn _ _ _ h)
 by_cases z:a.2.2 > 0
 ·rw [if_pos z]
  exact El hn (nY ha _ _) _ _
 ·rw [if_neg z]
  exact El hn ha _ _
theorem Qj {p:Array Nat} (h:Prn n p) (r:Nat):Lv n (fun r=>Prn n r.2) (PySem.W.kas_count r p):=by
 refine rP (P:=fun _=>True) (fun a _=>?_) _ (G4 hn h _ _)
 by_cases z:(a == r)=true
 ·rw [if_pos z]
  exact h
 ·rw [if_neg z]
  by_cases y:a > 1
  ·rw [if_pos y]
   refine ⟨cL h hn _,cL h hn _,fun b=>?_⟩
   cases b
   ·exact wH hn (nY h _ _) _ _
   ·exact h
  ·rw [if_neg y]
   exact wH hn h _ _
theorem zz {p:Array Nat} (h:Prn n p) (k:Nat):∀ f l r:Nat,Lv n (fun _=>True) (PySem.W.kas_place p k f l r)
 | 0,l,r=>trivial
 | f + 1,l,r=>by
  show Lv n _ (if l ≥ r then _ else _)
  by_cases z:l ≥ r
  ·rw [if_pos z]
   exact trivial
  ·rw [if_neg z]
   refine ⟨cL h hn _,cL h hn _,fun b=>?_⟩
   cases b
   ·exact zz h k f _ _
   ·exact zz h k f _ _
theorem QB:∀ (f:Nat) {p:Array Nat} (k:Nat),Prn n p->Lv n (Prn n) (PySem.W.kas_bin f p k)
 | 0,p,k,h=>h
 | f + 1,p,k,h=>rP (P:=fun _=>True) (fun a _=>QB f (k + 1) (MK h _ _)) _ (zz hn h k _ _ _)
theorem R9:Lv n (Prn n) (PySem.W.kas_sort n):=by
 refine rP (P:=fun r=>Prn n r.2) (fun a ha=>?_) _ (Qj hn (List.Perm.refl _) n)
 by_cases z:a.1 < n
 ·rw [if_pos z]
  exact QB hn _ _ ha
 ·rw [if_neg z]
  exact ha
end
theorem Vn {vs:List Value} {p:Array Nat} (h:Prn vs.length p):(p.toList.map fun i=>vs.getD i Value.none).Perm vs:=by
 have e:(List.range vs.length).map (fun i=>vs.getD i Value.none)=vs:=by
  refine List.ext_getElem (by simp) fun i h1 h2=>?_
  simp at h1 ⊢
  simp [h1]
 have:=h.map fun i=>vs.getD i Value.none
 rw [e] at this
 exact this
section
variable {prog:Program} {w:World} {A:Around} {E:Value->Shared->Prop} {s:Shared}
def TpI (h:Heap) (v:Value):Prop:=∃ a o xs n f ns,v=.ref a/\h.get? a=some o/\o.cls=.type "tuple"/\o.data=.seq xs n/\IntsAre xs.toList (f :: ns)
theorem kat_tups {h:Heap}:∀ {vs:List Value},(∀ v∈vs,TpI h v)->∃ fs:List Value,PySem.W.KatTups h vs fs/\(∀ v∈fs,∃ n t,v=Value.int n t)/\fs.length=vs.length
 | [],_=>⟨[],PySem.W.KatTups.nil,by simp,rfl⟩
 | v :: vs,hv=>by
  obtain ⟨fs,h1,h2,h3⟩:=kat_tups (vs:=vs) fun v hv'=>hv v (List.mem_cons_of_mem _ hv')
  obtain ⟨a,o,xs,n,f,ns,rfl,e2,e3,e4,e5⟩:=hv v List.mem_cons_self
  obtain ⟨w,hw,tk,ew⟩:∃ w,xs[0]?=some w/\∃ tk,w=Value.int f tk:=by
   rw [← Array.getElem?_toList]
   generalize xs.toList=l at e5 ⊢
   cases e5 with
   | cons _ t r=>exact ⟨_,rfl,_,rfl⟩
  refine ⟨w :: fs,PySem.W.KatTups.cons e2 e3 e4 hw h1,fun u hu=>?_,by rw [List.length_cons,List.length_cons,h3]⟩
  rcases List.mem_cons.mp hu with z | z
  ·rw [z,ew]; exact ⟨_,_,rfl⟩
  ·exact h2 u z
end
section
variable {X:Cx}
end
end L2
namespace L2
open PySem PySem.Spec PyProof.Rows
section
variable {X:Cx} {pins:List (Addr×Obj)} {σ:St} {H H0:Hp} {s:Shared} {h':Heap}
theorem Inv.adopt {it:Addr} {o:HO} {t':Nat} (I:Inv X pins σ H s) (k:∀ b o,b≠it->s.heap.get? b=some o->h'.get? b=some o) (hf:vL X pins H it)
  (new:ObjOk X.prog X.w (upd H it o) h' it o):Inv X pins σ (upd H it o) { s with heap:=h',toks:=t' }:=by
 obtain ⟨f0,f1,f2,f3,f4,f5⟩:=hf
 have nit:∀ b u,H b=some u->b≠it:=fun b u e z=>by rw [z,f0] at e; cases e
 refine I.step (g':=s.gens) (d':=s.drawn) (ch:=[it]) (fun b hb=>?_) (fun b o _ _ hc e _=>k b o (fun z=>hc (by simp [z])) e) (fun b o _ _ hc e _=>⟨o.slots,k b o (fun z=>hc (by simp [z])) e⟩) (fun b ob hc e n=>by rw [aF (fun z=>hc (by simp [z]))]; exact n)
  (fun b o hc e=>⟨o,k b o (fun z=>hc (by simp [z])) e⟩) (fun b xs e=>by rw [aF (nit b _ e)]; exact e) (fun b o u e=>by rw [aF (nit b _ e)]; exact e) (fun b ps e=>⟨#[],by rw [aF (nit b _ e),e]; simp⟩) (fun m hm=>?_) (fun b u e=>?_) I.bare
 ·have e:b=it:=by simpa using hb
  subst e
  exact ⟨f3,f1,f4,f5⟩
 ·obtain ⟨ob,es,ep,ho,r⟩:=hm
  exact ⟨ob,es,ep,k _ ob (Ne.symm f1) ho,r⟩
 ·by_cases hb:b=it
  ·subst hb
   rw [az] at e
   cases e
   exact new
  ·rw [aF hb] at e
   refine (I.hok b u e).stay (fun c v hc q=>k c v ?_ q) (fun c q=>by rw [aF (nit c _ q)]; exact q) fun c xs q=>by rw [aF (nit c _ q)]; exact q
   rcases hc with z | z
   ·rw [z]; exact nit b u e
   ·exact nit c _ z
end
theorem Room.two {k:Nat} {A:Around} (r:Room (k + 1) A):Room k A.in1.in1:=⟨r.hd,by have:=r.dp; show A.depth + 3 * k + 5 < recursionLimit; omega,by have:=r.un; show A.units + 1 + 1 + 16 * k + 200 < cLine; omega⟩
theorem PQ {xs:List V} {its:List Value} {x:V} {v:Value}:Vals xs its->RelV x v->Vals (xs ++ [x]) (its ++ [v]):=fun h r=>h.append (.cons r .nil)
section
variable {X:Cx} {pins:List (Addr×Obj)} {σ:St} {H:Hp} {s:Shared} {D f:Addr} {xs:List V} {its:List Value} {ks:List (List Int)} {k:Nat} {fd:FuncData} {ps:List Str} {sp:Sp}
end
end L2
namespace L2
open PySem PySem.Spec PyProof.Rows
section
variable {X:Cx}
end
end L2
namespace L2
open PySem PySem.Spec PyProof.Rows
section
variable {X:Cx}
end
end L2
namespace L2
open PySem PySem.Spec PyProof.Rows
section
variable {X:Cx}
end
end L2
namespace L2
open PySem PySem.Spec PyProof.Rows
section
variable {X:Cx} {K:PySem.W.Frag}
end
end L2
namespace GX
open PySem PySem.Spec PyProof.Rows
section
variable {prog:Program} {w:World} {A:Around} {s:Shared} {E:Value->Shared->Prop} {it l:Addr}
end
end GX
namespace GX
open PySem PySem.Spec PyProof.Rows
abbrev FQ (es:Array DictEntry) (ep:Nat):Obj:={ cls:=.type "dict",data:=.dict es ep }
abbrev G8 (d:Addr) (i n ep:Nat):Obj:={ cls:=.type "dict_valueiterator",data:=.fields #[.ref d,.int i 0,.int n 0,.int ep 0] }
theorem Px (it d:Addr) (i ep:Nat) (es:Array DictEntry) (e:DictEntry) (hx:es[i]?=some e) :
  Meets (Builtin.«dict_valueiterator.__next__» ⟨[.ref it],[]⟩) (fun _ R s=>s.heap.get? it=some (G8 d i es.size ep)/\s.heap.get? d=some (FQ es ep) /\
   ∀ g,g.get? it=some (G8 d (i + 1) es.size ep)->Heap.SameBut it s.heap g->R (.ok (.ret e.val)) { s with heap:=g }) :=
 .of_wp fun prog w A R s ⟨h1,h2,q⟩=>by
  obtain ⟨h,g,dr,tk,os⟩:=s
  have hT:Shared.TypeIs { heap:=h,gens:=g,drawn:=dr,toks:=tk,os:=os } (.ref it) "dict_valueiterator":=⟨_,h1,rfl⟩
  wp_walk
  rw [if_neg (by omega),Int.toNat_natCast,hx]
  wp_walk
  have ow:Builtin.Dict_items.ownsTuple ((Manifest.find? "dict_valueiterator").elim "dict_valueiterator" fun x=>x.tpName)=false:=by decide +kernel
  refine ⟨_,rfl,q _ ?_ (Heap.SameBut.update ..)⟩
  rw [Heap.get?_update_self _ h1 rfl,ow]
  simp [Obj.mapFields,rawInt]
  intro x hx hm
  exfalso
  revert x hx hm
  decide +kernel
theorem Sg (d:Addr) (es:Array DictEntry) (ep:Nat) (hd:(d == sysModules)=false) :
  Meets (Builtin.«dict.values» ⟨[.ref d],[]⟩) (fun _ R s=>s.heap.get? d=some (FQ es ep)/\R (.ok (.ret (.ref s.heap.objs.size))) { s with heap:=s.heap.push { cls:=.type "dict_values",data:=.fields #[.ref d] } }) :=
 .of_wp fun prog w A R s ⟨h1,q⟩=>by
  obtain ⟨h,g,dr,tk,os⟩:=s
  have hT:Shared.TypeIs { heap:=h,gens:=g,drawn:=dr,toks:=tk,os:=os } (.ref d) "dict":=⟨_,h1,rfl⟩
  wp_walk
  exact ⟨_,rfl,q⟩
theorem QC (it d:Addr) (i ep:Nat) (es:Array DictEntry) (hi:es.size<=i) :
  Meets (Builtin.«dict_valueiterator.__next__» ⟨[.ref it],[]⟩) (fun A R s=>A.handled=none/\s.heap.get? it=some (G8 d i es.size ep)/\s.heap.get? d=some (FQ es ep) /\
   ∀ g e,Heap.ExtBut it s.heap g->Shared.TypeIs { s with heap:=g } (.ref e) "StopIteration"->R (.error (.ref e)) { s with heap:=g }) :=
 .of_wp fun prog w A R s ⟨h0,h1,h2,q⟩=>by
  obtain ⟨h,g,dr,tk,os⟩:=s
  have hT:Shared.TypeIs { heap:=h,gens:=g,drawn:=dr,toks:=tk,os:=os } (.ref it) "dict_valueiterator":=⟨_,h1,rfl⟩
  have h0':A.in1.handled=none:=h0
  wp_walk
  rw [if_neg (by omega),Int.toNat_natCast,Array.getElem?_eq_none hi]
  wp_walk
  simp only [raiseNew]
  wp_walk
  exact q _ _ (fun b o nb e=>Heap.get?_push_of_some _ (Heap.get?_push_of_some _ (((Heap.SameBut.update ..).2 b nb).trans e))) ⟨_,Heap.get?_push_size _ rfl,rfl⟩
theorem Ku (v d:Addr) (ep:Nat) (es:Array DictEntry) (dd:Option Addr) (sl:Array (Option Value)) :
  Meets (Builtin.«dict_values.__iter__» ⟨[.ref v],[]⟩) (fun A R s=>s.heap.get? v=some { cls:=.type "dict_values",dict:=dd,data:=.fields #[.ref d],slots:=sl }/\s.heap.get? d=some (FQ es ep) /\
   R (.ok (.ret (.ref s.heap.objs.size))) { s with heap:=s.heap.push (G8 d 0 es.size ep) }) :=
 .of_wp fun prog w A R s ⟨h1,h2,q⟩=>by
  obtain ⟨h,g,dr,tk,os⟩:=s
  have hT:Shared.TypeIs { heap:=h,gens:=g,drawn:=dr,toks:=tk,os:=os } (.ref v) "dict_values":=⟨_,h1,rfl⟩
  wp_walk
  have ow:Builtin.Dict_items.ownsTuple "dict_valueiterator"=false:=by decide +kernel
  rw [ow]
  exact ⟨_,rfl,q⟩
def RawD (h:Heap) (d:Addr) (es:Array DictEntry) (ep:Nat):Prop:=h.get? d=some (FQ es ep)
def ValAt (h:Heap) (it d:Addr) (i n ep:Nat):Prop:=h.get? it=some (G8 d i n ep)
theorem RawD.of {h:Heap} {d:Addr} {o:Obj} {es:Array DictEntry} {ep:Nat} (e:h.get? d=some o) (x:o.ExactDict) (dt:o.data=.dict es ep):RawD h d es ep:=by
 obtain ⟨c,di,dat,sl⟩:=o
 obtain ⟨rfl,rfl,rfl⟩:=x
 cases dt
 exact e
theorem RawD.at {h g:Heap} {d:Addr} {es:Array DictEntry} {ep:Nat} (x:RawD h d es ep) (k:∀ o,h.get? d=some o->g.get? d=some o):RawD g d es ep:=k _ x
theorem RawD.lt {h:Heap} {d:Addr} {es:Array DictEntry} {ep:Nat} (x:RawD h d es ep):d < h.objs.size:=Heap.lt_size x
theorem ValAt.is {h:Heap} {it d:Addr} {i n ep:Nat} (x:ValAt h it d i n ep):h.IsValIter it d i n ep:=⟨_,x,rfl,rfl⟩
section
variable {prog:Program} {w:World} {A:Around} {s:Shared} {E:Value->Shared->Prop} {it v d:Addr} {es:Array DictEntry} {i ep:Nat}
theorem yF {Q:Value->Shared->Prop} (hS:(d == sysModules)=false) (rd:RawD s.heap d es ep)
  (q:Q (.ref s.heap.objs.size) { s with heap:=s.heap.push { cls:=.type "dict_values",data:=.fields #[.ref d] } }):wpAny (model prog w) A (call (.builtin "dict.values") [.ref d]) Q E s :=
 call_meets F.slot_dict_values ⟨_,rd,rfl⟩ F.entry_dict_values (F.args_dict_values_1 _) (Sg d es ep hS) ⟨rd,q⟩
theorem Ge {Q:Value->Shared->Prop} (hv:s.heap.IsValuesView v d) (rd:RawD s.heap d es ep)
  (q:Q (.ref s.heap.objs.size) { s with heap:=s.heap.push (G8 d 0 es.size ep) }):wpAny (model prog w) A (pyIter (.ref v)) Q E s:=by
 obtain ⟨⟨c,di,dat,sl⟩,e,rfl,rfl⟩:=id hv
 apply wpAny_pyIter_slot hv.typeIs F.slot_dict_values_iter
 apply call_meets F.slot_dict_values_iter hv.typeIs F.entry_dict_values_iter (F.args_dict_values_iter_1 _) (Ku v d ep es di sl)
 exact ⟨e,rd,"dict_valueiterator",_,⟨_,Heap.get?_push_size _ rfl,rfl⟩,F.slot_dict_valueiterator_next.lookup,q⟩
theorem P0 {R:Result->Shared->Prop} {S:Around->(Result->Shared->Prop)->Shared->Prop} (hT:s.TypeIs (.ref it) "dict_valueiterator") (m:Meets (Builtin.«dict_valueiterator.__next__» ⟨[.ref it],[]⟩) S) (h:S A R s) :
  codeAny (model prog w) A (.call (.builtin "dict_valueiterator.__next__") ⟨[.ref it],[]⟩) R s :=
 codeAny_call_builtin F.slot_dict_valueiterator_next.plain F.entry_dict_valueiterator_next (F.slot_dict_valueiterator_next.check _ _ _ _ _ _ _ _ hT (F.args_dict_valueiterator_next_1 _) (m prog w A R s h))
theorem Er {e:DictEntry} {Q:Option Value->Shared->Prop} (hit:ValAt s.heap it d i es.size ep) (rd:RawD s.heap d es ep) (hx:es[i]?=some e)
  (hQ:∀ g,ValAt g it d (i + 1) es.size ep->Heap.SameBut it s.heap g->Q (some e.val) { s with heap:=g }):wpAny (model prog w) A (pyNext (.ref it)) Q E s:=by
 have hT:s.TypeIs (.ref it) "dict_valueiterator":=⟨_,hit,rfl⟩
 have hk:=F.slot_dict_valueiterator_next.lookup
 have hb:=F.slot_dict_valueiterator_next.bind (.ref it)
 unfold pyNext
 repeat' first | assumption | wp_step
 exact P0 hT (Px it d i ep es e hx) ⟨hit,rd,fun g a b=>wpAny_pure (wpAny_pure (hQ g a b))⟩
theorem JP {Q:Option Value->Shared->Prop} (hh:A.handled=none) (hit:ValAt s.heap it d i es.size ep) (rd:RawD s.heap d es ep) (hi:es.size<=i)
  (fin:∀ g,Heap.ExtBut it s.heap g->Q none { s with heap:=g }):wpAny (model prog w) A (pyNext (.ref it)) Q E s:=by
 have hT:s.TypeIs (.ref it) "dict_valueiterator":=⟨_,hit,rfl⟩
 have hk:=F.slot_dict_valueiterator_next.lookup
 have hb:=F.slot_dict_valueiterator_next.bind (.ref it)
 have hst:isSubtype (.type "StopIteration") (.type "StopIteration")=pure true:=by rw [isSubtype_type]; kernel_rfl
 unfold pyNext
 repeat' first | assumption | wp_step
 refine P0 hT (QC it d i ep es hi) ⟨hh,hit,rd,fun g e a b=>?_⟩
 have hq:=fin g a
 repeat' first | assumption | wp_step
end
theorem Ky {prog:Program} {w:World} {A:Around} {it d:Addr} {es:Array DictEntry} {ep:Nat} (hh:A.handled=none) (nd:d≠it) :
  Walks prog w A it [it,d] [it] es.size (fun i x=>∃ y:DictEntry,es[i]?=some y/\x=y.val) (fun i h=>ValAt h it d i es.size ep/\RawD h d es ep):=by
 constructor
 case sub=>intro b hb; simp at hb; simp [hb]
 case frame=>exact fun i h g x k=>⟨k it (by simp) _ x.1,k d (by simp) _ x.2⟩
 case self=>exact fun i s Q E x q=>wpAny_pyIter_valiter x.1.is q
 case done=>exact fun s Q E x q=>JP hh x.1 x.2 (Nat.le_refl _) fun g k=>q g s.toks fun b o nb e=>k b o (by simpa using nb) e
 case item =>
  intro i s Q E hi x q
  exact Er x.1 x.2 (Array.getElem?_eq_getElem hi) fun g a k=>q _ g s.toks ⟨_,Array.getElem?_eq_getElem hi,rfl⟩ ⟨a,(k.2 d nd).trans x.2⟩ fun b o nb e=>(k.2 b (by simpa using nb)).trans e
end GX
namespace GX
open PySem PySem.Spec PyProof.Rows
theorem mD {α β:Type} (f:α->β):∀ (l:List α) (i:Nat),(l.eraseIdx i).map f=(l.map f).eraseIdx i
 | [],_=>rfl
 | _ :: _,0=>rfl
 | a :: l,i + 1=>congrArg (f a :: ·) (mD f l i)
section
variable {prog:Program} {w:World} {K:Type} [DecidableEq K] {knd:HeapKind prog w K} {d a:Addr} {xs:List (K×Addr×Value)} {k:K} {j:Nat} {p:Addr×Value}
theorem Yd (es:Array DictEntry) (ep:Nat) (he:es.toList=xs.map (entryOfKey knd)) (hn:(xs.map (·.1)).Nodup) (hz:es.size<=sizeLine) (hj:xs[j]?=some (k,p)) :
  MeetsIn prog w (Builtin.«dict.pop» ⟨[.ref d,.ref a],[]⟩) (fun A R s=>knd.room A.in1/\knd.is s.heap k a/\(∀ x∈xs,knd.is s.heap x.1 x.2.1)/\s.heap.get? d=some { cls:=.type "dict",data:=.dict es ep } /\
   ∀ g tk,g.get? d=some { cls:=.type "dict",data:=.dict (es.eraseIdxIfInBounds j) (ep + 1) }->Heap.SameBut d s.heap g->R (.ok (.ret p.2)) { s with heap:=g,toks:=tk }) :=
 .of_wp fun A R s ⟨hu,hk,hi,hd,q⟩=>by
  obtain ⟨h,g,dr,tk,os⟩:=s
  have hT:Shared.TypeIs { heap:=h,gens:=g,drawn:=dr,toks:=tk,os:=os } (.ref d) "dict":=⟨_,hd,rfl⟩
  wp_walk
  have hx:es[j]?=some (entryOfKey knd (k,p)):=by rw [entry_at he,hj]; rfl
  have ne:es.isEmpty=false:=by
   have:=(Array.getElem?_eq_some_iff.mp hx).1
   rw [Array.isEmpty_eq_false_iff_exists_mem]
   exact ⟨_,Array.mem_of_getElem? hx⟩
  rw [ne,if_neg Bool.false_ne_true]
  unfold Builtin.Dict.takeOut
  apply wpAny_bind
  apply wpAny_holding
  refine wpAny_bind (knd.pyHash hu hk (wpAny_bind (wpAny_dictFind_heap (xs:=xs) hu hk hd rfl he hi hn (fun no=>absurd hj (no j p)) fun i p' hi'=>?_)))
  obtain rfl:i=j:=by
   have h1:=(List.getElem?_eq_some_iff.mp hi').1
   refine (List.getElem?_inj (by rw [List.length_map]; exact h1) hn).mp ?_
   rw [List.getElem?_map,List.getElem?_map,hi',hj]
   rfl
  obtain rfl:p'=p:=by rw [hj] at hi'; cases hi'; rfl
  wp_walk
  rw [show keyPart (Value.ref a)=none from rfl]
  rw [hx]
  apply wpAny_bind
  refine wpAny_updateDictKeysTo hd rfl ?_ (Nat.le_succ_of_le (Nat.le_trans (by rw [Array.eraseIdxIfInBounds]; split <;> (try rw [Array.size_eraseIdx]) <;> omega) hz))
  refine wpAny_pure ?_
  refine wpAny_bind (wpAny_letGo (wpAny_pure ⟨_,rfl,?_⟩))
  exact q _ _ (Heap.get?_update_self _ hd rfl) (Heap.SameBut.update ..)
theorem PP {A:Around} {s:Shared} {E:Value->Shared->Prop} {Q:Value->Shared->Prop} (hu:knd.room A.in1) (hk:knd.is s.heap k a) (dd:s.heap.DictOfH knd d xs) (hz:xs.length<=sizeLine) (hj:xs[j]?=some (k,p))
  (q:∀ g tk,g.DictOfH knd d (xs.eraseIdx j)->Heap.SameBut d s.heap g->Q p.2 { s with heap:=g,toks:=tk }):wpAny (model prog w) A (call (.builtin "dict.pop") [.ref d,.ref a]) Q E s:=by
 obtain ⟨⟨c,di,dat,sl⟩,es,ep,ho,⟨rfl,rfl,rfl⟩,rfl,he,hi,hn⟩:=dd
 refine call_meetsIn F.slot_dict_pop ⟨_,ho,rfl⟩ F.entry_dict_pop (F.args_dict_pop_2 _ _) (Yd es ep he hn (by rw [size_of_entries he]; exact hz) hj) ⟨hu,hk,hi,ho,fun g tk hg sb=>q g tk ⟨_,_,_,hg,⟨rfl,rfl,rfl⟩,rfl,?_,fun x hx=>?_,?_⟩ sb⟩
 ·have hl:=(List.getElem?_eq_some_iff.mp hj).1
  have hs:j < es.size:=by rw [size_of_entries he]; exact hl
  rw [Array.eraseIdxIfInBounds,dif_pos hs,Array.toList_eraseIdx,he,mD]
 ·exact knd.keeps (hi x (List.mem_of_mem_eraseIdx hx)) ho rfl sb
 ·rw [mD]
  exact hn.sublist (List.eraseIdx_sublist _ _)
end
end GX
namespace L2
open PySem PySem.Spec PyProof.Rows
section
variable {X:Cx} {tg:Expr}
end
end L2
namespace L2
open PySem PySem.Spec PyProof.Rows
theorem UT {P:Program} {w:World} {r d:Addr} {es:Array DictEntry} {ep:Nat} :
  PySem.W.KdlSrc P w "dict_values" r d es.size (fun i x=>∃ y:DictEntry,es[i]?=some y/\x=y.val) (fun h=>h.IsValuesView r d/\GX.RawD h d es ep):=by
 constructor
 case iter =>
  intro A s hh ⟨hv,rd⟩
  refine ⟨GX.G8 d 0 es.size ep,fun i h=>GX.ValAt h s.heap.objs.size d i es.size ep/\GX.RawD h d es ep,fun E Q q=>GX.Ge hv rd q,GX.Ky hh (Nat.ne_of_lt rd.lt),Heap.get?_push_size _ rfl,rd.at fun o e=>Heap.get?_push_of_some _ e⟩
 case hint=>exact fun A E s Q x q=>PySem.W.kdl_hint_values x.1.typeIs q
 case keep =>
  intro h g ⟨⟨o,e,c,dt⟩,rd⟩ k
  exact ⟨⟨o,k r (Or.inl rfl) o e,c,dt⟩,rd.at (k d (Or.inr rfl))⟩
 case there =>
  intro h ⟨⟨o,e,_⟩,rd⟩
  exact And.intro (Heap.lt_size e) rd.lt
 case type=>exact fun s x=>x.1.typeIs
 case notList=>rfl
 case notTuple=>rfl
theorem Ii {P:Program} {w:World} {H:Hp} {h:Heap} {d:Addr} {kvs:List (List Key×V)} (ok:HOk P w H h) (e:Rd H d (.dT kvs)) :
  (d == sysModules)=false/\∃ (es:Array DictEntry) (ep:Nat),GX.RawD h d es ep/\es.size=kvs.length/\∀ (i:Nat) (k:List Key) (v:V),kvs[i]?=some (k,v)->∃ y:DictEntry,es[i]?=some y/\RelV v y.val:=by
 obtain ⟨_,hS,xs,kt,o,es,ep,h1,h2,h3,h4,_⟩:=wA ok e
 refine ⟨hS,es,ep,.of h1 h2 h3,?_,fun i k v hv=>?_⟩
 ·rw [← Array.length_toList,h4,List.length_map]
  exact (Paired.length kt).symm
 ·obtain ⟨q,hq,_,_,rv⟩:=bu kt hv
  refine ⟨entryOfKey (tupleKind (bI P w)) q,?_,rv⟩
  rw [← Array.getElem?_toList,h4,List.getElem?_map,hq]
  rfl
section
variable {X:Cx}
theorem My:MtR X "dict.values" (fun x vs H Q=>∃ d kvs,x=.ref d/\vs=[]/\H d=some (.dT kvs)/\∀ v,H v=none->Q (.ref v) (upd H v (VwO v d))):=by
 intro pins s σ H x xs v us Q I rx rv h
 obtain ⟨d,kvs,rfl,rfl,hd,q⟩:=h
 cases rx
 cases rv
 obtain ⟨hS,es,ep,rd,_⟩:=Ii I.hok (.inl hd)
 refine GX.yF hS rd ?_
 exact ⟨.ref s.heap.objs.size,_,I.laid (o:=VwO s.heap.objs.size d) (t':=s.toks) (fun b ob e=>Heap.get?_push_of_some _ e) (Nat.le_refl _) ⟨⟨_,Heap.get?_push_size _ rfl,rfl,rfl⟩,⟨_,Heap.get?_push_size _ rfl⟩,fun h1 h2 ⟨o,e1,e2,e3⟩ k=>⟨o,k o e1,e2,e3⟩⟩,rfl,q _ (I.hok.fresh (Nat.le_refl _))⟩
theorem Fd (hc:X.calm=true):gC X (.type "list") (fun xs H Q=>∃ (v d:Addr) (kvs:List (List Key×V)),xs=[.ref v]/\H v=some (VwO v d)/\Rd H d (.dT kvs)/\kvs.length<=1000/\∀ l,H l=none->Q (.ref l) (upd H l (.lst (kvs.map (·.2))))):=by
 intro pins s σ H xs us Q I r h
 obtain ⟨v,d,kvs,rfl,hv,hd,hlen,q⟩:=h
 obtain ⟨u,rfl,rx⟩:=vals1 r
 cases rx
 obtain ⟨hS,es,ep,rd,sz,rel⟩:=Ii I.hok hd
 have hvw:s.heap.IsValuesView v d:=(I.hok v _ hv).1
 refine PySem.W.kdl_call (A:=X.A) (UT (es:=es) (ep:=ep)) (I.ok.hd hc) ⟨hvw,rd⟩ (by rw [sz]; exact Nat.le_of_lt (aJ (by omega))) fun h' tk acc c hk he hacc=>?_
 refine ⟨.ref s.heap.objs.size,_,I.laid (o:=.lst (kvs.map (·.2))) (t':=tk) hk (Nat.le_refl _) ⟨by rw [List.length_map]; exact Nat.le_of_lt (aJ hlen),acc.toList,c,ut ?_ fun i x u hx hu=>?_,he⟩,rfl,q _ (I.hok.fresh (Nat.le_refl _))⟩
 ·have e:acc.toList.length=es.size:=by rw [Array.length_toList]; exact hacc.1
  rw [List.length_map,e,sz]
 ·rw [Array.getElem?_toList] at hu
  obtain ⟨y,hy,rfl⟩:=hacc.2 i u hu
  rw [List.getElem?_map] at hx
  cases e:kvs[i]? with
  | none=>rw [e] at hx; cases hx
  | some p =>
   rw [e] at hx
   cases hx
   obtain ⟨y',hy',ru⟩:=rel i p.1 p.2 e
   rw [hy] at hy'
   cases hy'
   exact ru
end
def Es (d:Addr) (o:Obj) (kvs:List (List Key×V)):It :=
 ⟨fun i H=>i < kvs.length/\H d=some (.frz o (.dT kvs)),fun i H x H'=>H'=H/\∃ k,kvs[i]?=some (k,x),fun i H=>kvs.length<=i/\H d=some (.frz o (.dT kvs))⟩
theorem Jb {P:Program} {w:World} {K:PySem.W.Frag} {tg:Expr} {d it:Addr} {o:Obj} {kvs:List (List Key×V)} {es:Array DictEntry} {ep:Nat} (sz:es.size=kvs.length) (rel:∀ (i:Nat) (k:List Key) (v:V),kvs[i]?=some (k,v)->∃ y:DictEntry,es[i]?=some y/\RelV v y.val) (fz:∀ h:Heap,h.get? d=some o->GX.RawD h d es ep) :
  Turn P w K tg (Es d o kvs) [it] it (fun i h=>GX.ValAt h it d i es.size ep) where
 mem:=by simp
 obj:=fun i h st b hb=>by
  have e:b=it:=by simpa using hb
  subst e
  exact ⟨_,st,fun v z=>by cases z⟩
 keep:=fun i h h' st k=>k it (by simp) _ st
 item:=by
  intro X hP hw hK hc i pins s σ H E I hf st hg
  subst hP hw hK
  obtain ⟨hi,hd⟩:=hg
  have hdo:s.heap.get? d=some o:=(show s.heap.get? d=some o/\_ from I.hok d _ hd).1
  have hx:kvs[i]?=some kvs[i]:=List.getElem?_eq_getElem hi
  obtain ⟨y,hy,ru⟩:=rel i kvs[i].1 kvs[i].2 hx
  obtain ⟨f0,f1,f2,f3,f4,f5⟩:=hf it (by simp)
  refine GX.Er st (fz _ hdo) hy fun h' st' sb=>?_
  have I1:Inv X pins σ H { s with heap:=h' }:=I.turned (t':=s.toks) (fun b o hb e=>(sb.2 b hb).trans e) f0 f1 f3 f4 f5
  exact ⟨_,rfl,J1 (s:={ s with heap:=h' }) st' rfl rfl (by decide) ⟨kvs[i].2,H,I1,ru,⟨rfl,kvs[i].1,hx⟩,st',fun b hb=>(hf b hb).1⟩⟩
 done:=by
  intro X hP hw hK hc i pins s σ H E I hf st hg
  subst hP hw hK
  obtain ⟨hi,hd⟩:=hg
  have hdo:s.heap.get? d=some o:=(show s.heap.get? d=some o/\_ from I.hok d _ hd).1
  obtain ⟨f0,f1,f2,f3,f4,f5⟩:=hf it (by simp)
  exact GX.JP (I.ok.hd hc) st (fz _ hdo) (by omega) fun h' eb=>⟨rfl,I.turned (t':=s.toks) (fun b o hb e=>eb b o hb e) f0 f1 f3 f4 f5⟩
 self:=fun _ _ _ _ _ st h=>wpAny_pyIter_valiter st.is h
section
variable {X:Cx}
def Nu (td:TE):TI:=fun σ H R=>td σ H fun x H1=>∃ d kvs,x=.ref d/\H1 d=some (.dT kvs)/\∀ o,R (Es d o kvs) (upd H1 d (.frz o (.dT kvs)))
theorem Et {tg e:Expr} {apos cpos:Pos} {td:TE} (he:PE X e td) (hbase:attributeBase e "values" X.env (eval e X.env)=eval e X.env:=by rfl) (hline:(apos.endLine == cpos.line)=true:=by rfl) :
  PI X tg (.Call (.Attribute e "values" apos) [] [] cpos) (Nu td):=by
 intro pins s σ H R I h
 refine wpAny_Call_method0_late hbase hline (thn (he pins s σ H _ I h) fun v s1 ⟨x,H1,I1,r1,d,kvs,ex,hd,q⟩=>?_)
 subst ex
 obtain rfl:v=Value.ref d:=r1
 obtain ⟨hS,es,ep,rd,sz,rel⟩:=Ii I1.hok (.inl hd)
 obtain ⟨h1,h2⟩:=Dm (T:="dict") I1 (x:=.ref d) rfl (.inr (.inr (.inl ⟨rfl,.inr ⟨kvs,hd⟩⟩)))
 refine ⟨"dict","dict.values",PySem.F.plainAttrs_dict,PySem.F.slot_dict_values,PySem.F.type_dict_values,h1,h2,Calls.callWith_builtin rfl (PySem.evalArgs_none ?_)⟩
 refine GX.yF hS rd ?_
 have rd':GX.RawD (s1.heap.push { cls:=.type "dict_values",data:=.fields #[.ref d] }) d es ep:=rd.at fun o e=>Heap.get?_push_of_some _ e
 obtain ⟨o,ho,fz⟩:∃ o,(s1.heap.push { cls:=.type "dict_values",data:=.fields #[.ref d] }).get? d=some o/\∀ h:Heap,h.get? d=some o->GX.RawD h d es ep:=⟨_,rd',fun _ e=>e⟩
 have I2:Inv X pins σ H1 { s1 with heap:=s1.heap.push { cls:=.type "dict_values",data:=.fields #[.ref d] } }:=I1.kept (t':=s1.toks) fun b ob e=>Heap.get?_push_of_some _ e
 have hv:(s1.heap.push { cls:=.type "dict_values",data:=.fields #[.ref d] }).IsValuesView s1.heap.objs.size d:=⟨_,Heap.get?_push_size _ rfl,rfl,rfl⟩
 refine GX.Ge hv rd' ?_
 have I3:Inv X pins σ (upd H1 d (.frz o (.dT kvs))) { s1 with heap:=s1.heap.push { cls:=.type "dict_values",data:=.fields #[.ref d] } } :=
  I2.write (t':=s1.toks) (x:=d) (e:=d) (by rw [hd]; trivial) (.inl rfl) (fun _ _ _ e=>e) ⟨o,ho⟩ ⟨ho,by
   have g:=I2.hok d _ hd
   obtain ⟨z,y,xs,kt,rest⟩:=(show ObjOk X.prog X.w H1 _ d (.dT kvs) from g)
   exact ⟨z,y,xs,Paired.mapP kt fun _ _ ⟨a1,a2,a3⟩=>⟨a1,by rw [aF (jM a2 hd (by intro z; cases z))]; exact a2,a3⟩,rest⟩⟩
 refine ⟨_,[_],_,Es d o kvs,upd H1 d (.frz o (.dT kvs)),rfl,I3.kept (t':=s1.toks) fun b ob e=>Heap.get?_push_of_some _ e,Jb sz rel fz,Heap.get?_push_size _ rfl,fun b hb=>?_,q o⟩
 have eb:b=(s1.heap.push { cls:=.type "dict_values",data:=.fields #[.ref d] }).objs.size:=by simpa using hb
 subst eb
 exact I3.fpOk (Nat.le_refl _) (I3.hok.fresh (Nat.le_refl _))
end
def fzT (x:V) (H:Hp) (R:It->Hp->Prop):Prop:=∃ d kvs,x=.ref d/\H d=some (.dT kvs)/\∀ o,R (Es d o kvs) (upd H d (.frz o (.dT kvs)))
theorem Nv {td:TE} {σ:St} {H:Hp} {R:It->Hp->Prop} (h:td σ H fun x H1=>fzT x H1 R):Nu td σ H R:=h
theorem Tq {H:Hp} {d:Addr} {kvs:List (List Key×V)} {R:It->Hp->Prop} (hd:H d=some (.dT kvs)) (h:∀ o A,A d=some (.frz o (.dT kvs))->SmB d H A->R (Es d o kvs) A):fzT (.ref d) H R :=
 ⟨d,kvs,rfl,hd,fun o=>h o _ az fun b u n e=>by rw [aF n]; exact e⟩
theorem zJ {d:Addr} {o:Obj} {kvs:List (List Key×V)} {g:TG} {tt:TT} {te:TE} {σ:St} {H:Hp} {D:Addr} {Qe:Hp->Prop} (Pv:Nat->St->Hp->Prop) (h0:Pv 0 σ H) (hl:∀ i σ H,i<=kvs.length->Pv i σ H->H d=some (.frz o (.dT kvs)))
  (hs:∀ i k v σ H,kvs[i]?=some (k,v)->Pv i σ H->nD g tt te D (Pv (i + 1)) v σ H) (hd:∀ σ H,Pv kvs.length σ H->Qe H) :
  ∃ W:Nat->Nat->St->Hp->Prop,(∃ m,W 0 m σ H)/\∀ i m σ' H',W i m σ' H'->((Es d o kvs).stop i H'/\Qe H')∨((Es d o kvs).go i H'/\∃ N:St->Hp->Prop,(∀ σ2 H2,N σ2 H2->∃ m',m' < m/\W (i + 1) m' σ2 H2) /\
   ∀ x H'',(Es d o kvs).yld i H' x H''->nD g tt te D N x σ' H''):=by
 refine ⟨fun i m σ H=>m=kvs.length - i/\i<=kvs.length/\Pv i σ H,⟨kvs.length,by simp,Nat.zero_le _,h0⟩,?_⟩
 rintro i m σ H ⟨rfl,hi,p⟩
 have q:=hl i σ H hi p
 by_cases hlt:i < kvs.length
 ·refine .inr ⟨⟨hlt,q⟩,Pv (i + 1),fun σ' H' p'=>⟨kvs.length - (i + 1),by omega,rfl,hlt,p'⟩,fun x H' y=>?_⟩
  obtain ⟨rfl,k,e1⟩:=y
  exact hs i k x σ _ e1 p
 ·have e:i=kvs.length:=by omega
  subst e
  exact .inl ⟨⟨Nat.le_refl _,q⟩,hd σ H p⟩
end L2
namespace L2
open PySem PySem.Spec PyProof.Rows
theorem pG {α β:Type} {F:α->β->Prop}:∀ {l:List α} {m:List β} (i:Nat),Paired F l m->Paired F (l.eraseIdx i) (m.eraseIdx i)
 | _,_,_,.nil=>.nil
 | _,_,0,.cons _ t=>t
 | _,_,i + 1,.cons h t=>.cons h (pG i t)
def W7:V->List V->Hp->VK->Prop:=fun x vs H Q=>∃ (d t:Addr) (kvs:List (List Key×V)) (i:Nat) (k:List Key) (v:V),x=.ref d/\vs=[.ref t]/\H d=some (.dT kvs)/\H t=some (.tup (k.map kV))/\kvs[i]?=some (k,v)/\Q v (upd H d (.dT (kvs.eraseIdx i)))
section
variable {X:Cx}
theorem Mp (hu:X.A.units + 1 < cLine):MtR X "dict.pop" W7:=by
 intro pins s σ H x xs v us Q I rx rv h
 obtain ⟨d,t,kvs,i,k,y,rfl,rfl,hd,ht,hi,q⟩:=h
 cases rx
 obtain ⟨u,rfl,rt⟩:=vals1 rv
 cases rt
 obtain ⟨z,hS,es,kt,dd⟩:=S9 I.hok hd
 obtain ⟨⟨k',a,w⟩,hp,e1,e2,e3⟩:=bu kt hi
 have e1:k=k':=e1
 subst e1
 refine GX.PP (A:=X.A) (knd:=tupleKind (bI X.prog X.w)) (tupleKind_room_in1 hu) (key_of I.hok ht) dd (by rw [← Paired.length kt]; exact z) hp fun g tk dd' sb=>?_
 obtain ⟨o,fs,ep,ho,h2,h3,h4,_,h5⟩:=dd'
 refine ⟨y,_,Dq (ob:=.dT (kvs.eraseIdx i)) I (by rw [hd]; exact True.intro) sb ⟨o,ho⟩ ⟨Nat.le_trans (List.eraseIdx_sublist kvs i).length_le z,hS,_,(KT.keeps (pG i kt) fun c ys ec=>?_),o,fs,ep,ho,h2,h3,h4,h5⟩,e3,q⟩
 rw [aF (jM ec hd (fun z=>nomatch z))]
 exact ec
end
end L2
namespace L2
open PySem PySem.Spec PyProof.Rows
def Lo {α:Type} (n:Nat) (b:Nat->Nat->Bool) (P:α->Prop):PySem.W.KasT α->Prop
 | .ret a=>P a
 | .ask i j k=>i < n/\j < n/\Lo n b P (k (b i j))
theorem rR {α β:Type} {n:Nat} {b:Nat->Nat->Bool} {P:α->Prop} {P':β->Prop} {f:α->PySem.W.KasT β} (hf:∀ a,P a->Lo n b P' (f a)):∀ t:PySem.W.KasT α,Lo n b P t->Lo n b P' (t.bind f)
 | .ret a,h=>hf a h
 | .ask i j k,h=>⟨h.1,h.2.1,rR hf (k (b i j)) h.2.2⟩
theorem Ti {α:Type} {n:Nat} {b:Nat->Nat->Bool} {P:α->Prop} {cmp:Nat->Nat->(Bool->Shared->Prop)->Shared->Prop} {G:α->Shared->Prop} {s:Shared} (hc:∀ i j C,i < n->j < n->C (b i j) s->cmp i j C s) (hg:∀ a,P a->G a s):∀ t:PySem.W.KasT α,Lo n b P t->t.kasWp cmp G s
 | .ret a,h=>hg a h
 | .ask i j k,h=>hc i j _ h.1 h.2.1 (Ti hc hg (k (b i j)) h.2.2)
theorem vO {α:Type} {n:Nat} {b:Nat->Nat->Bool} {P P':α->Prop} (hp:∀ a,P a->P' a):∀ t:PySem.W.KasT α,Lo n b P t->Lo n b P' t
 | .ret a,h=>hp a h
 | .ask i j k,h=>⟨h.1,h.2.1,vO hp (k (b i j)) h.2.2⟩
theorem rY {n:Nat} {p:Array Nat} (h:Prn n p):p.size=n:=by
 have:=h.length_eq
 rw [List.length_range,Array.length_toList] at this
 exact this
theorem uW {p:Array Nat} {i j:Nat} (hj:j<=p.size) (k:Nat):(PySem.W.kas_rev p i j).getD k 0=if i<=k/\k < j then p.getD (i + j - 1 - k) 0 else p.getD k 0:=by
 rw [Array.getD_eq_getD_getElem?,Array.getD_eq_getD_getElem?,Array.getD_eq_getD_getElem?]
 unfold PySem.W.kas_rev
 rw [getElem?_mirror_all hj]
 split <;> rfl
theorem Jj {p:Array Nat} {k l:Nat} (hk:k < p.size) (hl:l<=k) (i:Nat):(bubble p k (k - l)).getD i 0=if i=l then p.getD k 0 else if l < i/\i<=k then p.getD (i - 1) 0 else p.getD i 0:=by
 rw [Array.getD_eq_getD_getElem?,Array.getD_eq_getD_getElem?,Array.getD_eq_getD_getElem?,Array.getD_eq_getD_getElem?,getElem?_bubble hk _ (by omega),show k - (k - l)=l by omega]
 split
 ·rfl
 ·split <;> rfl
section
variable (ky:Nat->Int)
abbrev bk (i j:Nat):Bool:=decide (ky i < ky j)
def Up (p:Array Nat) (m:Nat):Prop:=∀ i j,i<=j->j < m->ky (p.getD i 0)<=ky (p.getD j 0)
def Dn (p:Array Nat) (m:Nat):Prop:=∀ i j,i<=j->j < m->ky (p.getD j 0)<=ky (p.getD i 0)
variable {ky} {n:Nat} (hn:0 < n)
theorem U7 {p:Array Nat} {m:Nat} (h1:1<=m) (h:Up ky p m) (e:ky (p.getD (m - 1) 0)<=ky (p.getD m 0)):Up ky p (m + 1):=fun i j hij hj=>by
 by_cases z:j < m
 ·exact h i j hij z
 ·obtain rfl:j=m:=by omega
  by_cases w:i=j
  ·rw [w]; exact Int.le_refl _
  ·exact Int.le_trans (h i (j - 1) (by omega) (by omega)) e
theorem yp {p:Array Nat} {m:Nat} (h1:1<=m) (h:Dn ky p m) (e:ky (p.getD m 0)<=ky (p.getD (m - 1) 0)):Dn ky p (m + 1):=fun i j hij hj=>by
 by_cases z:j < m
 ·exact h i j hij z
 ·obtain rfl:j=m:=by omega
  by_cases w:i=j
  ·rw [w]; exact Int.le_refl _
  ·exact Int.le_trans e (h i (j - 1) (by omega) (by omega))
include hn
theorem Il {p:Array Nat} (h:Prn n p):∀ f m:Nat,1<=m->Up ky p m->Lo n (bk ky) (fun r=>m<=r/\r<=m + f/\Up ky p r/\(r < m + f->ky (p.getD r 0) < ky (p.getD (r - 1) 0))) (PySem.W.kas_asc p f m)
 | 0,m,h1,u=>⟨Nat.le_refl _,Nat.le_refl _,u,fun z=>absurd z (Nat.lt_irrefl _)⟩
 | f + 1,m,h1,u=>by
  refine ⟨cL h hn _,cL h hn _,?_⟩
  by_cases c:ky (p.getD m 0) < ky (p.getD (m - 1) 0)
  ·rw [show bk ky (p.getD m 0) (p.getD (m - 1) 0)=true from decide_eq_true c]
   exact ⟨Nat.le_refl _,by omega,u,fun _=>c⟩
  ·rw [show bk ky (p.getD m 0) (p.getD (m - 1) 0)=false from decide_eq_false c]
   have:=Il h f (m + 1) (by omega) (U7 h1 u (by omega))
   rw [show m + 1 + f=m + (f + 1) by omega] at this
   refine (vO ?_ _ this)
   exact fun r hr=>⟨by omega,hr.2.1,hr.2.2⟩
theorem xO:∀ (f:Nat) {p:Array Nat} (m q:Nat),Prn n p->m + f<=n->1<=m->Dn ky p m->q + 1<=m->(∀ i,m - (q + 1)<=i->i < m->ky (p.getD i 0)=ky (p.getD (m - 1) 0)) ->
  Lo n (bk ky) (fun r=>Prn n r.1/\Dn ky r.1 r.2.1/\1<=r.2.1/\r.2.1<=m + f/\r.2.2 + 1<=r.2.1/\∀ i,r.2.1 - (r.2.2 + 1)<=i->i < r.2.1->ky (r.1.getD i 0)=ky (r.1.getD (r.2.1 - 1) 0)) (PySem.W.kas_desc f p m q)
 | 0,p,m,q,h,hm,h1,d,hq,e=>⟨h,d,h1,Nat.le_refl _,hq,e⟩
 | f + 1,p,m,q,h,hm,h1,d,hq,e=>by
  have hs:=rY h
  refine ⟨cL h hn _,cL h hn _,?_⟩
  by_cases c:ky (p.getD m 0) < ky (p.getD (m - 1) 0)
  ·rw [show bk ky (p.getD m 0) (p.getD (m - 1) 0)=true from decide_eq_true c]
   show Lo n _ _ (if q > 0 then _ else _)
   by_cases z:q > 0
   ·rw [if_pos z]
    have er:∀ k,ky ((PySem.W.kas_rev p (m - (q + 1)) m).getD k 0)=ky (p.getD k 0):=fun k=>by
     rw [uW (by omega)]
     split
     ·rename_i w
      rw [e _ (by omega) (by omega),e k (by omega) (by omega)]
     ·rfl
    have:=xO f (p:=PySem.W.kas_rev p (m - (q + 1)) m) (m + 1) 0 (nY h _ _) (by omega) (by omega) (yp h1 (fun i j a b=>by rw [er,er]; exact d i j a b) (by rw [er,er]; omega)) (by omega) fun i a b=>by
     obtain rfl:i=m:=by omega
     rfl
    refine vO (fun r hr=>?_) _ this
    obtain ⟨a1,a2,a3,a4,a5⟩:=hr
    exact ⟨a1,a2,a3,by omega,a5⟩
   ·rw [if_neg z]
    have:=xO f (p:=p) (m + 1) 0 h (by omega) (by omega) (yp h1 d (by omega)) (by omega) fun i a b=>by
     obtain rfl:i=m:=by omega
     rfl
    refine vO (fun r hr=>?_) _ this
    obtain ⟨a1,a2,a3,a4,a5⟩:=hr
    exact ⟨a1,a2,a3,by omega,a5⟩
  ·rw [show bk ky (p.getD m 0) (p.getD (m - 1) 0)=false from decide_eq_false c]
   refine ⟨cL h hn _,cL h hn _,?_⟩
   by_cases c2:ky (p.getD (m - 1) 0) < ky (p.getD m 0)
   ·rw [show bk ky (p.getD (m - 1) 0) (p.getD m 0)=true from decide_eq_true c2]
    exact ⟨h,d,h1,by show m<=m + (f + 1); omega,hq,e⟩
   ·rw [show bk ky (p.getD (m - 1) 0) (p.getD m 0)=false from decide_eq_false c2]
    have:=xO f (p:=p) (m + 1) (q + 1) h (by omega) (by omega) (yp h1 d (by omega)) (by omega) fun i a b=>by
     rw [show m + 1 - 1=m by omega]
     by_cases w:i=m
     ·rw [w]
     ·rw [e i (by omega) (by omega)]
      omega
    refine vO (fun r hr=>?_) _ this
    obtain ⟨a1,a2,a3,a4,a5⟩:=hr
    exact ⟨a1,a2,a3,by omega,a5⟩
abbrev Run (ky:Nat->Int) (n:Nat) (r:Nat×Array Nat):Prop:=Prn n r.2/\Up ky r.2 r.1/\1<=r.1/\r.1<=n
theorem Gm {p:Array Nat} (h:Prn n p) {m:Nat} (h1:1<=m) (hm:m<=n) (d:Dn ky p m):Lo n (bk ky) (Run ky n) (PySem.W.kas_tail3 m n p):=by
 have hs:=rY h
 have u:Up ky (PySem.W.kas_rev p 0 m) m:=fun i j hij hj=>by
  rw [uW (by omega),uW (by omega),if_pos ⟨by omega,by omega⟩,if_pos ⟨by omega,hj⟩]
  exact d _ _ (by omega) (by omega)
 refine rR (fun a ha=>?_) _ (Il hn (nY h 0 m) (n - m) m h1 u)
 exact ⟨nY h 0 m,ha.2.2.1,by have:=ha.1; omega,by have:=ha.2.1; omega⟩
theorem wN {p:Array Nat} (h:Prn n p) {m:Nat} (h1:1<=m) (hm:m + 1<=n) (d:Dn ky p (m + 1)):Lo n (bk ky) (Run ky n) (PySem.W.kas_descPart m n p):=by
 have hd:=xO hn (n - (m + 1)) (m + 1) 0 h (by omega) (by omega) d (by omega) fun i a b=>by
  obtain rfl:i=m:=by omega
  rfl
 refine rR (fun a ha=>?_) _ hd
 obtain ⟨a1,a2,a3,a4,a5,a6⟩:=ha
 have hs:=rY a1
 by_cases z:a.2.2 > 0
 ·rw [if_pos z]
  refine Gm hn (nY a1 _ _) a3 (by omega) fun i j hij hj=>?_
  have er:∀ k,ky ((PySem.W.kas_rev a.1 (a.2.1 - (a.2.2 + 1)) a.2.1).getD k 0)=ky (a.1.getD k 0):=fun k=>by
   rw [uW (by omega)]
   split
   ·rename_i w
    rw [a6 _ (by omega) (by omega),a6 k (by omega) (by omega)]
   ·rfl
  rw [er,er]
  exact a2 i j hij hj
 ·rw [if_neg z]
  exact Gm hn a1 a3 (by omega) a2
theorem Ql {p:Array Nat} (h:Prn n p):Lo n (bk ky) (Run ky n) (PySem.W.kas_count n p):=by
 have hs:=rY h
 refine rR (fun a ha=>?_) _ (Il hn h (n - 1) 1 (Nat.le_refl _) fun i j a b=>by
  obtain rfl:i=j:=by omega
  exact Int.le_refl _)
 obtain ⟨a1,a2,a3,a4⟩:=ha
 by_cases z:(a == n)=true
 ·rw [if_pos z]
  exact ⟨h,a3,a1,by omega⟩
 ·rw [if_neg z]
  have z:a≠n:=fun w=>z (by rw [w]; exact beq_self_eq_true n)
  have c:=a4 (by omega)
  by_cases y:a > 1
  ·rw [if_pos y]
   refine ⟨cL h hn _,cL h hn _,?_⟩
   by_cases c2:ky (p.getD 0 0) < ky (p.getD (a - 1) 0)
   ·rw [show bk ky (p.getD 0 0) (p.getD (a - 1) 0)=true from decide_eq_true c2]
    exact ⟨h,a3,a1,by omega⟩
   ·rw [show bk ky (p.getD 0 0) (p.getD (a - 1) 0)=false from decide_eq_false c2]
    have eq:∀ k,k < a->ky (p.getD k 0)=ky (p.getD (a - 1) 0):=fun k hk=>by
     have b1:=a3 0 k (by omega) hk
     have b2:=a3 k (a - 1) (by omega) (by omega)
     omega
    have er:∀ k,ky ((PySem.W.kas_rev p 0 a).getD k 0)=ky (p.getD k 0):=fun k=>by
     rw [uW (by omega)]
     split
     ·rename_i w
      rw [eq _ (by omega),eq k (by omega)]
     ·rfl
    refine wN hn (nY h 0 a) a1 (by omega) (yp a1 (fun i j hij hj=>?_) (by rw [er,er]; omega))
    rw [er,er,eq i (by omega),eq j hj]
    exact Int.le_refl _
  ·rw [if_neg y]
   obtain rfl:a=1:=by omega
   refine wN hn h (Nat.le_refl _) (by omega) (yp (Nat.le_refl _) (fun i j hij hj=>?_) (by omega))
   obtain rfl:i=j:=by omega
   exact Int.le_refl _
theorem zg {p:Array Nat} (h:Prn n p) {k:Nat} (u:Up ky p k):∀ f l r:Nat,l<=r->r<=k->r - l<=f->(∀ i,i < l->ky (p.getD i 0)<=ky (p.getD k 0))->(∀ i,r<=i->i < k->ky (p.getD k 0) < ky (p.getD i 0)) ->
  Lo n (bk ky) (fun x=>x<=k/\(∀ i,i < x->ky (p.getD i 0)<=ky (p.getD k 0))/\∀ i,x<=i->i < k->ky (p.getD k 0) < ky (p.getD i 0)) (PySem.W.kas_place p k f l r)
 | 0,l,r,h1,h2,h3,a,b=>⟨by omega,a,fun i hi hk=>b i (by omega) hk⟩
 | f + 1,l,r,h1,h2,h3,a,b=>by
  show Lo n _ _ (if l ≥ r then _ else _)
  by_cases z:l ≥ r
  ·rw [if_pos z]
   exact ⟨by omega,a,fun i hi hk=>b i (by omega) hk⟩
  ·rw [if_neg z]
   refine ⟨cL h hn _,cL h hn _,?_⟩
   by_cases c:ky (p.getD k 0) < ky (p.getD ((l + r) / 2) 0)
   ·rw [show bk ky (p.getD k 0) (p.getD ((l + r) / 2) 0)=true from decide_eq_true c]
    exact zg h u f l ((l + r) / 2) (by omega) (by omega) (by omega) a fun i hi hk=>by
     have:=u ((l + r) / 2) i hi hk
     omega
   ·rw [show bk ky (p.getD k 0) (p.getD ((l + r) / 2) 0)=false from decide_eq_false c]
    exact zg h u f ((l + r) / 2 + 1) r (by omega) h2 (by omega) (fun i hi=>by
     have:=u i ((l + r) / 2) (by omega) (by omega)
     omega) b
theorem Qu:∀ (f:Nat) {p:Array Nat} (k:Nat),Prn n p->k + f=n->Up ky p k->Lo n (bk ky) (fun p=>Prn n p/\Up ky p n) (PySem.W.kas_bin f p k)
 | 0,p,k,h,e,u=>by
  obtain rfl:k=n:=by omega
  exact ⟨h,u⟩
 | f + 1,p,k,h,e,u=>by
  have hs:=rY h
  refine rR (fun l hl=>?_) _ (zg hn h u k 0 k (Nat.zero_le _) (Nat.le_refl _) (by omega) (fun i hi=>absurd hi (Nat.not_lt_zero _)) fun i a b=>by omega)
  obtain ⟨l1,l2,l3⟩:=hl
  refine Qu f (k + 1) (MK h _ _) (by omega) fun i j hij hj=>?_
  rw [Jj (by omega) l1,Jj (by omega) l1]
  by_cases i1:i=l
  ·rw [if_pos i1]
   by_cases j1:j=l
   ·rw [if_pos j1]; exact Int.le_refl _
   ·rw [if_neg j1,if_pos ⟨by omega,by omega⟩]
    exact Int.le_of_lt (l3 _ (by omega) (by omega))
  ·rw [if_neg i1]
   by_cases i2:l < i/\i<=k
   ·rw [if_pos i2,if_neg (by omega),if_pos ⟨by omega,by omega⟩]
    exact u _ _ (by omega) (by omega)
   ·rw [if_neg i2]
    by_cases j1:j=l
    ·rw [if_pos j1]
     exact l2 i (by omega)
    ·rw [if_neg j1]
     by_cases j2:l < j/\j<=k
     ·rw [if_pos j2]
      exact u _ _ (by omega) (by omega)
     ·rw [if_neg j2]
      exact u _ _ hij (by omega)
theorem QD:Lo n (bk ky) (fun p=>Prn n p/\Up ky p n) (PySem.W.kas_sort n):=by
 refine rR (fun a ha=>?_) _ (Ql hn (p:=List.toArray (List.range n)) (List.Perm.refl _))
 obtain ⟨a1,a2,a3,a4⟩:=ha
 by_cases z:a.1 < n
 ·rw [if_pos z]
  rw [show max a.1 1=a.1 by omega]
  exact Qu hn _ _ a1 (by omega) a2
 ·rw [if_neg z]
  rw [show a.1=n by omega] at a2
  exact ⟨a1,a2⟩
end
theorem Qq {α:Type} {n:Nat} {P P':α->Prop} (hp:∀ a,P a->P' a):∀ t:PySem.W.KasT α,Lv n P t->Lv n P' t
 | .ret a,h=>hp a h
 | .ask i j k,h=>⟨h.1,h.2.1,fun b=>Qq hp (k b) (h.2.2 b)⟩
def ltF (f:Bool):List Int->List Int->Bool
 | x :: r,y :: q=>if x=y then ltF f r q else decide (x < y)
 | _,_=>f
def ltL (a b:List Int):Bool:=ltF (decide (a.length < b.length)) a b
theorem range_getD {α:Type} (l:List α) (d:α):((List.toArray (List.range l.length)).toList.map fun i=>l.getD i d)=l:=by
 refine List.ext_getElem (by simp) fun i h1 h2=>?_
 simp at h1 ⊢
 simp [h1]
theorem OJ {xs:List V} {its:List Value} (h:Vals xs its) {p:Array Nat} (hp:Prn its.length p):(p.toList.map fun i=>xs.getD i V.non).Perm xs/\Vals (p.toList.map fun i=>xs.getD i V.non) (p.toList.map fun i=>its.getD i Value.none):=by
 have lv:=h.length
 constructor
 ·have:=hp.map fun i=>xs.getD i V.non
  rw [← lv] at this
  have e:=range_getD xs V.non
  rw [show (List.toArray (List.range xs.length)).toList=List.range xs.length from rfl] at e
  rw [e] at this
  exact this
 ·have hb:∀ i∈p.toList,i < its.length:=fun i hi=>List.mem_range.mp (hp.mem_iff.mp hi)
  generalize p.toList=l at hb
  induction l with
  | nil=>exact .nil
  | cons i l ih =>
   have hi:=hb i List.mem_cons_self
   refine .cons ?_ (ih fun j hj=>hb j (List.mem_cons_of_mem _ hj))
   obtain ⟨u,hu,r⟩:=h.get (List.getElem?_eq_getElem (show i < xs.length by omega))
   show RelV (xs.getD i V.non) (its.getD i Value.none)
   rw [List.getD_eq_getElem?_getD,List.getD_eq_getElem?_getD,List.getElem?_eq_getElem (show i < xs.length by omega),hu]
   exact r
def Hg (ks:List (List Int)) (n:Nat) (p:Array Nat):Prop:=(∃ g:Nat->Int,∀ i j,i < n->j < n->ltL (ks.getD i []) (ks.getD j [])=decide (g i < g j))->∀ i j,i<=j->j < n->ltL (ks.getD (p.getD j 0) []) (ks.getD (p.getD i 0) [])=false
def OrdW (ks:List (List Int)) (xs ws:List V):Prop:=∃ p:Array Nat,Prn xs.length p/\ws=(p.toList.map fun i=>xs.getD i V.non)/\Hg ks xs.length p
theorem LC {ks:List (List Int)} {n:Nat} (h:n < 2):Hg ks n (List.toArray (List.range n)):=by
 rintro ⟨g,hg⟩ i j hij hj
 obtain rfl:i=j:=by omega
 have pg:=cL (p:=List.toArray (List.range n)) (List.Perm.refl _) (by omega) i
 rw [hg _ _ pg pg]
 exact decide_eq_false (Int.lt_irrefl _)
theorem Qw {α:Type} {n:Nat} {b:Nat->Nat->Bool} {P:α->Prop}:∀ t:PySem.W.KasT α,Lv n P t->Lo n b P t
 | .ret a,h=>h
 | .ask i j k,h=>⟨h.1,h.2.1,Qw (k (b i j)) (h.2.2 _)⟩
theorem Jy {α:Type} {n:Nat} {b c:Nat->Nat->Bool} (e:∀ i j,i < n->j < n->b i j=c i j) {P:α->Prop}:∀ t:PySem.W.KasT α,Lo n b P t->Lo n c P t
 | .ret a,h=>h
 | .ask i j k,h=>⟨h.1,h.2.1,by rw [← e i j h.1 h.2.1]; exact Jy e (k (b i j)) h.2.2⟩
theorem Vt {ks:List (List Int)} {n:Nat} (hn:0 < n):Lo n (fun i j=>ltL (ks.getD i []) (ks.getD j [])) (fun p=>Prn n p/\Hg ks n p) (PySem.W.kas_sort n):=by
 by_cases hg:∃ g:Nat->Int,∀ i j,i < n->j < n->ltL (ks.getD i []) (ks.getD j [])=decide (g i < g j)
 ·obtain ⟨g,hg⟩:=hg
  refine Jy (fun i j hi hj=>(hg i j hi hj).symm) _ (vO (fun p hp=>⟨hp.1,fun _ i j hij hj=>?_⟩) _ (QD (ky:=g) hn))
  rw [hg _ _ (cL hp.1 hn _) (cL hp.1 hn _)]
  have:=hp.2 i j hij hj
  exact decide_eq_false (by omega)
 ·exact Qw _ (Qq (fun p hp=>⟨hp,fun z=>absurd z hg⟩) _ (R9 hn))
def TpK (h:Heap) (v:Value) (k:List Int):Prop:=k≠[]/\∃ a o xs n,v=.ref a/\h.get? a=some o/\o.cls=.type "tuple"/\o.data=.seq xs n/\IntsAre xs.toList k
theorem TpK.tpI {h:Heap} {v:Value} {k:List Int} (x:TpK h v k):TpI h v:=by
 obtain ⟨k0,a,o,xs,n,e1,e2,e3,e4,e5⟩:=x
 cases k with
 | nil=>exact absurd rfl k0
 | cons f ns=>exact ⟨a,o,xs,n,f,ns,e1,e2,e3,e4,e5⟩
theorem zu:∀ {vs:List Value} {ns:List Int},IntsAre vs ns->vs.length=ns.length
 | _,_,.nil=>rfl
 | _,_,.cons _ _ r=>congrArg (· + 1) (zu r)
section
variable {prog:Program} {w:World} {A:Around} {E:Value->Shared->Prop} {s:Shared}
theorem RG {a b:Int} {t u:Tok} {c:Bool} {Q:Bool->Shared->Prop} (h:Q (decide (a < b)) s):wpAny (model prog w) A (oneLt' c (.int a t) (.int b u)) Q E s:=by
 cases c with
 | true=>exact oneLt_int h
 | false=>exact PySem.W.kat_one _ _ (lt_int h)
theorem JX {Q:Bool->Shared->Prop} {b fin:Bool}:∀ {xs ys:List Value} {ns ms:List Int} (i:Nat),IntsAre xs ns->IntsAre ys ms->Q (ltF fin ns ms) s->PySem.W.KatLex prog w A b fin Q (xs.zip ys) i s
 | _,_,_,_,i,.nil,_,h=>PySem.W.kat_nil h
 | _,_,_,_,i,.cons _ _ _,.nil,h=>PySem.W.kat_nil h
 | _,_,_,_,i,.cons x t r,.cons y u q,h=>by
  refine PySem.W.kat_cons (wpAny_eqBool_int ?_)
  refine PySem.W.kat_go (fun z=>PySem.W.kat_yes (JX (i + 1) r q ?_)) fun z=>PySem.W.kat_no (RG ?_)
  ·have h:Q (if x=y then _ else _) s:=h
   rw [if_pos (by simpa using z)] at h
   exact h
  ·have h:Q (if x=y then _ else _) s:=h
   rw [if_neg (by simpa using z)] at h
   exact h
theorem Rf {x y:Value} {k l:List Int} {b:Bool} {Q:Bool->Shared->Prop} (hx:TpK s.heap x k) (hy:TpK s.heap y l) (h:Q (ltL k l) s):wpAny (model prog w) A (keyLt' (PyProof.Rows.tuples' b) x y) Q E s:=by
 obtain ⟨_,a,o,xs,n,rfl,e2,e3,e4,e5⟩:=hx
 obtain ⟨_,a',o',xs',n',rfl,g2,g3,g4,g5⟩:=hy
 refine PySem.W.kat_lt e2 e4 g2 g4 (JX 0 e5 g5 ?_)
 have l1:=zu e5
 have l2:=zu g5
 rw [Array.length_toList] at l1 l2
 rw [l1,l2]
 exact h
end
theorem OrdW.perm {ks:List (List Int)} {xs ws:List V} (h:OrdW ks xs ws):ws.Perm xs:=by
 obtain ⟨p,hp,rfl,_⟩:=h
 have:=hp.map fun i=>xs.getD i V.non
 have e:=range_getD xs V.non
 rw [show (List.toArray (List.range xs.length)).toList=List.range xs.length from rfl] at e
 rw [e] at this
 exact this
section
variable {X:Cx} {pins:List (Addr×Obj)} {σ:St} {H:Hp} {s:Shared} {D f:Addr} {xs:List V} {its:List Value} {ks:List (List Int)} {k:Nat} {fd:FuncData} {ps:List Str} {sp:Sp}
theorem Lk {n:Nat} {P:PySem.Fin->Shared->Prop} {E:Value->Shared->Prop} (F:FnOk X.prog X.w X.K X.mg X.base CX0 k f fd ps sp) (hr:Room k X.A.in1.in1) (hb:Binds X.K fd ps [])
  (IV:Inv X pins σ H s) (fD:vL X pins H D) (hD:s.heap.get? D=some (seqObj "list" its.toArray n)) (rv:Vals xs its) (h64:xs.length < 64) (lk:xs.length=ks.length) (kn:∀ k∈ks,k≠[])
  (KY:∀ (i:Nat) x k H3 (Q':VK),xs[i]?=some x->ks[i]?=some k->Same H H3->(∀ H4 t,Same H3 H4->SqT X.K H4 t (k.map V.int)->Q' (.ref t) H4)->sp [x] H3 Q' E0)
  (hR:∀ ws H' s',OrdW ks xs ws->Same H H'->H' D=none->Inv X pins σ (upd H' D (.lst ws)) s'->P (.done (.ret .none)) s') :
  wpAny (model X.prog X.w) X.A.in1.in1 (ksk_tree D (.ref f) false) P E s:=by
 have lv:=rv.length
 unfold ksk_tree
 refine emptied (k:=fun its e ks=>ksk_rest D (.ref f) false its e ks) hD (by omega) fun h2 e1 k2 hD2=>?_
 obtain ⟨f0,f1,f2,f3,f4,f5⟩:=id fD
 have I2:Inv X pins σ H { s with heap:=h2 }:=IV.turned (t':=s.toks) (it:=D) k2 f0 f1 f3 f4 f5
 have hkD:h2.objs.size≠D:=Nat.ne_of_gt (Heap.lt_size hD2)
 have hk0:H h2.objs.size=none:=Inv.fresh I2
 have I3:Inv X pins σ (upd H h2.objs.size (.lst [])) { s with heap:=h2.push (seqObj "list" #[] 0) }:=Inv.lnew (s:={ s with heap:=h2 }) (its:=[]) (t':=s.toks) I2 .nil (Nat.zero_le _)
 have hD3:(h2.push (seqObj "list" #[] 0)).get? D=some (seqObj "list" #[] e1):=Heap.get?_push_of_some _ hD2
 generalize h2.push (seqObj "list" #[] 0)=h3 at I3 hD3 ⊢
 generalize h2.objs.size=kS at I3 hkD hk0 ⊢
 unfold ksk_rest
 refine wpAny_bind (wpAny_rule ?_)
 rw [List.forIn_toArray]
 refine wpAny_bind (ksk_fold (fun i s'=>∃ H' ts,Inv X pins σ H' s'/\Same H H'/\H' D=none/\s'.heap.get? D=some (seqObj "list" #[] e1)/\H' kS=some (.lst ((ts:List Addr).map V.ref))/\ts.length=i/\∀ (j:Nat) t,ts[j]?=some t->∃ k,ks[j]?=some k/\SqT X.K H' t (k.map V.int)) its 0 _ ⟨_,[],I3,aH hk0,by rw [aF hkD.symm]; exact f0,hD3,az,rfl,fun j t h=>by simp at h⟩ ?_ ?_)
 ·rintro j x s' hx ⟨H',ts,I',sm,hD',gD,hK,lt,ht⟩
  rw [Nat.zero_add] at lt
  have hj:=(List.getElem?_eq_some_iff.mp hx).1
  have hxj:xs[j]?=some xs[j]:=List.getElem?_eq_getElem (by omega)
  obtain ⟨u',hu',rx⟩:=rv.get hxj
  rw [hx] at hu'
  cases hu'
  have hkj:ks[j]?=some ks[j]:=List.getElem?_eq_getElem (by omega)
  have fD':vL X pins H' D:=⟨hD',f1,f2,f3,f4,f5⟩
  have IP:Inv X (pins ++ vP [D] s'.heap) σ H' s':=I'.pinned (fp:=[D]) (fun b hb=>by rw [List.mem_singleton.mp hb]; exact fD') (fun b hb=>by rw [List.mem_singleton.mp hb]; exact ⟨_,gD,fun v z=>nomatch z⟩)
  have key:=vN (X:=X.one.one) (vs:=[xs[j]]) (us:=[x]) (Q:=fun z H4=>∃ t,z=.ref t/\Same H' H4/\SqT X.K H4 t (ks[j].map V.int)) (E:=E0) (dvs:=[]) (ds:=[]) F hr hb .nil (fun _ _ _ _ _ _ _ q=>q.elim) IP.one.one (.cons rx .nil) (by
   rw [List.append_nil]
   exact KY j _ _ H' _ hxj hkj sm fun H4 t s4 h4=>⟨t,rfl,s4,h4⟩)
  refine wpAny_bind (wpAny_attempt (wpAny_mono key (fun u s2 q=>?_) fun _ _ q=>q.elim))
  obtain ⟨z,H4,I4,rz,t2,rfl,s4,ht2⟩:=q
  cases rz
  have I4:=Inv.back IP.ok (Inv.back IP.one.ok I4)
  have pD:=I4.pin (D,seqObj "list" #[] e1) (List.mem_append_right _ (List.mem_append_right _ (jQ (by simp) gD)))
  have I5:=I4.unpinned
  have hK4:=s4 _ _ hK
  obtain ⟨_,kt,nk,rk,lk',gk⟩:=I5.lstM hK4
  rw [List.length_map] at lk'
  dsimp only
  refine wpAny_bind (listUpdate_at gk rfl ?_ (by rw [List.size_toArray,sizeLine_eq]; omega) (by rw [Array.size_push,List.size_toArray,sizeLine_eq]; omega))
  have I6:Inv X pins σ (upd H4 kS (.lst ((ts ++ [t2]).map V.ref))) { s2 with heap:=s2.heap.update kS (Obj.mapSeq (·.push (.ref t2))) }:=I5.lset (t':=s2.toks) (its':=kt ++ [.ref t2]) hK4 gk (by simp) (by rw [List.map_append]; exact PQ rk rfl) (by rw [List.length_map,List.length_append,List.length_singleton,sizeLine_eq]; omega)
  have nt:∀ t ks',SqT X.K H4 t ks'->SqT X.K (upd H4 kS (.lst ((ts ++ [t2]).map V.ref))) t ks':=fun t ks' h=>by
   rcases h with (h | ⟨z,h⟩) | h
   ·exact .inl (.inl (by rw [aF (fun z=>by rw [z,hK4] at h; cases h)]; exact h))
   ·exact .inl (.inr ⟨z,by rw [aF (fun z=>by rw [z,hK4] at h; cases h)]; exact h⟩)
   ·exact .inr h
  refine wpAny_pure ⟨rfl,_,ts ++ [t2],I6,fun b o e=>?_,?_,?_,az,by rw [List.length_append,lt]; simp,fun j' t hj'=>?_⟩
  ·rw [aF (aD e hk0)]
   exact s4 _ _ (sm _ _ e)
  ·rw [aF hkD.symm]
   exact pD.2.1
  ·exact ((Heap.SameBut.update s2.heap kS (Obj.mapSeq (·.push (.ref t2)))).2 D hkD.symm).trans pD.1
  ·by_cases w:j' < ts.length
   ·rw [List.getElem?_append_left w] at hj'
    obtain ⟨k',e1',e2'⟩:=ht j' t hj'
    exact ⟨k',e1',nt _ _ (SmT.same s4 _ _ e2')⟩
   ·have:j'=j:=by
     have:=(List.getElem?_eq_some_iff.mp hj').1
     rw [List.length_append,List.length_singleton] at this
     omega
    subst this
    rw [List.getElem?_append_right (by omega),lt,Nat.sub_self] at hj'
    cases hj'
    exact ⟨_,hkj,nt _ _ ht2⟩
 rintro s' ⟨H',ts,I',sm,hD',gD,hK,lt,ht⟩
 rw [Nat.zero_add] at lt
 obtain ⟨_,kt,nk,rk,lk',gk⟩:=I'.lstM hK
 rw [List.length_map] at lk'
 refine wpAny_bind (listItems_at gk rfl ?_)
 have hKk:∀ i,i < kt.length->TpK s'.heap (kt.getD i .none) (ks.getD i []):=fun i hil=>by
  have hi:kt[i]?=some kt[i]:=List.getElem?_eq_getElem hil
  have hti:ts[i]?=some ts[i]:=List.getElem?_eq_getElem (by omega)
  obtain ⟨k',e1',e2'⟩:=ht i _ hti
  obtain ⟨u',hu',ru⟩:=rk.get (show (ts.map V.ref)[i]?=some (.ref ts[i]) by rw [List.getElem?_map,hti]; rfl)
  rw [hi] at hu'
  cases hu'
  rw [List.getD_eq_getElem?_getD,List.getD_eq_getElem?_getD,hi,e1']
  show TpK s'.heap kt[i] k'
  rw [show kt[i]=Value.ref ts[i] from ru]
  obtain ⟨ia,ra,pa,_⟩:=I'.tuple e2'
  obtain ⟨o,ho,hc,n',hd⟩:=id pa
  exact ⟨kn k' (List.mem_of_getElem? e1'),_,o,_,n',rfl,ho,hc,hd,intsAre_of ra⟩
 have hT:∀ v∈kt,TpI s'.heap v:=fun v hv=>by
  obtain ⟨i,hi⟩:=List.getElem?_of_mem hv
  have hil:=(List.getElem?_eq_some_iff.mp hi).1
  have:=hKk i hil
  rw [List.getD_eq_getElem?_getD,hi] at this
  exact this.tpI
 have hkD':D≠kS:=hkD.symm
 have fin:∀ st:SortSt,failedOf st=none->(∃ p,Prn its.length p/\Hg ks its.length p/\(arrOf st).map (·.2)=List.toArray (p.toList.map fun i=>its.getD i Value.none))->wpAny (model X.prog X.w) X.A.in1.in1 (ksk_tail D false e1 (.ref kS) st) P E s':=by
  rintro st hf ⟨p,hp,od,eo⟩
  obtain ⟨wp,wv⟩:=OJ rv hp
  have po:=Vn hp
  generalize eo2:(p.toList.map fun i=>its.getD i Value.none)=out at eo wv po
  generalize ew:(p.toList.map fun i=>xs.getD i V.non)=ws at wp wv
  have hOW:OrdW ks xs ws:=⟨p,by rw [lv]; exact hp,ew.symm,by rw [lv]; exact od⟩
  unfold ksk_tail
  try dsimp only
  rw [eo]
  refine wpAny_bind (listUpdate_at gk rfl ?_ (by rw [List.size_toArray,sizeLine_eq]; omega) (Nat.zero_le _))
  have I6:Inv X pins σ (upd H' kS (.lst [])) { s' with heap:=s'.heap.update kS (Obj.mapSeq fun _=>(#[]:Array Value)) }:=I'.lset (t':=s'.toks) (its':=[]) (ys:=[]) hK gk (by simp) .nil (Nat.zero_le _)
  have gD6:(s'.heap.update kS (Obj.mapSeq fun _=>(#[]:Array Value))).get? D=some (seqObj "list" #[] e1):=((Heap.SameBut.update s'.heap kS (Obj.mapSeq fun _=>(#[]:Array Value))).2 D hkD').trans gD
  generalize s'.heap.update kS (Obj.mapSeq fun _=>(#[]:Array Value))=h6 at I6 gD6 ⊢
  refine wpAny_bind (wpAny_letGo ?_)
  refine Ha (s:={ s' with heap:=h6 }) (out:=out.toArray) gD6 (by rw [List.size_toArray,po.length_eq,sizeLine_eq]; omega) fun h7 c k7 g7=>?_
  rw [hf]
  wp_walk
  refine hR ws (upd H' kS (.lst [])) _ hOW (fun b o e=>?_) (by rw [aF hkD']; exact hD') ?_
  ·rw [aF (aD e hk0)]
   exact sm _ _ e
  ·exact Inv.adopt (s:={ s' with heap:=h6 }) (t':=s'.toks) I6 k7 ⟨by rw [aF hkD']; exact hD',f1,f2,f3,f4,f5⟩ ⟨by rw [wp.length_eq,sizeLine_eq]; omega,out,c,wv,g7⟩
 unfold ksk_end
 try dsimp only
 simp only [Bool.false_eq_true,if_false]
 by_cases h2:its.toArray.size < 2
 ·rw [if_pos h2,if_pos h2]
  refine wpAny_bind (wpAny_pure ?_)
  rw [StateT.run_pure]
  refine wpAny_bind (wpAny_pure ?_)
  refine fin _ rfl ⟨List.toArray (List.range its.length),List.Perm.refl _,LC (by simpa using h2),?_⟩
  rw [show ((List.toArray (List.range its.length)).toList.map fun i=>its.getD i Value.none)=its from range_getD its _]
  show (kt.toArray.zip its.toArray).map (·.2)=its.toArray
  apply Array.toList_inj.mp
  simp
  exact List.map_snd_zip (by omega)
 ·rw [if_neg h2,if_neg h2]
  have h2':2<=its.length:=by simpa using h2
  obtain ⟨fs,kt',ki,kl⟩:=kat_tups hT
  refine wpAny_bind (PySem.W.kat_kind (T:=Value.type "int") kt' (by omega) (fun v hv=>?_) (by decide) ?_)
  ·obtain ⟨n',t',rfl⟩:=ki v hv
   exact PySem.W.Looks.of_pure rfl
  have hkl:kt.length=its.length:=by omega
  refine wpAny_bind (wpAny_mono (PySem.W.kat_run (ks:=kt) (vs:=its) (Q:=fun st' s''=>s''=s'/\failedOf st'=none/\∃ p,(Prn its.length p/\Hg ks its.length p)/\arrOf st'=p.map (PySem.W.kas_item (kt.toArray.zip its.toArray)))
   (G:=fun p s''=>s''=s'/\Prn its.length p/\Hg ks its.length p) hkl h2' (by omega) (fun p st' s'' _ a2 a3 a4=>⟨a4.1,a3,p,a4.2,a2⟩) ?_) ?_ fun _ _ e=>e)
  ·refine Ti (n:=its.length) (b:=fun i j=>ltL (ks.getD i []) (ks.getD j [])) (P:=fun p=>Prn its.length p/\Hg ks its.length p) (fun i j C hi hj hC=>?_) (fun p hp=>⟨rfl,hp⟩) _ (Vt (by omega))
   unfold PySem.W.kas_ask
   exact Rf (hKk i (by omega)) (hKk j (by omega)) hC
  rintro ⟨⟨⟩,st'⟩ s'' ⟨rfl,hf,p,hp,har⟩
  exact fin st' hf ⟨p,hp.1,hp.2,PySem.W.kat_snds hkl har⟩
theorem Mw {l:Addr} {Q:Value->Shared->Prop} {E:Value->Shared->Prop} (F:FnOk X.prog X.w X.K X.mg X.base CX0 k f fd ps sp) (hr:Room k X.A.in1.in1) (hb:Binds X.K fd ps [])
  (IV:Inv X pins σ H s) (hl:s.heap.IsList l its.toArray) (rv:Vals xs its) (h64:xs.length < 64) (lk:xs.length=ks.length) (kn:∀ k∈ks,k≠[])
  (KY:∀ (i:Nat) x k H3 (Q':VK),xs[i]?=some x->ks[i]?=some k->Same H H3->(∀ H4 t,Same H3 H4->SqT X.K H4 t (k.map V.int)->Q' (.ref t) H4)->sp [x] H3 Q' E0)
  (hR:∀ D ws H' s',H D=none->OrdW ks xs ws->Same H H'->H' D=none->Inv X pins σ (upd H' D (.lst ws)) s'->Q (.ref D) s') :
  wpAny (model X.prog X.w) X.A (call (.builtin "sorted") [.ref l] [(Str.ofString "key",.ref f)]) Q E s:=by
 have lv:=rv.length
 refine Kg hl (by omega) (ksk_s1 _ _) (fun _=>ksk_l1 _ _) fun h1 g1 a1=>?_
 have hDn:H (s.heap.objs.size + 1)=none:=IV.hok.fresh (Nat.le_succ _)
 rw [ksk_t1]
 exact Lk F hr hb (IV.kept (t':=s.toks) g1) (IV.fpOk (Nat.le_succ _) hDn) a1 rv h64 lk kn KY fun ws H' s' wp sm hD' I'=>⟨rfl,hR _ ws H' s' hDn wp sm hD' I'⟩
end
def N5 (K:PySem.W.Frag) (sp:Sp) (x:V) (H2:Hp) (Q:VK):Prop:=∃ (l:Addr) (xs:List V) (ks:List (List Int)),x=.ref l/\SqL K H2 l xs/\xs.length < 64/\xs.length=ks.length/\(∀ k∈ks,k≠[]) /\
 (∀ (i:Nat) (x:V) (k:List Int) (H3:Hp) (Q':VK),xs[i]?=some x->ks[i]?=some k->Same H2 H3->(∀ H4 t,Same H3 H4->SqT K H4 t (k.map V.int)->Q' (.ref t) H4)->sp [x] H3 Q' E0) /\
 ∀ (D:Addr) (ws:List V) (H':Hp),H2 D=none->ws.Perm xs->OrdW ks xs ws->Same H2 H'->H' D=some (.lst ws)->Q (.ref D) H'
def Pk (K:PySem.W.Frag) (sp:Sp) (te:TE):TE:=fun σ H Q=>te σ H fun x H1=>N5 K sp x H1 Q
section
variable {X:Cx}
theorem wI {K:PySem.W.Frag} {e:Expr} {te:TE} {p p2 pos k1:Pos} {fx:Str} {k:Nat} {f:Addr} {fd:FuncData} {ps:List Str} {sp:Sp} (hK:X.K=K) (ha:PA X [e] (yE te Ig)) (hg:Gl X "sorted") (hm:X.mg "sorted"=none)
  (G:FnOk X.prog X.w X.K X.mg X.base CX0 k f fd ps sp) (hmk:X.mg fx=some (.ref f)) (hbk:Binds X.K fd ps []) (hgk:Gl X fx) (hr:Room (k + 1) X.A) (hdb:(fx == ("__debug__":Str))=false:=by decide)
  (h1:backTo pos (starEach [e] X.env)=(false,eval e X.env) :: backTo pos (starEach [] X.env):=by rfl) (h2:(backTo pos (starEach [e] X.env)).any (·.1)=false:=by rfl) :
  PE X (.Call (.Name "sorted" p) [e] [⟨some "key",.Name fx p2,k1⟩] pos) (Pk K sp te):=by
 subst hK
 intro pins s σ H Q I h
 refine wpAny_Call_Name_kw (q9 I hg hm PyProof.Rows.boot_sorted ?_)
 refine PyProof.Rows.callWith_kw ?_ h1 h2
 refine thn (ha pos pins s σ H (fun vs H1=>match vs with | [x]=>N5 X.K sp x H1 Q | _=>False) I h) fun us s1 ⟨vs,H1,I1,r1,q1⟩=>?_
 obtain ⟨x,rfl⟩:∃ x,vs=[x]:=by
  match vs,q1 with
  | [x],_=>exact ⟨x,rfl⟩
 obtain ⟨u,rfl,rx⟩:=vals1 r1
 obtain ⟨l,xs,ks,ex,hl,h64,lk,kn,KY,q⟩:=q1
 subst ex
 cases rx
 refine PyProof.Rows.kws_cons (uT I1 hgk hmk ?_ hdb)
 refine PyProof.Rows.kws_nil ?_
 obtain ⟨its,rv,pl,hz⟩:=I1.list hl
 show wpAny _ _ (call (.builtin "sorted") [Value.ref l] [(Str.ofString "key",.ref f)]) _ _ _
 refine Mw (H:=H1) G (Room.two hr) hbk I1 pl.isList rv h64 lk kn KY fun D ws H' s' hD wp sm hD' I'=>?_
 exact ⟨.ref D,_,I',rfl,q D ws _ hD wp.perm wp (sm.trans (aH hD')) az⟩
end
theorem R7 {K:PySem.W.Frag} {sp:Sp} {te:TE} {σ:St} {H:Hp} {Q:VK} (h:te σ H fun x H1=>N5 K sp x H1 Q):Pk K sp te σ H Q:=h
end L2
namespace L2
open PySem PySem.Spec PyProof.Rows
section
variable {X:Cx}
theorem Inv.thawT {pins:List (Addr×Obj)} {σ:St} {H:Hp} {s:Shared} {a:Addr} {o:Obj} {kvs:List (List Key×V)} (I:Inv X pins σ H s) (h:H a=some (.frz o (.dT kvs))) (n1:∀ xs,X.H₀ a≠some (.tup xs)) (n2:∀ o u,X.H₀ a≠some (.frz o u)) (n3:∀ ps,X.H₀ a≠some (.tbl ps)):Inv X pins σ (upd H a (.dT kvs)) s:=by
 have ne:∀ b,H b=none->b≠a:=fun b q z=>by rw [z,h] at q; cases q
 have b:=I.base
 refine ⟨I.ok,I.os,I.bare,⟨b.keep,b.slot,fun c oc e n x=>?_,b.there,fun c xs e=>?_,fun c oc u e=>?_,fun c ps e=>?_⟩,I.loc,I.cell,by rw [aF (ne _ I.free)]; exact I.free,fun x c z=>by rw [aF (ne _ (I.freeC x c z))]; exact I.freeC x c z,
  fun p hp=>let ⟨p1,p2,p3⟩:=I.pin p hp; ⟨p1,by rw [aF (ne _ p2)]; exact p2,p3⟩,fun c u e=>?_,I.len⟩
 ·have q:=b.free c oc e n x
  rw [aF (ne _ q)]
  exact q
 ·have nc:c≠a:=fun z=>n1 _ (z ▸ e)
  rw [aF nc]
  exact b.tups c xs e
 ·have nc:c≠a:=fun z=>n2 _ _ (z ▸ e)
  rw [aF nc]
  exact b.frzs c oc u e
 ·have nc:c≠a:=fun z=>n3 _ (z ▸ e)
  rw [aF nc]
  exact b.tbls c ps e
 ·by_cases hc:c=a
  ·subst hc
   rw [az] at e
   cases e
   obtain ⟨z,y,xs,kt,rest⟩:=(show ObjOk X.prog X.w H s.heap c (.dT kvs) from (I.hok c _ h).2)
   exact ⟨z,y,xs,KT.keeps kt fun d ys q=>by rw [aF (fun z=>by rw [z,h] at q; cases q)]; exact q,rest⟩
  ·rw [aF hc] at e
   refine (I.hok c u e).stay (fun _ _ _ q=>q) (fun d q=>?_) fun d xs q=>?_
   ·rw [aF (fun z=>by rw [z,h] at q; cases q)]
    exact q
   ·rw [aF (fun z=>by rw [z,h] at q; cases q)]
    exact q
def Mv (t:TS):TS:=fun D σ H=>∃ a kvs,H a=some (.dT kvs)/\t { D with nx:=fun σ' H'=>(∃ o,H' a=some (.frz o (.dT kvs)))/\D.nx σ' (upd H' a (.dT kvs)),rt:=fun v H'=>(∃ o,H' a=some (.frz o (.dT kvs)))/\D.rt v (upd H' a (.dT kvs)) } σ H
theorem O3 {st:Stmt} {t:TS} (h:PS X st t):PS X st (Mv t):=by
 intro pins s σ H D I hw
 obtain ⟨a,kvs,ha,ht⟩:=hw
 have n1:∀ xs,X.H₀ a≠some (.tup xs):=fun xs e=>by have:=I.base.tups a xs e; rw [ha] at this; cases this
 have n2:∀ o u,X.H₀ a≠some (.frz o u):=fun o u e=>by have:=I.base.frzs a o u e; rw [ha] at this; cases this
 have n3:∀ ps,X.H₀ a≠some (.tbl ps):=fun ps e=>by obtain ⟨m,q⟩:=I.base.tbls a ps e; rw [ha] at q; cases q
 refine thn (h pins s σ H _ I ht) fun f s1 q=>?_
 cases f with
 | next =>
  obtain ⟨σ',H',I',⟨o,e⟩,n⟩:=q
  exact ⟨σ',_,I'.thawT e n1 n2 n3,n⟩
 | brk=>exact q
 | cont=>exact q
 | ret u =>
  obtain ⟨v,σ',H',I',r,⟨o,e⟩,n⟩:=q
  exact ⟨v,σ',_,I'.thawT e n1 n2 n3,r,n⟩
end
theorem QX {t:TS} {D:Ends} {σ:St} {H:Hp} {d:Addr} {kvs:List (List Key×V)} (hd:H d=some (.dT kvs)) (h:t { D with nx:=fun σ' H'=>(∃ o,H' d=some (.frz o (.dT kvs)))/\D.nx σ' (upd H' d (.dT kvs)),rt:=fun v H'=>(∃ o,H' d=some (.frz o (.dT kvs)))/\D.rt v (upd H' d (.dT kvs)) } σ H):Mv t D σ H:=⟨d,kvs,hd,h⟩
end L2
local macro_rules | `(tactic| sizeOf_list_dec) => `(tactic| first | assumption | decide | exact ⟨by decide, by decide⟩ | exact ⟨by decide, by decide, by decide⟩ | exact Nat.le_of_ble_eq_true rfl | exact L2.aJ (by omega) | exact L2.LQ | exact L2.NZ | omega | fail)
local macro_rules | `(tactic| decreasing_trivial_pre_omega) => `(tactic| first | assumption | (apply L2.SqL.of; assumption) | (apply L2.SqT.of; assumption) | (refine Or.inl ?_; assumption) | (refine Or.inl ?_; apply L2.SqL.of; assumption) | (refine Or.inr ?_; apply L2.SqT.of; assumption))
local macro_rules | `(tactic| bv_omega) => `(tactic| first | assumption | exact L2.ig (j := 0) rfl | exact L2.ig (j := 1) rfl | exact L2.ig (j := 2) rfl | exact L2.ig (j := 3) rfl | exact L2.ig (j := 4) rfl | exact L2.ig (j := 5) rfl)
local macro_rules | `(tactic| array_get_dec) => `(tactic| array_mem_dec)
local macro_rules | `(tactic| array_get_dec) => `(tactic| with_reducible first
 | refine L2.Uw ?_ | refine L2.UL ?_ | refine L2.Vx ?_ | refine L2.Uz ?_ | refine L2.UJ ?_ | refine L2.Ue ?_ | refine L2.Vg ?_ | refine L2.XS ?_ | refine L2.Yl ?_ | refine L2.x_c ?_ | refine L2.Xd ?_ | refine L2.X3 ?_ | refine L2.Vf ?_
 | refine L2.TX ?_ | refine L2.Xz ?_ | refine L2.x_call ?_ | refine L2.Ys ?_ | refine L2.Yn ?_ | refine L2.Us ?_ | refine L2.XF ?_ | refine L2.x_b ?_ | refine L2.U4 ?_ | refine L2.Ri ?_
 | refine L2.Wz ?_ | refine L2.Yr ?_ | refine L2.XN ?_ | refine L2.T8 ?_ | refine L2.Xu ?_ | refine L2.T5 ?_ | refine L2.Wq ?_
 | refine L2.Uj ?_ | refine L2.Vv ?_ | refine L2.Ym ?_ | refine L2.x_U ?_ | refine L2.Xe ?_ | refine L2.WL ?_ | refine L2.W4 ?_ | refine L2.Xl ?_ | refine L2.x_eqB ?_ | refine L2.x_neB ?_
 | refine L2.WT ?_ | refine L2.Xg ?_ | refine L2.Ua ?_ | refine L2.Yp ?_ | refine L2.Nz ?_ | refine L2.Wc ?_ | refine L2.Rt ?_
 | refine L2.T7 ?_ | refine L2.Rv ?_ | refine L2.x_din ?_ | refine L2.O6 ?_ | refine L2.Vc ?_ | refine L2.Xh ?_ | refine L2.Ry ?_ | refine L2.VL ?_ | refine L2.Wx ?_ | refine L2.Yb ?_ | refine L2.Xv ?_ | refine L2.Wd ?_
 | refine L2.Q4 ?_ | refine L2.Uh ?_ | refine L2.x_retN ?_ | refine L2.x_brk ?_ | refine L2.x_cont ?_ | refine L2.Ws ?_ | refine L2.Yj ?_ | refine L2.Wv ?_ | refine L2.W9 ?_)
local macro_rules | `(tactic| array_mem_dec) => `(tactic| ((with_reducible apply L2.Vh); (focus decreasing_trivial_pre_omega); (focus rfl)))
local macro_rules | `(tactic| array_mem_dec) => `(tactic| ((with_reducible apply L2.Xo); (focus exact rfl)))
local macro_rules | `(tactic| array_mem_dec) => `(tactic| ((with_reducible apply L2.x_I); (focus sizeOf_list_dec)))
local macro_rules | `(tactic| array_mem_dec) => `(tactic| ((with_reducible apply L2.X5); (focus decreasing_trivial_pre_omega); (focus bv_omega)))
local macro_rules | `(tactic| array_mem_dec) => `(tactic| ((with_reducible apply L2.W8); (focus decreasing_trivial_pre_omega); (focus bv_omega)))
local macro_rules | `(tactic| array_mem_dec) => `(tactic| ((with_reducible apply L2.Xf); (focus decreasing_trivial_pre_omega)))
local macro_rules | `(tactic| array_mem_dec) => `(tactic| ((with_reducible apply L2.x_exisd); (focus decreasing_trivial_pre_omega)))
local macro_rules | `(tactic| array_mem_dec) => `(tactic| ((with_reducible apply L2.Vm); (focus decreasing_trivial_pre_omega)))
local macro_rules | `(tactic| array_mem_dec) => `(tactic| ((with_reducible apply L2.Ui); (focus decreasing_trivial_pre_omega)))
local macro_rules | `(tactic| array_mem_dec) => `(tactic| ((with_reducible apply L2.Wm); (focus decreasing_trivial_pre_omega); (first | rw [L2.JS] | rw [L2.isSomemap] | skip)))
local macro_rules | `(tactic| array_mem_dec) => `(tactic| ((with_reducible apply L2.x_exdin); (focus decreasing_trivial_pre_omega); (first | rw [L2.JS] | rw [L2.isSomemap] | skip)))
local macro_rules | `(tactic| array_mem_dec) => `(tactic| ((with_reducible apply L2.UW); (focus decreasing_trivial_pre_omega); (focus decreasing_trivial_pre_omega)))
local macro_rules | `(tactic| array_mem_dec) => `(tactic| ((with_reducible apply L2.W5); (focus decreasing_trivial_pre_omega)))
local macro_rules | `(tactic| array_mem_dec) => `(tactic| ((with_reducible apply L2.x_lenL); (focus decreasing_trivial_pre_omega)))
local macro_rules | `(tactic| array_mem_dec) => `(tactic| ((with_reducible apply L2.x_lenT); (focus decreasing_trivial_pre_omega)))
local macro_rules | `(tactic| array_mem_dec) => `(tactic| ((with_reducible apply L2.x_lenD); (focus decreasing_trivial_pre_omega)))
local macro_rules | `(tactic| array_mem_dec) => `(tactic| ((with_reducible apply L2.Xn); (focus sizeOf_list_dec)))
local macro_rules | `(tactic| array_mem_dec) => `(tactic| ((with_reducible apply L2.Xy); (focus sizeOf_list_dec)))
local macro_rules | `(tactic| array_mem_dec) => `(tactic| ((with_reducible apply L2.M3); (focus assumption); (focus sizeOf_list_dec)))
local macro_rules | `(tactic| array_mem_dec) => `(tactic| ((with_reducible apply L2.Ol); (focus assumption); (focus assumption); (focus sizeOf_list_dec)))
local macro_rules | `(tactic| clean_wf) => `(tactic| repeat' (first | array_get_dec | fail))
local macro_rules | `(tactic| array_mem_dec) => `(tactic| ((with_reducible apply L2.x_rlenL); (focus decreasing_trivial_pre_omega)))
local macro_rules | `(tactic| array_mem_dec) => `(tactic| ((with_reducible apply L2.Q3); (focus decreasing_trivial_pre_omega)))
local macro_rules | `(tactic| array_mem_dec) => `(tactic| ((with_reducible apply L2.Qy); (focus decreasing_trivial_pre_omega)))
local macro_rules | `(tactic| array_mem_dec) => `(tactic| ((with_reducible apply L2.O8); (focus decreasing_trivial_pre_omega)))
local macro_rules | `(tactic| array_mem_dec) => `(tactic| ((with_reducible apply L2.Rb); (focus decreasing_trivial_pre_omega)))
local macro_rules | `(tactic| array_mem_dec) => `(tactic| ((with_reducible apply L2.x_rdict); (focus decreasing_trivial_pre_omega)))
local macro_rules | `(tactic| array_mem_dec) => `(tactic| (with_reducible refine L2.Ni ?_))
local macro_rules | `(tactic| array_mem_dec) => `(tactic| ((with_reducible apply L2.Q7); (focus decreasing_trivial_pre_omega)))
local macro_rules | `(tactic| array_mem_dec) => `(tactic| ((with_reducible apply L2.Wt); (focus decreasing_trivial_pre_omega); (focus bv_omega)))
local macro_rules | `(tactic| array_mem_dec) => `(tactic| (with_reducible first | refine L2.Ye ?_ | refine L2.WP ?_ | refine L2.Ug ?_ | refine L2.Va ?_ | refine L2.Xm ?_ | refine L2.Vs ?_ | refine L2.Q0 ?_ | refine L2.Ul ?_ | refine L2.Yg ?_))
local macro_rules | `(tactic| array_mem_dec) => `(tactic| ((with_reducible refine L2.Hm ?_); (with_reducible refine L2.Hm ?_); (with_reducible apply L2.Io); (focus assumption); (focus sizeOf_list_dec)))
local macro_rules | `(tactic| array_mem_dec) => `(tactic| ((with_reducible refine L2.Hm ?_); (with_reducible apply L2.Io); (focus assumption); (focus sizeOf_list_dec)))
local macro_rules | `(tactic| array_mem_dec) => `(tactic| ((with_reducible apply L2.Io); (focus assumption); (focus sizeOf_list_dec)))
local macro_rules | `(tactic| array_mem_dec) => `(tactic| ((with_reducible apply L2.Vi); (focus assumption); (focus sizeOf_list_dec); (focus sizeOf_list_dec); (focus sizeOf_list_dec)))
local macro_rules | `(tactic| array_mem_dec) => `(tactic| ((with_reducible apply L2.XH); (focus assumption); (focus sizeOf_list_dec); (focus sizeOf_list_dec); (focus sizeOf_list_dec)))
local macro_rules | `(tactic| sizeOf_list_dec) => `(tactic| with_reducible first | exact L2.Ho | exact L2.Hv | exact L2.Lq | exact L2.Mt | exact L2.Im | exact L2.M4 | exact L2.DX | exact L2.yL | exact L2.Qm | exact L2.Pu | exact L2.Mi | exact L2.Ow | exact L2.cfl_shown | fail)
local macro_rules | `(tactic| array_mem_dec) => `(tactic| ((with_reducible apply L2.Vu); (focus decreasing_trivial_pre_omega)))
local macro_rules | `(tactic| array_mem_dec) => `(tactic| ((with_reducible apply L2.x_gdg); (focus decreasing_trivial_pre_omega); (focus assumption)))
local macro_rules | `(tactic| array_mem_dec) => `(tactic| ((with_reducible apply L2.x_gdo); (focus decreasing_trivial_pre_omega)))
local macro_rules | `(tactic| array_mem_dec) => `(tactic| ((with_reducible apply L2.x_gdin); (focus decreasing_trivial_pre_omega)))
local macro_rules | `(tactic| array_mem_dec) => `(tactic| ((with_reducible apply L2.x_gdput); (focus assumption); (focus assumption); (focus sizeOf_list_dec)))
local macro_rules | `(tactic| sizeOf_list_dec) => `(tactic| with_reducible first | exact L2.kf_learnt | exact L2.kf_learn | exact L2.kf_row_of | exact L2.kf_floor | exact L2.kf_reach | exact L2.kf_sure | fail)
local macro_rules | `(tactic| array_mem_dec) => `(tactic| ((with_reducible apply L2.x_rdictG); (focus decreasing_trivial_pre_omega)))
local macro_rules | `(tactic| array_mem_dec) => `(tactic| (with_reducible first | refine L2.x_ivals ?_ | refine L2.x_ikeys ?_ | refine L2.x_iseq ?_ | refine L2.x_sl3 ?_))
local macro_rules | `(tactic| array_mem_dec) => `(tactic| ((with_reducible apply L2.x_tyd); (focus assumption)))
local macro_rules | `(tactic| array_mem_dec) => `(tactic| (with_reducible first | refine L2.x_iitems ?_))
local macro_rules | `(tactic| array_mem_dec) => `(tactic| ((with_reducible apply L2.x_neE); (focus decreasing_trivial_pre_omega); (focus decreasing_trivial_pre_omega)))
local macro_rules | `(tactic| sizeOf_list_dec) => `(tactic| with_reducible first | exact L2.kf_listed | exact L2.kf_merge | fail)
local macro_rules | `(tactic| array_mem_dec) => `(tactic| (with_reducible first | refine L2.x_gsub ?_))
local macro_rules | `(tactic| array_mem_dec) => `(tactic| (with_reducible first | refine L2.Ut ?_))
local macro_rules | `(tactic| sizeOf_list_dec) => `(tactic| with_reducible first | exact L2.chf_me | exact L2.chf_hands | exact L2.chf_ballot | exact L2.chf_yes | exact L2.chf_votes | exact L2.chf_reports | exact L2.chf_agreed | exact L2.chf_begin | exact L2.chf_message | exact L2.chf_receive | exact L2.chf_see_ballot | exact L2.chf_see_yes | exact L2.chf_see_votes | exact L2.chf_gathers | exact L2.chf_settled | exact L2.chf_len | fail)
local macro_rules | `(tactic| array_mem_dec) => `(tactic| (with_reducible first | refine L2.Uk ?_))
local macro_rules | `(tactic| array_mem_dec) => `(tactic| (with_reducible first | refine L2.x_sortk ?_))
local macro_rules | `(tactic| array_mem_dec) => `(tactic| (with_reducible refine L2.x_irev ?_))
local macro_rules | `(tactic| array_mem_dec) => `(tactic| (with_reducible refine L2.Nv ?_))
local macro_rules | `(tactic| array_mem_dec) => `(tactic| (with_reducible first | refine L2.R7 ?_))
namespace K53
open PySem L2
def top (i:Nat):Stmt:=PySem.Challenge.pw_groupcall_k53_whole_row_walked.main.body.getD i (.Pass ⟨0,0,0,0⟩)
abbrev jZ:Stmt:=top 2
abbrev fP:Stmt:=top 3
abbrev oK:Stmt:=top 4
abbrev jW:Stmt:=top 6
abbrev oY:Stmt:=top 5
abbrev fQ:Stmt:=top 7
abbrev dh:Stmt:=inClass (top 18) 0
abbrev cD:Stmt:=inClass (top 19) 0
abbrev jX:Stmt:=top 13
abbrev mH:Stmt:=top 22
abbrev jf:Stmt:=top 23
abbrev eG:Stmt:=inClass (top 18) 4
abbrev jb:Stmt:=inClass (top 18) 5
abbrev cN:Stmt:=inClass (top 20) 1
abbrev iD:Stmt:=top 27
abbrev mC:Stmt:=top 28
abbrev jc:Stmt:=inClass (top 18) 1
abbrev je:Stmt:=inClass (top 18) 2
abbrev cG:Stmt:=inClass (top 18) 6
abbrev bW:Stmt:=inClass (top 21) 1
abbrev mF:Stmt:=top 26
abbrev eE:Stmt:=top 29
abbrev c7:Stmt:=top 30
abbrev dZ:Stmt:=top 31
abbrev Ac:Stmt:=top 32
abbrev dX:Stmt:=top 33
section
variable {P:Program} {w:World} {K:PySem.W.Frag} {mg:Str->Option Value} {base:Heap}
def gJ (K:PySem.W.Frag):Sp:=fun vs H Q _=>∃ (d:Addr) (m:List (Int×Int)) (h:Int),vs=[.ref d,.int h]/\Rd H d (.dK (dI m))/\Q (.int (ct m h)) H
theorem Gj:FnScope ["counts","hand"] ["counts","hand"] (au jZ):=⟨rfl,rfl,rfl,by decide +kernel,rfl,by decide +kernel,by decide +kernel⟩
theorem Ep {f :Addr} {fd :FuncData} (F:Fun K "count_of" "count_of" jZ f fd):FnOk P w K mg base CX0 1 f fd ["counts","hand"] (gJ K):=by
 refine F.ok Gj (fun vs H Q E h=>?_) (fun cdv A outer s H vs Q E hr h=>?_)
 ·obtain ⟨d,m,h,rfl,_⟩:=h
  rfl
 obtain ⟨d,m,h,rfl,h⟩:=h
 have hu64:=hr.units
 have hu0:=hr.units0
 have hu:=bD hr
 refine ⟨_,(aC (aU (gZ hu (pv 0) (pv 1) aq ⟨rfl,rfl,rfl,rfl⟩))),?_⟩
 obtain ⟨hd,k⟩:=h
 refine ⟨_,rfl,d,rfl,.inl ⟨_,hd⟩,_,rfl,_,.inl ⟨_,Sum.inl h,hd,rfl,rfl⟩,?_⟩
 show Q ((fZ (dI m) (Sum.inl h:Key)).getD (.int 0)) H
 rw [QR]
 exact k
def jE (K:PySem.W.Frag):Sp:=fun vs H Q _=>∃ (a:Addr) (xs:List V) (ms:List (List (Int×Int))),vs=[.ref a]/\SqL K H a xs/\Dcs H xs ms/\(∀ m∈ms,Ck m)/\ms.length<=10 /\
 ∀ (H':Hp) (l:Addr) (S:List Int),Same H H'->H' l=some (.lst (S.map V.int))->S.Nodup->(∀ k,k∈S↔∃ m∈ms,k∈m.map (·.1))->Q (.ref l) H'
theorem sc_hands_among:FnScope ["some","hands","counts"] ["some"] (au fP):=⟨rfl,rfl,rfl,by decide +kernel,rfl,by decide +kernel,by decide +kernel⟩
theorem yJ {f :Addr} {fd :FuncData} (F:Fun K "hands_among" "hands_among" fP f fd) (jT:mg "list"=none) (Mm:mg "set"=none) (fK:mg "sorted"=none):FnOk P w K mg base CX0 1 f fd ["some"] (jE K):=by
 refine F.ok sc_hands_among (fun vs H Q E h=>?_) (fun cdv A outer s H vs Q E hr h=>?_)
 ·obtain ⟨a,xs,ms,rfl,_⟩:=h
  rfl
 obtain ⟨a,xs,ms,rfl,h⟩:=h
 have hu64:=hr.units
 have hu0:=hr.units0
 have hu:=bD hr
 refine ⟨_,(aj (aM (i:=1) sc_hands_among.nd rfl (Or.inl rfl) (dR ak))
   (aj (cP PassesOwn.never rfl (bB (K:=K) rfl (pv 0)) (aX (i:=2) sc_hands_among.nd rfl (Or.inl rfl))
   (aC (jy (rA PySem.F.plainAttrs_list PySem.F.slot_list_extend PySem.F.type_list_extend Lx (pv 1) (aa (bT (Hk rfl) (by rfl) jT PyProof.Rows.boot_list (aa (pv 2) ak)) ak)))))
   (aC (aU (bw (uX rfl) (by rfl) fK PyProof.Rows.boot_sorted (aa (bT (Bh rfl) (by rfl) Mm (show bootBuiltins "set"=some (.type "set") by decide +kernel) (aa (pv 1) ak)) ak)))))),?_⟩
 obtain ⟨hS,dc,ck,l10,k⟩:=h
 refine ⟨Nat.zero_le _,fun hl hhl=>?_⟩
 have lx:xs.length=ms.length:=Paired.length dc
 refine ⟨_,rfl,a,rfl,⟨_,(aH hhl).seq hS⟩,fL (K:=K) (a:=a) (xs:=xs) (fun i σ H'=>∃ v ns,σ=[some (.ref a),some (.ref hl),v]/\Same H H'/\H' hl=some (.lst (ns.map V.int))/\ns.length<=63 * i/\∀ k,k∈ns↔∃ m∈ms.take i,k∈m.map (·.1))
  ⟨none,[],rfl,aH hhl,az,Nat.zero_le _,fun k=>by simp⟩ (fun i σ H' _ ⟨_,_,_,sm,_⟩=>sm.seq hS) ?_ ?_⟩
 ·rintro i x σ H' hx ⟨v,ns,rfl,sm,hH,hlen,hm⟩
  obtain ⟨m,hmi,d,rfl,hd⟩:=Dcs.get dc hx
  have hi:=(List.getElem?_eq_some_iff.mp hmi).1
  have cm:=ck m (List.mem_of_getElem? hmi)
  have lm:=cm.len
  refine ⟨_,rfl,.inl ⟨rfl,_,SqL.of hH⟩,_,rfl,d,m,rfl,cX sm hd,by omega,fun l hl2=>?_⟩
  have nl:hl≠l:=aD hH hl2
  refine ⟨hl,l,_,_,rfl,rfl,by rw [aF nl]; exact hH,az,?_,some (.ref d),ns ++ m.map (·.1),rfl,fun b o e=>?_,?_,?_,fun k=>?_⟩
  ·rw [List.length_map,List.length_map,List.length_map]
   exact Nat.le_of_lt (aJ (by omega))
  ·rw [aF (aD e hhl),aF (aD (sm b o e) hl2)]
   exact sm b o e
  ·rw [az,List.map_append]
  ·rw [List.length_append,List.length_map]
   omega
  ·rw [bc hmi,List.mem_append,hm k]
   constructor
   ·rintro (⟨m',q1,q2⟩ | q)
    ·exact ⟨m',List.mem_append_left _ q1,q2⟩
    ·exact ⟨m,List.mem_append_right _ (by simp),q⟩
   ·rintro ⟨m',q1,q2⟩
    rcases List.mem_append.mp q1 with z | z
    ·exact .inl ⟨m',z,q2⟩
    ·rw [List.mem_singleton.mp z] at q2
     exact .inr q2
 rintro σ H' ⟨v,ns,rfl,sm,hH,hlen,hm⟩
 rw [lx,List.take_length] at hm
 refine ⟨_,rfl,hl,ns,rfl,SqL.of hH,by omega,fun q ks hq nd mem=>?_⟩
 have rg:∀ k∈ks,0<=k/\k < 63:=fun k hk=>by
  obtain ⟨m,h1,h2⟩:=(hm k).mp ((mem k).mp hk)
  exact (ck m h1).keys k h2
 refine ⟨q,ks,rfl,az,nd,rm nd rg,fun l S hl3 pm so=>?_⟩
 refine k _ l S (sm.trans ((aH hq).trans (aH hl3))) az (pm.nodup_iff.mpr nd) fun j=>?_
 rw [pm.mem_iff,mem j,hm j]
def rQ (K:PySem.W.Frag):Sp:=fun vs H Q _=>∃ (d e:Addr) (m n:List (Int×Int)),vs=[.ref d,.ref e]/\Rd H d (.dK (dI m))/\Rd H e (.dK (dI n))/\Ck m/\Ck n/\∀ H',Same H H'->Q (.bl (cov m n)) H'
theorem Ks:FnScope ["one","other"] ["one","other"] (au oK):=⟨rfl,rfl,rfl,by decide +kernel,rfl,by decide +kernel,by decide +kernel⟩
theorem K1 {f cg iH:Addr} {fd bM gQ:FuncData} (F:Fun K "covers" "covers" oK f fd)
  (cU:FnOk P w K mg base CX0 1 cg bM ["counts","hand"] (gJ K)) (cV:Cal K mg "count_of" cg bM ["counts","hand"])
  (oG:FnOk P w K mg base CX0 1 iH gQ ["some"] (jE K)) (oE:Cal K mg "hands_among" iH gQ ["some"]) (WM:mg "all"=none):FnOk P w K mg base CX0 2 f fd ["one","other"] (rQ K):=by
 refine F.ok Ks (fun vs H Q E h=>?_) (fun cdv A outer s H vs Q E hr h=>?_)
 ·obtain ⟨d,e,m,n,rfl,_⟩:=h
  rfl
 obtain ⟨d,e,m,n,rfl,h⟩:=h
 have hu64:=hr.units
 have hu0:=hr.units0
 have hu:=bD hr
 refine ⟨_,(aC (aU (bw (Ov rfl) (by rfl) WM PyProof.Rows.boot_all (aa (cZ ["one","other","hand"] [some 0,some 1,none] rfl rfl (by kernel_rfl) (bB (K:=K) rfl (bz oG oE hr (aa (dR (aa (pv 0) (aa (pv 1) ak))) ak))) (fun _ _ _ _ _ nd=>aX (i:=2) nd rfl (Or.inl rfl)) (fun _ _ _ _ _=>kh) (fun _ _ _ _ _=>(pC J3 (bz cU cV hr (aa (pv 0) (aa (pv 2) ak))) (bz cU cV hr (aa (pv 1) (aa (pv 2) ak))) (bx _)))) ak)))),?_⟩
 obtain ⟨hd,he,cm,cn,k⟩:=h
 refine ⟨_,rfl,_,rfl,by show 2<=sizeLine; decide,fun l0 hl0=>?_⟩
 have s0:=aH (o:=.lst [V.ref d,.ref e]) hl0
 refine ⟨l0,_,[m,n],rfl,SqL.of az,.cons ⟨d,rfl,cX s0 hd⟩ (.cons ⟨e,rfl,cX s0 he⟩ .nil),fun x hx=>?_,by show 2<=10; decide,fun H1 l S sm hl nd mem=>?_⟩
 ·rcases List.mem_cons.mp hx with z | z
  ·rw [z]; exact cm
  ·rw [List.mem_singleton.mp z]; exact cn
 have s1:=s0.trans sm
 have rg:∀ j∈S,0<=j/\j < 63:=fun j hj=>by
  rcases two.mp ((mem j).mp hj) with z | z
  ·exact cm.keys j z
  ·exact cn.keys j z
 have lS:=rm nd rg
 refine ⟨l,rfl,⟨_,SqL.of hl⟩,fun D hD=>?_⟩
 refine bQ (K:=K) (a:=l) (xs:=S.map V.int) (fun i σ H'=>∃ v,σ=[some (.ref d),some (.ref e),v]/\Same H1 H'/\H' D=some (.lst (((S.take i).map fun j=>decide (ct n j<=ct m j)).map V.bl))) ⟨none,rfl,aH hD,az⟩ ?_ ?_ ?_
 ·rintro i σ H' _ ⟨_,_,q,_⟩
  exact SqL.of (q _ _ hl)
 ·rintro i x σ H' hx ⟨v,rfl,q,hDx⟩
  obtain ⟨j,hj,rfl⟩:=jJ hx
  have hil:=(List.getElem?_eq_some_iff.mp hj).1
  have s2:=s1.trans q
  refine Qk ⟨_,rfl,_,rfl,d,m,j,rfl,cX s2 hd,_,rfl,_,rfl,e,n,j,rfl,cX s2 he,_,_,rfl,rfl,_,hDx,?_,some (.int j),rfl,fun b o z=>?_,?_⟩
  ·rw [List.length_map,List.length_map,List.length_take]
   exact aJ (by omega)
  ·rw [aF (aD z hD)]
   exact q b o z
  ·rw [az,bc hj,List.map_append,List.map_append]
   rfl
 rintro σ H' ⟨v,rfl,q,hDx⟩
 rw [show S.take (S.map V.int).length=S by rw [List.length_map,List.take_length]] at hDx
 refine ⟨D,_,rfl,SqL.of hDx,?_⟩
 have ev:((S.map fun j=>decide (ct n j<=ct m j)).all fun b=>b)=cov m n:=by
  rw [Bool.eq_iff_iff,J7 cm cn,List.all_eq_true]
  constructor
  ·intro h j
   by_cases hj:j∈S
   ·exact of_decide_eq_true (h _ (List.mem_map_of_mem (f:=fun j=>decide (ct n j<=ct m j)) hj))
   ·rw [n6 (fun z=>hj ((mem j).mpr (two.mpr (.inr z))))]
    exact cm.ct j
  ·intro h b hb
   obtain ⟨j,_,rfl⟩:=List.mem_map.mp hb
   exact decide_eq_true (h j)
 rw [ev]
 exact k _ (s1.trans q)
def km (K:PySem.W.Frag):Sp:=fun vs H Q _=>∃ (a:Addr) (xs:List V) (ps:List (Int×Int)),vs=[.ref a]/\(SqL K H a xs∨SqT K H a xs)/\Prs H xs ps/\ps.length<=1000/\(ps.map (·.1)).Nodup /\
 ∀ (H':Hp) (d:Addr),Same H H'->H d=none->H' d=some (.dK (dI (iB ps)))->Q (.ref d) H'
theorem DW:FnScope ["pairs"] ["pairs"] (au jW):=⟨rfl,rfl,rfl,by decide +kernel,rfl,by decide +kernel,by decide +kernel⟩
theorem Gz {f :Addr} {fd :FuncData} (F:Fun K "unpacked" "unpacked" jW f fd) (Hn:mg "dict"=none):FnOk P w K mg base CX0 1 f fd ["pairs"] (km K):=by
 refine F.ok DW (fun vs H Q E h=>?_) (fun cdv A outer s H vs Q E hr h=>?_)
 ·obtain ⟨a,xs,ps,rfl,_⟩:=h
  rfl
 obtain ⟨a,xs,ps,rfl,h⟩:=h
 have hu64:=hr.units
 have hu0:=hr.units0
 have hu:=bD hr
 refine ⟨_,(aC (aU (bT (G6 rfl) (by rfl) Hn PyProof.Rows.boot_dict (aa (cZ ["hand","count"] [none,none] rfl rfl (by kernel_rfl) (RD (K:=K) rfl (pv 0)) (fun _ _ _ _ _ nd=>xH (K:=K) (n:=2) rfl rfl (jt (aX (i:=0) nd rfl (Or.inl rfl)) (jt (aX (i:=1) nd rfl (Or.inl rfl)) xJ))) (fun _ _ _ _ _=>(jn (bh uK (pv 1) aq (bx _)))) (fun _ _ _ _ _=>(fu (aa (pv 0) (aa (pv 1) ak))))) ak)))),?_⟩
 obtain ⟨hS,hp,hlen,nd,k⟩:=h
 have lx:=hp.len
 -- one turn
 have turn:∀ (D:Addr) (_:H D=none) (i:Nat) (x:V) (σ:St) (H':Hp),xs[i]?=some x->(∃ v v2 ys,σ=[v,v2]/\Same H H'/\H' D=some (.lst ys)/\ys.length<=i/\Prs H' ys (iB (ps.take i))) ->
   nD (QV K 2 (Ji (yj 0) (Ji (yj 1) V7))) (N7 (tOp (rI0 fun i j=>.bl (decide (j < i))) (Lg 1) (tC (.int 0)))) (Ur (yE (Lg 0) (yE (Lg 1) Ig))) D
    (fun σ H'=>∃ v v2 ys,σ=[v,v2]/\Same H H'/\H' D=some (.lst ys)/\ys.length<=i + 1/\Prs H' ys (iB (ps.take (i + 1)))) x σ H':=by
  rintro D hD i x σ H' hx ⟨v,v2,ys,rfl,sm,hDx,ly,pr⟩
  obtain ⟨p,hpi,b,rfl,hb⟩:=hp.get hx
  have hil:=(List.getElem?_eq_some_iff.mp hpi).1
  refine ⟨b,_,rfl,SqT.of (sm _ _ hb),rfl,_,_,rfl,_,_,rfl,rfl,_,rfl,_,_,rfl,rfl,_,rfl,fJ (fun h=>?_) fun h=>?_⟩
  ·have h':0 < p.2:=of_decide_eq_true h
   refine ⟨_,rfl,_,rfl,by show 2<=sizeLine; decide,fun q hq=>?_⟩
   have nDq:D≠q:=aD hDx hq
   refine ⟨ys,by rw [aF nDq]; exact hDx,aJ (by omega),some (.int p.1),some (.int p.2),_,rfl,fun b o e=>?_,az,by rw [List.length_append]; exact Nat.succ_le_succ ly,?_⟩
   ·rw [aF (aD e hD),aF (aD (sm b o e) hq)]
    exact sm b o e
   ·rw [bc hpi,QQ h']
    refine Prs.snoc (pr.mono fun a ys e=>?_) ⟨q,rfl,?_⟩
    ·rw [aF (jM e hDx (by intro z; cases z)),aF (aD e hq)]
     exact e
    ·rw [aF (Ne.symm nDq),az]
  ·have h':¬ 0 < p.2:=fun z=>h (decide_eq_true z)
   refine ⟨some (.int p.1),some (.int p.2),ys,rfl,sm,hDx,Nat.le_succ_of_le ly,?_⟩
   rw [bc hpi,Wh h']
   exact pr
 have fin:∀ (D:Addr) (_:H D=none) (σ:St) (H':Hp),(∃ v v2 ys,σ=[v,v2]/\Same H H'/\H' D=some (.lst ys)/\ys.length<=xs.length/\Prs H' ys (iB (ps.take xs.length))) ->
   ∃ (a:Addr) (ys:List V) (qs:List (Int×Int)),[V.ref D]=[.ref a]/\H' a=some (.lst ys)/\Prs H' ys qs/\(qs.map (·.1)).Nodup/\qs.length<=1000/\∀ p,H' p=none->Q (.ref p) (upd H' p (.dK (dI qs))):=by
  rintro D hD σ H' ⟨v,v2,ys,rfl,sm,hDx,ly,pr⟩
  rw [lx,List.take_length] at pr
  refine ⟨D,ys,iB ps,rfl,hDx,pr,vX nd,Nat.le_trans (QM ps) hlen,fun p hp'=>?_⟩
  exact k _ p (sm.trans (aH hp')) (sm.free hp') az
 rcases hS with hS | hS
 ·refine ⟨_,rfl,a,rfl,.inl ⟨⟨_,hS⟩,fun D hD=>?_⟩⟩
  exact bQ (K:=K) (a:=a) (xs:=xs) (fun i σ H'=>∃ v v2 ys,σ=[v,v2]/\Same H H'/\H' D=some (.lst ys)/\ys.length<=i/\Prs H' ys (iB (ps.take i))) ⟨none,none,[],rfl,aH hD,az,Nat.le_refl _,.nil⟩
   (fun i σ H' _ ⟨_,_,_,_,sm,_⟩=>sm.seq hS) (turn D hD) (fin D hD)
 ·refine ⟨_,rfl,a,rfl,.inr ⟨⟨_,hS⟩,fun D hD=>?_⟩⟩
  exact Mg (K:=K) (a:=a) (xs:=xs) (fun i σ H'=>∃ v v2 ys,σ=[v,v2]/\Same H H'/\H' D=some (.lst ys)/\ys.length<=i/\Prs H' ys (iB (ps.take i))) ⟨none,none,[],rfl,aH hD,az,Nat.le_refl _,.nil⟩
   (fun i σ H' _ ⟨_,_,_,_,sm,_⟩=>Ey sm hS) (turn D hD) (fin D hD)
def rW (K:PySem.W.Frag):Sp:=fun vs H Q _=>∃ (d e:Addr) (m n:List (Int×Int)),vs=[.ref d,.ref e]/\Rd H d (.dK (dI m))/\Rd H e (.dK (dI n))/\Ck m/\Ck n /\
 ∀ (H':Hp) (p:Addr) (j:List (Int×Int)),Same H H'->H p=none->H' p=some (.dK (dI j))->Td j->(∀ k,Wi [m,n] k (ct j k))->Q (.ref p) H'
theorem Kp:FnScope ["one","other"] ["one","other"] (au oY):=⟨rfl,rfl,rfl,by decide +kernel,rfl,by decide +kernel,by decide +kernel⟩
theorem K7 {f cg iH gP:Addr} {fd bM gQ eZ:FuncData} (F:Fun K "joined" "joined" oY f fd)
  (cU:FnOk P w K mg base CX0 1 cg bM ["counts","hand"] (gJ K)) (cV:Cal K mg "count_of" cg bM ["counts","hand"])
  (oG:FnOk P w K mg base CX0 1 iH gQ ["some"] (jE K)) (oE:Cal K mg "hands_among" iH gQ ["some"])
  (mL:FnOk P w K mg base CX0 1 gP eZ ["pairs"] (km K)) (mR:Cal K mg "unpacked" gP eZ ["pairs"]) (Fj:mg "max"=none):FnOk P w K mg base CX0 2 f fd ["one","other"] (rW K):=by
 refine F.ok Kp (fun vs H Q E h=>?_) (fun cdv A outer s H vs Q E hr h=>?_)
 ·obtain ⟨d,e,m,n,rfl,_⟩:=h
  rfl
 obtain ⟨d,e,m,n,rfl,h⟩:=h
 have hu64:=hr.units
 have hu0:=hr.units0
 have hu:=bD hr
 refine ⟨_,(aC (aU (bz mL mR hr (aa (cZ ["one","other","hand"] [some 0,some 1,none] rfl rfl (by kernel_rfl) (bB (K:=K) rfl (bz oG oE hr (aa (dR (aa (pv 0) (aa (pv 1) ak))) ak))) (fun _ _ _ _ _ nd=>aX (i:=2) nd rfl (Or.inl rfl)) (fun _ _ _ _ _=>kh) (fun _ _ _ _ _=>(fu (aa (pv 2) (aa (bw (Ad rfl) (by rfl) Fj PyProof.Rows.boot_max (aa (bz cU cV hr (aa (pv 0) (aa (pv 2) ak))) (aa (bz cU cV hr (aa (pv 1) (aa (pv 2) ak))) ak))) ak))))) ak)))),?_⟩
 obtain ⟨hd,he,cm,cn,k⟩:=h
 refine ⟨_,rfl,_,rfl,by show 2<=sizeLine; decide,fun l0 hl0=>?_⟩
 have s0:=aH (o:=.lst [V.ref d,.ref e]) hl0
 refine ⟨l0,_,[m,n],rfl,SqL.of az,.cons ⟨d,rfl,cX s0 hd⟩ (.cons ⟨e,rfl,cX s0 he⟩ .nil),fun x hx=>?_,by show 2<=10; decide,fun H1 l S sm hl nd mem=>?_⟩
 ·rcases List.mem_cons.mp hx with z | z
  ·rw [z]; exact cm
  ·rw [List.mem_singleton.mp z]; exact cn
 have s1:=s0.trans sm
 have rg:∀ j∈S,0<=j/\j < 63:=fun j hj=>by
  rcases two.mp ((mem j).mp hj) with z | z
  ·exact cm.keys j z
  ·exact cn.keys j z
 have lS:=rm nd rg
 refine ⟨l,rfl,⟨_,SqL.of hl⟩,fun D hD=>?_⟩
 refine bQ (K:=K) (a:=l) (xs:=S.map V.int) (fun i σ H'=>∃ v ys,σ=[some (.ref d),some (.ref e),v]/\Same H1 H'/\H' D=some (.lst ys)/\ys.length<=i/\Prs H' ys (prs (S.take i) fun j=>if ct n j > ct m j then ct n j else ct m j)) ⟨none,[],rfl,aH hD,az,Nat.le_refl _,.nil⟩ ?_ ?_ ?_
 ·rintro i σ H' _ ⟨_,_,_,q,_⟩
  exact SqL.of (q _ _ hl)
 ·rintro i x σ H' hx ⟨v,ys,rfl,q,hDx,ly,pr⟩
  obtain ⟨j,hj,rfl⟩:=jJ hx
  have hil:=(List.getElem?_eq_some_iff.mp hj).1
  have s2:=s1.trans q
  refine Qk ⟨_,rfl,_,rfl,_,rfl,d,m,j,rfl,cX s2 hd,_,rfl,_,rfl,e,n,j,rfl,cX s2 he,_,_,rfl,by show 2<=sizeLine; decide,fun p hp=>?_⟩
  have nDp:D≠p:=aD hDx hp
  refine ⟨ys,by rw [aF nDp]; exact hDx,aJ (by omega),some (.int j),_,rfl,fun b o z=>?_,az,by rw [List.length_append]; exact Nat.succ_le_succ ly,?_⟩
  ·rw [aF (aD z hD),aF (aD (q b o z) hp)]
   exact q b o z
  ·rw [bc hj]
   show Prs _ _ (List.map _ (_ ++ [j]))
   rw [List.map_append]
   refine Prs.snoc (pr.mono fun a ys z=>?_) ⟨p,rfl,?_⟩
   ·rw [aF (jM z hDx (by intro z; cases z)),aF (aD z hp)]
    exact z
   ·rw [aF (Ne.symm nDp),az]
 rintro σ H' ⟨v,ys,rfl,q,hDx,ly,pr⟩
 rw [show S.take (S.map V.int).length=S by rw [List.length_map,List.take_length]] at pr
 refine ⟨D,ys,_,rfl,.inl (SqL.of hDx),pr,?_,by rw [qW]; exact nd,fun H2 p sm2 hp0 hp=>?_⟩
 ·show (List.map _ S).length<=1000
  rw [List.length_map]
  omega
 refine k _ p _ ((s1.trans q).trans sm2) ((s1.trans q).free hp0) hp (prs_td nd rg) fun j=>?_
 have mx:Wi [m,n] j (if ct n j > ct m j then ct n j else ct m j):=by
  by_cases z:ct n j > ct m j
  ·rw [if_pos z]
   refine ⟨⟨n,by simp,rfl⟩,fun x hx=>?_⟩
   rcases List.mem_cons.mp hx with y | y
   ·rw [y]; omega
   ·rw [List.mem_singleton.mp y]; omega
  ·rw [if_neg z]
   refine ⟨⟨m,by simp,rfl⟩,fun x hx=>?_⟩
   rcases List.mem_cons.mp hx with y | y
   ·rw [y]; omega
   ·rw [List.mem_singleton.mp y]; omega
 by_cases hj:j∈S
 ·rw [Vl nd j hj (by have:=cm.ct j; have:=cn.ct j; split <;> omega)]
  exact mx
 ·have z1:ct m j=0:=n6 fun z=>hj ((mem j).mpr (two.mpr (.inl z)))
  have z2:ct n j=0:=n6 fun z=>hj ((mem j).mpr (two.mpr (.inr z)))
  rw [R0 hj]
  rw [z1,z2] at mx
  exact mx
def jK (K:PySem.W.Frag):Sp:=fun vs H Q _=>∃ (d a:Addr),vs=[.ref d,.ref a]/\∃ m n h c,Rd H d (.dK (dI m))/\SqT K H a [.int n,.int h,.int c]/\Q (.bl (decide (c<=ct m h))) H
theorem za:FnScope ["counts","name"] ["counts","name"] (au fQ):=⟨rfl,rfl,rfl,by decide +kernel,rfl,by decide +kernel,by decide +kernel⟩
theorem zE {f cg:Addr} {fd bM:FuncData} (F:Fun K "covers_name" "covers_name" fQ f fd)
  (cU:FnOk P w K mg base CX0 1 cg bM ["counts","hand"] (gJ K)) (cV:Cal K mg "count_of" cg bM ["counts","hand"]):FnOk P w K mg base CX0 2 f fd ["counts","name"] (jK K):=by
 refine F.ok za (fun vs H Q E h=>?_) (fun cdv A outer s H vs Q E hr h=>?_)
 ·obtain ⟨d,a,rfl,_⟩:=h
  rfl
 obtain ⟨d,a,rfl,h⟩:=h
 have hu64:=hr.units
 have hu0:=hr.units0
 have hu:=bD hr
 refine ⟨_,(aC (aU (pC J3 (bz cU cV hr (aa (pv 0) (aa (aW (aY (K:=K) rfl) (pv 1) aq (fun _ _=>rfl)) ak))) (aW (aY (K:=K) rfl) (pv 1) aq (fun _ _=>rfl)) (bx _)))),?_⟩
 obtain ⟨m,n,h,c,hd,ha,k⟩:=h
 clean_wf
 refine ⟨d,m,h,rfl,hd,?_⟩
 clean_wf
 exact k
def Ed (K:PySem.W.Frag) (v:V):Prop:=∃ a,v=.ref a/\∀ H,SqT K H a [.str "own",.str "heard",.str "one"]
def ik (K:PySem.W.Frag):Sp:=fun vs H Q _=>∃ (p:Addr) (n c k w cs:V),vs=[.ref p,n,c,k,w,cs]/\∃ C dx,TCall K C/\H p=some (.ins C dx [])/\∀ H',But p H H'->H' p=some (.ins C dx (cfl n c k w cs))->Q .non H'
def iG (K:PySem.W.Frag):Sp:=fun vs H Q _=>∃ (p:Addr) (n c k w cs:V),vs=[.ref p,n,c,k,w,cs]/\∃ C dx,TCall K C/\H p=some (.ins C dx [])/\∀ H' t,(∀ b o,H b=some o->b≠p->H' b=some o)->H' t=some (.tup [])->H' p=some (.ins C dx (cfl n c k w (.ref t)))->Q .non H'
theorem wj:FnScope ["self","number","caller","count","word","causes"] ["self","number","caller","count","word","causes"] (au dh):=⟨rfl,rfl,rfl,by decide +kernel,rfl,by decide +kernel,by decide +kernel⟩
theorem vI {f :Addr} {fd :FuncData} (F:Fun K "__init__" "Call.__init__" dh f fd):FnOk P w K mg base CX0 1 f fd ["self","number","caller","count","word","causes"] (ik K):=by
 refine F.ok wj (fun vs H Q E h=>?_) (fun cdv A outer s H vs Q E hr h=>?_)
 ·obtain ⟨p,n,c,k,w,cs,rfl,_⟩:=h
  rfl
 obtain ⟨p,n,c,k,w,cs,rfl,h⟩:=h
 have hu64:=hr.units
 have hu0:=hr.units0
 have hu:=bD hr
 refine ⟨_,(aj (uD (K:=K) rfl (pv 0) (pv 1) rfl)
   (aj (uD (K:=K) rfl (pv 0) (pv 2) rfl)
   (aj (uD (K:=K) rfl (pv 0) (pv 3) rfl)
   (aj (uD (K:=K) rfl (pv 0) (pv 4) rfl)
   (aC (uD (K:=K) rfl (pv 0) (pv 5) rfl)))))),?_⟩
 obtain ⟨C,dx,⟨cl,n1,n2,n3,n4,n5⟩,hp,q⟩:=h
 clean_wf
 intro H1 b1 g1
 clean_wf
 intro H2 b2 g2
 clean_wf
 intro H3 b3 g3
 clean_wf
 intro H4 b4 g4
 clean_wf
 intro H5 b5 g5
 rw [Ss] at g5
 exact q _ (fun b h=>(b5 b h).trans ((b4 b h).trans ((b3 b h).trans ((b2 b h).trans (b1 b h))))) g5
theorem sI:FnScope ["self","number","caller","count","word","causes"] ["self","number","caller","count","word","causes"] (au cD):=⟨rfl,rfl,rfl,by decide +kernel,rfl,by decide +kernel,by decide +kernel⟩
theorem sJ {f dj fG:Addr} {fd eO:FuncData} (F:Fun K "__init__" "OwnCall.__init__" cD f fd)
  (iQ:FnOk P w K mg base CX0 1 dj eO ["self","number","caller","count","word","causes"] (ik K)) (iK:Binds K eO ["self","number","caller","count","word","causes"] []) (PJ:TCall K fG) (G7:mg "Call"=some (.ref fG)) (jN:ClsFn K fG "__init__" dj):FnOk P w K mg base CX0 2 f fd ["self","number","caller","count","word","causes"] (iG K):=by
 refine F.ok sI (fun vs H Q E h=>?_) (fun cdv A outer s H vs Q E hr h=>?_)
 ·obtain ⟨p,n,c,k,w,cs,rfl,_⟩:=h
  rfl
 obtain ⟨p,n,c,k,w,cs,rfl,h⟩:=h
 have hu64:=hr.units
 have hu0:=hr.units0
 have hu:=bD hr
 refine ⟨_,(aC (jy (O2 rfl G7 jN iQ iK hr (aa (pv 0) (aa (pv 1) (aa (pv 2) (aa (pv 3) (aa (pv 4) (aa (fu ak) ak))))))))),?_⟩
 obtain ⟨C,dx,T,hp,q⟩:=h
 clean_wf
 intro t H1 ht s1 g1
 clean_wf
 refine ⟨p,n,c,k,w,_,rfl,C,dx,T,s1 _ _ hp,fun H2 b2 g2=>?_⟩
 clean_wf
 exact q _ t (fun b o e hb=>b2.at hb (s1 _ _ e)) (b2.of (s1 _ _ hp) g1 (by intro z; cases z)) g2
def tE (K:PySem.W.Frag):Sp:=fun vs H Q _=>∃ (w:Int),vs=[.int w]/\Q (.bl (decide ((if w < 0 then -w else w) < 10 ^ (60:Int).toNat))) H
def KdC (mg:Str->Option Value) (kd:Str) (C:Addr):Prop:=(kd="own"/\mg "OwnCall"=some (.ref C))∨(kd="heard"/\mg "HeardCall"=some (.ref C))∨(kd="one"/\mg "OneCall"=some (.ref C))
def o8 (K:PySem.W.Frag) (mg:Str->Option Value):Sp:=fun vs H Q _=>∃ (n c k:Int) (kd:Str) (w:Int) (t:Addr),vs=[.int n,.int c,.int k,.str kd,.int w,.ref t]/\∃ xs,(kd="own"∨kd="heard"∨kd="one")/\(if w < 0 then -w else w) < 10 ^ (60:Int).toNat/\H t=some (.tup xs) /\
 ∀ H' p C dx t',Same H H'->H p=none->KdC mg kd C->TCall K C->H' p=some (.ins C dx (cfl (.int n) (.int c) (.int k) (.int w) (.ref t')))->H' t'=some (.tup (if kd="own" then [] else xs))->Q (.ref p) H'
def rD (K:PySem.W.Frag):Sp:=fun vs H Q _=>∃ (w:Int),vs=[.int w]/\Q (.bl true) H
theorem Fi:FnScope ["value"] ["value"] (au jX):=⟨rfl,rfl,rfl,by decide +kernel,rfl,by decide +kernel,by decide +kernel⟩
theorem Fp {f :Addr} {fd :FuncData} (F:Fun K "is_whole" "is_whole" jX f fd) (T6:mg "bool"=none) (Xb:mg "int"=none) (fB:mg "isinstance"=none):FnOk P w K mg base CX0 1 f fd ["value"] (rD K):=by
 refine F.ok Fi (fun vs H Q E h=>?_) (fun cdv A outer s H vs Q E hr h=>?_)
 ·obtain ⟨w,rfl,_⟩:=h
  rfl
 obtain ⟨w,rfl,h⟩:=h
 have hu64:=hr.units
 have hu0:=hr.units0
 have hu:=bD hr
 refine ⟨_,(aC (aU (BP (bw (oO (K:=K) rfl) (by rfl) fB PyProof.Rows.boot_isinstance (aa (pv 0) (aa (uH Xb PyProof.Rows.boot_int) ak))) (xR (Ox (bw (oO (K:=K) rfl) (by rfl) fB PyProof.Rows.boot_isinstance (aa (pv 0) (aa (uH T6 PyProof.Rows.boot_bool) ak)))))))),?_⟩
 clean_wf
 refine ⟨_,_,_,true,rfl,.int _,(by kernel_rfl),?_⟩
 clean_wf
 refine ⟨_,_,_,false,rfl,.int _,(by kernel_rfl),?_⟩
 clean_wf
 exact h
theorem GP:FnScope ["word"] ["word"] (au mH):=⟨rfl,rfl,rfl,by decide +kernel,rfl,by decide +kernel,by decide +kernel⟩
theorem Hq {f zF:Addr} {fd wM:FuncData} (F:Fun K "is_word" "is_word" mH f fd)
  (Ik:FnOk P w K mg base CX0 1 zF wM ["value"] (rD K)) (HB:Cal K mg "is_whole" zF wM ["value"]) (Xi:mg "abs"=none):FnOk P w K mg base CX0 2 f fd ["word"] (tE K):=by
 refine F.ok GP (fun vs H Q E h=>?_) (fun cdv A outer s H vs Q E hr h=>?_)
 ·obtain ⟨w,rfl,_⟩:=h
  rfl
 obtain ⟨w,rfl,h⟩:=h
 have hu64:=hr.units
 have hu0:=hr.units0
 have hu:=bD hr
 refine ⟨_,(aC (aU (BP (bz Ik HB hr (aa (pv 0) ak)) (xR (pC zj (bw NQ (by rfl) Xi PyProof.Rows.boot_abs (aa (pv 0) ak)) (aR vY aq aq) (bx _)))))),?_⟩
 clean_wf
 refine ⟨w,rfl,?_⟩
 clean_wf
 refine ⟨_,rfl,?_⟩
 clean_wf
 exact h
theorem CZ:FnScope ["number","caller","count","kind","word","causes"] ["number","caller","count","kind","word","causes"] (au jf):=⟨rfl,rfl,rfl,by decide +kernel,rfl,by decide +kernel,by decide +kernel⟩
theorem Cw {f dj mQ Av ao aB aA:Addr} {fd eO lQ zf:FuncData} {vc_KINDS:V} {uc_KINDS:Value} (F:Fun K "make_call" "make_call" jf f fd)
  (iQ:FnOk P w K mg base CX0 2 dj eO ["self","number","caller","count","word","causes"] (ik K)) (iK:Binds K eO ["self","number","caller","count","word","causes"] [])
  (uf:FnOk P w K mg base CX0 2 mQ lQ ["self","number","caller","count","word","causes"] (iG K)) (uq:Binds K lQ ["self","number","caller","count","word","causes"] [])
  (Ly:FnOk P w K mg base CX0 3 Av zf ["word"] (tE K)) (K4:Cal K mg "is_word" Av zf ["word"]) (aG:TCall K ao) (aQ:TCall K aB) (aP:TCall K aA) (aL:mg "HeardCall"=some (.ref ao)) (aV:mg "OneCall"=some (.ref aB)) (aZ:mg "OwnCall"=some (.ref aA)) (M_HeardCall:Mk K ao dj) (M_OneCall:Mk K aB dj) (M_OwnCall:Mk K aA mQ) (gm_KINDS:mg "KINDS"=some uc_KINDS) (gr_KINDS:RelV vc_KINDS uc_KINDS) (gv_KINDS:Ed K vc_KINDS):FnOk P w K mg base CX0 4 f fd ["number","caller","count","kind","word","causes"] (o8 K mg):=by
 refine F.ok CZ (fun vs H Q E h=>?_) (fun cdv A outer s H vs Q E hr h=>?_)
 ·obtain ⟨n,c,k,kd,w,t,rfl,_⟩:=h
  rfl
 obtain ⟨n,c,k,kd,w,t,rfl,h⟩:=h
 have hu64:=hr.units
 have hu0:=hr.units0
 have hu:=bD hr
 refine ⟨_,(aj (dD (bh (Jo (K:=K) rfl hu64) (pv 3) (JT rfl gm_KINDS gr_KINDS) (by rfl)) (aC Fq) bJ)
   (aj (dD (tZ (fH K rfl (bz Ly K4 hr (aa (pv 4) ak)))) (aC Fq) bJ)
   (aj (dD (bh sO (pv 3) j7 (bx _)) (aC (aU (Di M_OwnCall uf hr rfl aZ uq .nil yz (aa (pv 0) (aa (pv 1) (aa (pv 2) (aa (pv 4) (aa (pv 5) ak)))))))) bJ)
   (aj (dD (bh sO (pv 3) j7 (bx _)) (aC (aU (Di M_HeardCall iQ hr rfl aL iK .nil yz (aa (pv 0) (aa (pv 1) (aa (pv 2) (aa (pv 4) (aa (pv 5) ak)))))))) bJ)
   (aC (aU (Di M_OneCall iQ hr rfl aV iK .nil yz (aa (pv 0) (aa (pv 1) (aa (pv 2) (aa (pv 4) (aa (pv 5) ak)))))))))))),?_⟩
 obtain ⟨xs,hkd,hw,ht,q⟩:=h
 obtain ⟨aK,rfl,hK⟩:=gv_KINDS
 have hKH:=hK H
 clean_wf
 refine Su hkd hKH ?_
 clean_wf
 refine ⟨w,rfl,?_⟩
 clean_wf
 rw [decide_eq_true hw]
 clean_wf
 rcases hkd with rfl | rfl | rfl
 ·rw [WD]
  clean_wf
  intro p dx H1 hp s1 g1
  refine ⟨p,_,_,_,_,_,rfl,_,dx,aP,g1,fun H2 t' k2 g2 g3=>⟨rfl,?_⟩⟩
  refine q _ p _ dx t' (fun b o e=>k2 _ _ (s1 _ _ e) (aD e hp)) hp (.inl ⟨rfl,aZ⟩) aP g3 ?_
  rw [if_pos rfl]
  exact g2
 ·rw [Wu]
  clean_wf
  rw [WK]
  clean_wf
  intro p dx H1 hp s1 g1
  refine ⟨p,_,_,_,_,_,rfl,_,dx,aG,g1,fun H2 b2 g2=>⟨rfl,?_⟩⟩
  have s2:Same H H2:=fun b o e=>b2.at (aD e hp) (s1 _ _ e)
  refine q _ p _ dx t s2 hp (.inr (.inl ⟨rfl,aL⟩)) aG g2 ?_
  rw [if_neg (by decide +kernel)]
  exact s2 _ _ ht
 ·rw [WR]
  clean_wf
  rw [X7]
  clean_wf
  intro p dx H1 hp s1 g1
  refine ⟨p,_,_,_,_,_,rfl,_,dx,aQ,g1,fun H2 b2 g2=>⟨rfl,?_⟩⟩
  have s2:Same H H2:=fun b o e=>b2.at (aD e hp) (s1 _ _ e)
  refine q _ p _ dx t s2 hp (.inr (.inr ⟨rfl,aV⟩)) aQ g2 ?_
  rw [if_neg (by decide +kernel)]
  exact s2 _ _ ht
def fM (K:PySem.W.Frag):Sp:=fun vs H Q _=>∃ (p d:Addr),vs=[.ref p,.ref d]/\∃ C dx m n c k w cs,TCall K C/\H p=some (.ins C dx (cfl n (.int c) (.int k) w cs))/\Rd H d (.dK (dI m))/\Q (.bl (decide (ct m c=k - 1))) H
def lZ (K:PySem.W.Frag) (mg:Str->Option Value):Sp:=fun vs H Q _=>∃ (p d:Addr),vs=[.ref p,.ref d]/\∃ C dx m n c k w cs,mg "OwnCall"=some (.ref C)/\H p=some (.ins C dx (cfl n (.int c) (.int k) w cs))/\Rd H d (.dK (dI m))/\Q (.bl (decide (ct m c=k - 1))) H
def f9 (K:PySem.W.Frag) (mg:Str->Option Value):Sp:=fun vs H Q _=>∃ (p d:Addr),vs=[.ref p,.ref d]/\∃ C dx m n c k w t xs ps,(mg "HeardCall"=some (.ref C)∨mg "OneCall"=some (.ref C))/\H p=some (.ins C dx (cfl n (.int c) (.int k) w (.ref t)))/\Rd H d (.dK (dI m))/\H t=some (.tup xs)/\Prs H xs ps/\Ck m/\Ck ps/\∀ H',Same H H'->Q (.bl (decide (ct m c=k - 1) && cov m (iB ps))) H'
theorem OD {ps:List (Int×Int)} (c:Ck ps):Ck (iB ps):=⟨vX c.nd,fun p hp=>c.nn p ((List.mem_filter.mp hp).1),fun p hp=>c.rg p ((List.mem_filter.mp hp).1)⟩
theorem wY:FnScope ["self","counts"] ["self","counts"] (au eG):=⟨rfl,rfl,rfl,by decide +kernel,rfl,by decide +kernel,by decide +kernel⟩
theorem wW {f cg:Addr} {fd bM:FuncData} (F:Fun K "in_turn" "Call.in_turn" eG f fd)
  (cU:FnOk P w K mg base CX0 1 cg bM ["counts","hand"] (gJ K)) (cV:Cal K mg "count_of" cg bM ["counts","hand"]):FnOk P w K mg base CX0 2 f fd ["self","counts"] (fM K):=by
 refine F.ok wY (fun vs H Q E h=>?_) (fun cdv A outer s H vs Q E hr h=>?_)
 ·obtain ⟨p,d,rfl,_⟩:=h
  rfl
 obtain ⟨p,d,rfl,h⟩:=h
 have hu64:=hr.units
 have hu0:=hr.units0
 have hu:=bD hr
 refine ⟨_,(aC (aU (pC sO (bz cU cV hr (aa (pv 1) (aa (dH (K:=K) rfl (pv 0) rfl) ak))) (aR Hb (dH (K:=K) rfl (pv 0) rfl) aq) (bx _)))),?_⟩
 obtain ⟨C,dx,m,n,c,k,w,cs,⟨cl,n1,n2,n3,n4,n5⟩,hp,hd,q⟩:=h
 clean_wf
 refine ⟨d,m,c,rfl,hd,?_⟩
 clean_wf
 exact q
theorem Bv:FnScope ["self","counts"] ["self","counts"] (au jb):=⟨rfl,rfl,rfl,by decide +kernel,rfl,by decide +kernel,by decide +kernel⟩
theorem BX {f d7 aA:Addr} {fd fO:FuncData} (F:Fun K "free" "Call.free" jb f fd)
  (jA:FnOk P w K mg base CX0 2 d7 fO ["self","counts"] (fM K)) (jr:Binds K fO ["self","counts"] []) (aP:TCall K aA) (aZ:mg "OwnCall"=some (.ref aA)) (iZ:Meth K aA "in_turn" d7):FnOk P w K mg base CX0 3 f fd ["self","counts"] (lZ K mg):=by
 refine F.ok Bv (fun vs H Q E h=>?_) (fun cdv A outer s H vs Q E hr h=>?_)
 ·obtain ⟨p,d,rfl,_⟩:=h
  rfl
 obtain ⟨p,d,rfl,h⟩:=h
 have hu64:=hr.units
 have hu0:=hr.units0
 have hu:=bD hr
 refine ⟨_,(aC (aU (ux (MOk.cons aP.cl iZ jA jr MOk.nil) (pv 0) hr (aa (pv 1) ak)))),?_⟩
 obtain ⟨C,dx,m,n,c,k,w,cs,e,hp,hd,q⟩:=h
 rw [aZ] at e
 cases e
 clean_wf
 exact ⟨p,d,rfl,_,dx,m,n,c,k,w,cs,aP,hp,hd,q⟩
theorem uz:FnScope ["self","counts"] ["self","counts"] (au cN):=⟨rfl,rfl,rfl,by decide +kernel,rfl,by decide +kernel,by decide +kernel⟩
theorem vg {f Gr gP d7 ao aB:Addr} {fd An eZ fO:FuncData} (F:Fun K "free" "HeardCall.free" cN f fd)
  (Pn:FnOk P w K mg base CX0 2 Gr An ["one","other"] (rQ K)) (M6:Cal K mg "covers" Gr An ["one","other"])
  (mL:FnOk P w K mg base CX0 2 gP eZ ["pairs"] (km K)) (mR:Cal K mg "unpacked" gP eZ ["pairs"])
  (jA:FnOk P w K mg base CX0 2 d7 fO ["self","counts"] (fM K)) (jr:Binds K fO ["self","counts"] []) (aG:TCall K ao) (aQ:TCall K aB) (aL:mg "HeardCall"=some (.ref ao)) (aV:mg "OneCall"=some (.ref aB)) (gY:Meth K ao "in_turn" d7) (iR:Meth K aB "in_turn" d7):FnOk P w K mg base CX0 3 f fd ["self","counts"] (f9 K mg):=by
 refine F.ok uz (fun vs H Q E h=>?_) (fun cdv A outer s H vs Q E hr h=>?_)
 ·obtain ⟨p,d,rfl,_⟩:=h
  rfl
 obtain ⟨p,d,rfl,h⟩:=h
 have hu64:=hr.units
 have hu0:=hr.units0
 have hu:=bD hr
 refine ⟨_,(aC (aU (BP (ux (MOk.cons aG.cl gY jA jr (MOk.cons aQ.cl iR jA jr MOk.nil)) (pv 0) hr (aa (pv 1) ak)) (xR (bz Pn M6 hr (aa (pv 1) (aa (bz mL mR hr (aa (dH (K:=K) rfl (pv 0) rfl) ak)) ak))))))),?_⟩
 obtain ⟨C,dx,m,n,c,k,w,t,xs,ps,e,hp,hd,ht,hx,cm,cp,q⟩:=h
 have T:TCall K C:=by
  rcases e with e | e
  ·rw [aL] at e; cases e; exact aG
  ·rw [aV] at e; cases e; exact aQ
 have go:∀ {Q':VK},(Q' (.bl (decide (ct m c=k - 1))) H)->fM K [.ref p,.ref d] H Q' E0:=fun z=>⟨p,d,rfl,_,dx,m,n,c,k,w,_,T,hp,hd,z⟩
 obtain ⟨cl,n1,n2,n3,n4,n5⟩:=id T
 have tail:∀ {Q':VK},(∀ H',Same H H'->Q' (.bl (cov m (iB ps))) H')->∀ e H1,Same H H1->H1 e=some (.dK (dI (iB ps)))->rQ K [.ref d,.ref e] H1 Q' E0:=fun z e H1 s1 g1=>⟨d,e,m,iB ps,rfl,cX s1 hd,.inl g1,cm,OD cp,fun H2 s2=>z _ (s1.trans s2)⟩
 rcases e with e | e
 ·rw [aL] at e
  cases e
  clean_wf
  refine go ?_
  clean_wf
  refine fJ (fun h1=>?_) fun h1=>?_
  ·clean_wf
   refine ⟨t,xs,ps,rfl,.inr (SqT.of ht),hx,by have:=cp.len; omega,cp.nd,fun H1 e1 s1 he1 g1=>?_⟩
   clean_wf
   refine tail (fun H2 s2=>?_) _ _ s1 g1
   have:=q _ s2
   rw [h1,Bool.true_and] at this
   exact this
  ·have h1:=Bool.eq_false_iff.mpr h1
   have:=q _ (Same.refl H)
   rw [h1,Bool.false_and] at this
   exact this
 ·rw [aV] at e
  cases e
  clean_wf
  refine go ?_
  clean_wf
  refine fJ (fun h1=>?_) fun h1=>?_
  ·clean_wf
   refine ⟨t,xs,ps,rfl,.inr (SqT.of ht),hx,by have:=cp.len; omega,cp.nd,fun H1 e1 s1 he1 g1=>?_⟩
   clean_wf
   refine tail (fun H2 s2=>?_) _ _ s1 g1
   have:=q _ s2
   rw [h1,Bool.true_and] at this
   exact this
  ·have h1:=Bool.eq_false_iff.mpr h1
   have:=q _ (Same.refl H)
   rw [h1,Bool.false_and] at this
   exact this
abbrev cvd (m:List (Int×Int)) (p:Nm):Prop:=p.2.2<=ct m p.2.1
def kj (K:PySem.W.Frag):Sp:=fun vs H Q _=>∃ (a d:Addr) (i:Nat),vs=[.ref a,.ref d,.int i]/\∃ xs m ns,(SqL K H a xs∨SqT K H a xs)/\Rd H d (.dK (dI m))/\Nms H xs ns/\i<=ns.length/\(∀ k (hk:k < ns.length),k < i->cvd m ns[k]) /\
 ∀ j:Nat,j<=ns.length->(∀ k (hk:k < ns.length),k < j->cvd m ns[k])->(∀ hj:j < ns.length,¬ cvd m ns[j])->Q (.int j) H
theorem sc_first_open:FnScope ["places","counts","start","at"] ["places","counts","start"] (au iD):=⟨rfl,rfl,rfl,by decide +kernel,rfl,by decide +kernel,by decide +kernel⟩
theorem zY {f iJ:Addr} {fd gW:FuncData} (F:Fun K "first_open" "first_open" iD f fd)
  (ou:FnOk P w K mg base CX0 2 iJ gW ["counts","name"] (jK K)) (nP:Cal K mg "covers_name" iJ gW ["counts","name"]) (dU:mg "len"=none):FnOk P w K mg base CX0 3 f fd ["places","counts","start"] (kj K):=by
 refine F.ok sc_first_open (fun vs H Q E h=>?_) (fun cdv A outer s H vs Q E hr h=>?_)
 ·obtain ⟨a,d,i,rfl,_⟩:=h
  rfl
 obtain ⟨a,d,i,rfl,h⟩:=h
 have hu64:=hr.units
 have hu0:=hr.units0
 have hu:=bD hr
 refine ⟨_,(aj (aM (i:=3) sc_first_open.nd rfl (Or.inl rfl) (pv 2))
   (aj (uV PassesOwn.never (PW.pt (yf (bh zj (pv 3) (bw (bY (K:=K) rfl) (by rfl) dU PySem.boot_len (aa (pv 0) ak)) (bx _)) (vf (fH K rfl (bz ou nP hr (aa (pv 1) (aa (aW (JW (K:=K) rfl) (pv 0) (pv 3) (fun _ _=>rfl)) ak)))))))
   (aC (aM (i:=3) sc_first_open.nd rfl (Or.inl rfl) (aR cB (pv 3) aq))))
   (aC (aU (pv 3))))),?_⟩
 obtain ⟨xs,m,ns,hS,hd,hn,hi,hc0,k⟩:=h
 clean_wf
 have hl:=hn.len
 refine ⟨fun M σ H'=>∃ j:Nat,M=ns.length - j/\j<=ns.length/\σ=[some (.ref a),some (.ref d),some (.int i),some (.int j)]/\H'=H/\(∀ k (hk:k < ns.length),k < j->cvd m ns[k]),⟨_,i,rfl,hi,rfl,rfl,hc0⟩,?_⟩
 rintro M σ H' ⟨j,rfl,hj,rfl,rfl,hc⟩
 clean_wf
 refine fJ (fun h1=>?_) fun h1=>?_
 ·have h1:(j:Int) < (xs.length:Nat):=of_decide_eq_true h1
  have hj2:j < ns.length:=by omega
  obtain ⟨x,hx,b,rfl,hb⟩:=hn.at hj2
  have hat:atI xs (j:Int)=some (.ref b):=ig hx
  clean_wf
  refine ⟨d,b,rfl,m,_,_,_,hd,SqT.of hb,?_⟩
  clean_wf
  refine fJ (fun h2=>?_) fun h2=>?_
  ·have h2:cvd m ns[j]:=of_decide_eq_true h2
   refine ⟨_,fun _ _ z=>z,?_⟩
   clean_wf
   refine ⟨ns.length - (j + 1),by omega,j + 1,rfl,hj2,rfl,rfl,fun k hk h=>?_⟩
   rcases Nat.lt_or_ge k j with z | z
   ·exact hc k hk z
   ·obtain rfl:k=j:=by omega
    exact h2
  ·have h2:¬ cvd m ns[j]:=fun z=>h2 (decide_eq_true z)
   clean_wf
   exact k j hj hc fun _=>h2
 ·have h1:¬ (j:Int) < (xs.length:Nat):=fun z=>h1 (decide_eq_true z)
  clean_wf
  exact k j hj hc fun z=>absurd z (by omega)
def pM (K:PySem.W.Frag):Sp:=fun vs H Q _=>∃ (a:Addr) (i:Int),vs=[.ref a,.int i]/\∃ xs,(SqL K H a xs∨SqT K H a xs)/\0<=i/\(∀ v,xs[i.toNat]?=some v->Q v H)/\(xs.length<=i.toNat->Q .non H)
theorem Hd:FnScope ["places","at"] ["places","at"] (au mC):=⟨rfl,rfl,rfl,by decide +kernel,rfl,by decide +kernel,by decide +kernel⟩
theorem Ir {f :Addr} {fd :FuncData} (F:Fun K "name_at" "name_at" mC f fd) (dU:mg "len"=none):FnOk P w K mg base CX0 1 f fd ["places","at"] (pM K):=by
 refine F.ok Hd (fun vs H Q E h=>?_) (fun cdv A outer s H vs Q E hr h=>?_)
 ·obtain ⟨a,i,rfl,_⟩:=h
  rfl
 obtain ⟨a,i,rfl,h⟩:=h
 have hu64:=hr.units
 have hu0:=hr.units0
 have hu:=bD hr
 refine ⟨_,(aC (aU (DY (bh zj (pv 1) (bw (bY (K:=K) rfl) (by rfl) dU PySem.boot_len (aa (pv 0) ak)) (bx _)) (aW (JW (K:=K) rfl) (pv 0) (pv 1) (fun _ _=>rfl)) ph))),?_⟩
 obtain ⟨xs,hS,hi,k1,k2⟩:=h
 clean_wf
 refine fJ (fun h1=>?_) fun h1=>?_
 ·have h1:i < (xs.length:Nat):=of_decide_eq_true h1
  have hx:i.toNat < xs.length:=by omega
  have hat:atI xs i=some xs[i.toNat]:=rK hi (List.getElem?_eq_getElem hx)
  clean_wf
  exact k1 _ (List.getElem?_eq_getElem hx)
 ·have h1:¬ i < (xs.length:Nat):=fun z=>h1 (decide_eq_true z)
  clean_wf
  exact k2 (by omega)
structure Cll where
 kd:Str
 n:Int
 c:Int
 k:Int
 w:Int
 cs:List (Int×Int)
def CllA (K:PySem.W.Frag) (mg:Str->Option Value) (H:Hp) (v:V) (x:Cll):Prop:=∃ p C dx t xs,v=.ref p/\KdC mg x.kd C/\TCall K C/\H p=some (.ins C dx (cfl (.int x.n) (.int x.c) (.int x.k) (.int x.w) (.ref t)))/\H t=some (.tup xs)/\Prs H xs x.cs/\Ck x.cs
def KpC (H H':Hp):Prop:=(∀ p C dx fs,H p=some (.ins C dx fs)->H' p=some (.ins C dx fs))/\SmH H H'
theorem KpC.same {H H':Hp} (s:Same H H'):KpC H H':=⟨fun _ _ _ _ e=>s _ _ e,.same s⟩
theorem KpC.trans {A B C:Hp} (x:KpC A B) (y:KpC B C):KpC A C:=⟨fun _ _ _ _ e=>y.1 _ _ _ _ (x.1 _ _ _ _ e),x.2.trans y.2⟩
theorem CllA.up {H H':Hp} (s:KpC H H') {v:V} {x:Cll} (h:CllA K mg H v x):CllA K mg H' v x:=by
 obtain ⟨p,C,dx,t,xs,e1,e2,e3,e4,e5,e6,e7⟩:=h
 exact ⟨p,C,dx,t,xs,e1,e2,e3,s.1 _ _ _ _ e4,s.2 _ _ e5,e6.mono s.2,e7⟩
def jq (K:PySem.W.Frag):Sp:=fun vs H Q _=>∃ (p:Addr),vs=[.ref p]/\∃ C dx n c k w cs,TCall K C/\H p=some (.ins C dx (cfl n c k w cs))/\∀ H' t,Same H H'->H t=none->H' t=some (.tup [n,c,k])->Q (.ref t) H'
theorem Bx:FnScope ["self"] ["self"] (au jc):=⟨rfl,rfl,rfl,by decide +kernel,rfl,by decide +kernel,by decide +kernel⟩
theorem Cy {f :Addr} {fd :FuncData} (F:Fun K "name" "Call.name" jc f fd):FnOk P w K mg base CX0 1 f fd ["self"] (jq K):=by
 refine F.ok Bx (fun vs H Q E h=>?_) (fun cdv A outer s H vs Q E hr h=>?_)
 ·obtain ⟨p,rfl,_⟩:=h
  rfl
 obtain ⟨p,rfl,h⟩:=h
 have hu64:=hr.units
 have hu0:=hr.units0
 have hu:=bD hr
 refine ⟨_,(aC (aU (fu (aa (dH (K:=K) rfl (pv 0) rfl) (aa (dH (K:=K) rfl (pv 0) rfl) (aa (dH (K:=K) rfl (pv 0) rfl) ak)))))),?_⟩
 obtain ⟨C,dx,n,c,k,w,cs,⟨cl,n1,n2,n3,n4,n5⟩,hp,q⟩:=h
 clean_wf
 intro t H1 ht s1 g1
 exact q H1 t s1 ht g1
def o5 (K:PySem.W.Frag):Sp:=fun vs H Q _=>∃ (p:Addr),vs=[.ref p]/\∃ C dx n c k w cs,TCall K C/\H p=some (.ins C dx (cfl n c k w cs))/\∀ H' t,Same H H'->H t=none->H' t=some (.tup [c,k])->Q (.ref t) H'
theorem Cu:FnScope ["self"] ["self"] (au je):=⟨rfl,rfl,rfl,by decide +kernel,rfl,by decide +kernel,by decide +kernel⟩
theorem CT {f :Addr} {fd :FuncData} (F:Fun K "rank" "Call.rank" je f fd):FnOk P w K mg base CX0 1 f fd ["self"] (o5 K):=by
 refine F.ok Cu (fun vs H Q E h=>?_) (fun cdv A outer s H vs Q E hr h=>?_)
 ·obtain ⟨p,rfl,_⟩:=h
  rfl
 obtain ⟨p,rfl,h⟩:=h
 have hu64:=hr.units
 have hu0:=hr.units0
 have hu:=bD hr
 refine ⟨_,(aC (aU (fu (aa (dH (K:=K) rfl (pv 0) rfl) (aa (dH (K:=K) rfl (pv 0) rfl) ak))))),?_⟩
 obtain ⟨C,dx,n,c,k,w,cs,⟨cl,n1,n2,n3,n4,n5⟩,hp,q⟩:=h
 clean_wf
 intro t H1 ht s1 g1
 exact q H1 t s1 ht g1
def fj (K:PySem.W.Frag):Sp:=fun vs H Q _=>∃ (p:Addr),vs=[.ref p]/\Q (.bl false) H
def cW (K:PySem.W.Frag):Sp:=fun vs H Q _=>∃ (p:Addr),vs=[.ref p]/\Q (.bl true) H
theorem uv:FnScope ["self"] ["self"] (au cG):=⟨rfl,rfl,rfl,by decide +kernel,rfl,by decide +kernel,by decide +kernel⟩
theorem tK {f :Addr} {fd :FuncData} (F:Fun K "asks_place" "Call.asks_place" cG f fd):FnOk P w K mg base CX0 1 f fd ["self"] (fj K):=by
 refine F.ok uv (fun vs H Q E h=>?_) (fun cdv A outer s H vs Q E hr h=>?_)
 ·obtain ⟨p,rfl,_⟩:=h
  rfl
 obtain ⟨p,rfl,h⟩:=h
 have hu64:=hr.units
 have hu0:=hr.units0
 have hu:=bD hr
 refine ⟨_,(aC (aU wL)),?_⟩
 clean_wf
 exact h
theorem ql:FnScope ["self"] ["self"] (au bW):=⟨rfl,rfl,rfl,by decide +kernel,rfl,by decide +kernel,by decide +kernel⟩
theorem qj {f :Addr} {fd :FuncData} (F:Fun K "asks_place" "OneCall.asks_place" bW f fd):FnOk P w K mg base CX0 1 f fd ["self"] (cW K):=by
 refine F.ok ql (fun vs H Q E h=>?_) (fun cdv A outer s H vs Q E hr h=>?_)
 ·obtain ⟨p,rfl,_⟩:=h
  rfl
 obtain ⟨p,rfl,h⟩:=h
 have hu64:=hr.units
 have hu0:=hr.units0
 have hu:=bD hr
 refine ⟨_,(aC (aU wL)),?_⟩
 clean_wf
 exact h
def frb (m:List (Int×Int)) (x:Cll):Bool:=decide (ct m x.c=x.k - 1) && (decide (x.kd="own") || cov m (iB x.cs))
def tkb (m:List (Int×Int)) (x:Cll) (o:Option Nm):Bool:=frb m x && (!decide (x.kd="one") || decide (o=some (x.n,x.c,x.k)))
def NaV (H:Hp) (v:V):Option Nm->Prop
 | none=>v=.non
 | some q=>NmAt H v q
theorem NaV.up {H H':Hp} (s:SmH H H') {v:V} {o:Option Nm} (h:NaV H v o):NaV H' v o:=by
 cases o with
 | none=>exact h
 | some q=>obtain ⟨a,e1,e2⟩:=h; exact ⟨a,e1,s _ _ e2⟩
def naD:Option Nm->PyData
 | none=>.none
 | some q=>nmD q
theorem Xr {K:PySem.W.Frag} {H:Hp} {v:V} {o:Option Nm} (h:NaV H v o):Dl K H v (naD o):=by
 cases o with
 | none=>obtain rfl:v=.non:=h; exact .inl .none
 | some q=>exact .inl (NmAt.dp h)
theorem Uo (o:Option Nm):(naD o).canLay0=true:=by
 cases o with
 | none=>rfl
 | some q=>exact yg q
theorem V9 (o:Option Nm):(naD o).depth<=60:=by
 cases o with
 | none=>show 0<=60; decide
 | some q=>show 1<=60; decide
theorem Nr (q r:Nm):(nmD q).eqv (nmD r)=decide (r=q):=by
 have e:(nmD q).eqv (nmD r)=(decide (q.1=r.1) && (decide (q.2.1=r.2.1) && (decide (q.2.2=r.2.2) && true))):=by rfl
 rw [e]
 obtain ⟨a,b,c⟩:=q
 obtain ⟨x,y,z⟩:=r
 by_cases h:(x,y,z)=(a,b,c)
 ·cases h
  simp
 ·rw [decide_eq_false h]
  simp at h ⊢
  intro h1 h2 h3
  exact h h1.symm h2.symm h3.symm
theorem X6 (q:Nm) (o:Option Nm):(nmD q).eqv (naD o)=decide (o=some q):=by
 cases o with
 | none=>rfl
 | some r =>
  show (nmD q).eqv (nmD r)=_
  rw [Nr]
  by_cases z:r=q
  ·rw [z,decide_eq_true rfl,decide_eq_true rfl]
  ·rw [decide_eq_false z,decide_eq_false (fun w=>z (Option.some.inj w))]
def pq (K:PySem.W.Frag) (mg:Str->Option Value):Sp:=fun vs H Q _=>∃ (v:V),vs=[v]/\∃ x,CllA K mg H v x/\∀ H' t,Same H H'->H t=none->H' t=some (.tup [.int x.c,.int x.k])->Q (.ref t) H'
theorem Hf:FnScope ["call"] ["call"] (au mF):=⟨rfl,rfl,rfl,by decide +kernel,rfl,by decide +kernel,by decide +kernel⟩
theorem HR {f nH ao aB aA:Addr} {fd uY:FuncData} (F:Fun K "rank_of" "rank_of" mF f fd)
  (qY:FnOk P w K mg base CX0 1 nH uY ["self"] (o5 K)) (qH:Binds K uY ["self"] []) (aG:TCall K ao) (aQ:TCall K aB) (aP:TCall K aA) (aL:mg "HeardCall"=some (.ref ao)) (aV:mg "OneCall"=some (.ref aB)) (aZ:mg "OwnCall"=some (.ref aA)) (jC:Meth K ao "rank" nH) (kZ:Meth K aB "rank" nH) (lA:Meth K aA "rank" nH):FnOk P w K mg base CX0 2 f fd ["call"] (pq K mg):=by
 refine F.ok Hf (fun vs H Q E h=>?_) (fun cdv A outer s H vs Q E hr h=>?_)
 ·obtain ⟨v,rfl,_⟩:=h
  rfl
 obtain ⟨v,rfl,h⟩:=h
 have hu64:=hr.units
 have hu0:=hr.units0
 have hu:=bD hr
 refine ⟨_,(aC (aU (fY (MOk.cons aP.cl lA qY qH (MOk.cons aG.cl jC qY qH (MOk.cons aQ.cl kZ qY qH MOk.nil))) (pv 0) hr))),?_⟩
 obtain ⟨x,⟨p,C,dx,t,xs,rfl,hk,hT,hp,ht,hx,hc⟩,kk⟩:=h
 rcases hk with ⟨_,e⟩ | ⟨_,e⟩ | ⟨_,e⟩
 ·rw [aZ] at e
  cases e
  clean_wf
  exact ⟨p,rfl,_,dx,_,_,_,_,_,hT,hp,kk⟩
 ·rw [aL] at e
  cases e
  clean_wf
  exact ⟨p,rfl,_,dx,_,_,_,_,_,hT,hp,kk⟩
 ·rw [aV] at e
  cases e
  clean_wf
  exact ⟨p,rfl,_,dx,_,_,_,_,_,hT,hp,kk⟩
theorem XC:decide (("own":Str)="own")=true:=by decide +kernel
theorem Wo:decide (("heard":Str)="own")=false:=by decide +kernel
theorem Np:decide (("one":Str)="own")=false:=by decide +kernel
theorem Tw:decide (("own":Str)="one")=false:=by decide +kernel
theorem Sx:decide (("heard":Str)="one")=false:=by decide +kernel
theorem Tn:decide (("one":Str)="one")=true:=by decide +kernel
def lH (K:PySem.W.Frag) (mg:Str->Option Value):Sp:=fun vs H Q _=>∃ (v:V) (d:Addr) (y:V),vs=[v,.ref d,y]/\∃ x m o,CllA K mg H v x/\Rd H d (.dK (dI m))/\Ck m/\NaV H y o/\∀ H',Same H H'->Q (.bl (tkb m x o)) H'
theorem xG:FnScope ["call","counts","name"] ["call","counts","name"] (au eE):=⟨rfl,rfl,rfl,by decide +kernel,rfl,by decide +kernel,by decide +kernel⟩
theorem w5 {f kW cC bN bZ cF ao aB aA:Addr} {fd jF dw dC cQ cu:FuncData} (F:Fun K "can_be_taken" "can_be_taken" eE f fd)
  (qK:FnOk P w K mg base CX0 3 kW jF ["self","counts"] (lZ K mg)) (qU:Binds K jF ["self","counts"] [])
  (eN:FnOk P w K mg base CX0 3 cC dw ["self","counts"] (f9 K mg)) (d9:Binds K dw ["self","counts"] [])
  (bC:FnOk P w K mg base CX0 3 bN dC ["self"] (jq K)) (bF:Binds K dC ["self"] [])
  (dF:FnOk P w K mg base CX0 3 bZ cQ ["self"] (fj K)) (du:Binds K cQ ["self"] [])
  (gK:FnOk P w K mg base CX0 3 cF cu ["self"] (cW K)) (gU:Binds K cu ["self"] []) (aG:TCall K ao) (aQ:TCall K aB) (aP:TCall K aA) (aL:mg "HeardCall"=some (.ref ao)) (aV:mg "OneCall"=some (.ref aB)) (aZ:mg "OwnCall"=some (.ref aA)) (bK:Meth K ao "asks_place" bZ) (cH:Meth K ao "free" cC) (bA:Meth K ao "name" bN) (bO:Meth K aB "asks_place" cF) (dq:Meth K aB "free" cC) (bH:Meth K aB "name" bN) (bR:Meth K aA "asks_place" bZ) (dg:Meth K aA "free" kW) (bG:Meth K aA "name" bN):FnOk P w K mg base CX0 4 f fd ["call","counts","name"] (lH K mg):=by
 refine F.ok xG (fun vs H Q E h=>?_) (fun cdv A outer s H vs Q E hr h=>?_)
 ·obtain ⟨v,d,y,rfl,_⟩:=h
  rfl
 obtain ⟨v,d,y,rfl,h⟩:=h
 have hu64:=hr.units
 have hu0:=hr.units0
 have hu:=bD hr
 refine ⟨_,(aC (aU (BP (ux (MOk.cons aP.cl dg qK qU (MOk.cons aG.cl cH eN d9 (MOk.cons aQ.cl dq eN d9 MOk.nil))) (pv 0) hr (aa (pv 1) ak)) (xR (W2 (Ox (fY (MOk.cons aP.cl bR dF du (MOk.cons aG.cl bK dF du (MOk.cons aQ.cl bO gK gU MOk.nil))) (pv 0) hr)) (xR (pC (vV (K:=K) rfl hu64) (fY (MOk.cons aP.cl bG bC bF (MOk.cons aG.cl bA bC bF (MOk.cons aQ.cl bH bC bF MOk.nil))) (pv 0) hr) (pv 2) (bx _)))))))),?_⟩
 obtain ⟨x,m,o,⟨p,C,dx,t,xs,rfl,hk,hT,hp,ht,hx,hc⟩,hd,cm,hy,kk⟩:=h
 obtain ⟨kd,n,c,k,w,cs⟩:=x
 have hk:KdC mg kd C:=hk
 have hp:H p=some (.ins C dx (cfl (.int n) (.int c) (.int k) (.int w) (.ref t))):=hp
 have hx:Prs H xs cs:=hx
 have hc:Ck cs:=hc
 rcases hk with ⟨rfl,e⟩ | ⟨rfl,e⟩ | ⟨rfl,e⟩
 ·have ev:tkb m ⟨"own",n,c,k,w,cs⟩ o=decide (ct m c=k - 1):=by
   unfold tkb frb
   rw [XC,Tw]
   simp
  rw [ev] at kk
  rw [aZ] at e
  cases e
  clean_wf
  refine ⟨p,d,rfl,_,dx,m,_,c,k,_,_,aZ,hp,hd,?_⟩
  clean_wf
  refine fJ (fun h1=>?_) fun h1=>?_
  ·clean_wf
   refine ⟨p,rfl,?_⟩
   clean_wf
   have:=kk H (.refl _)
   rw [h1] at this
   exact this
  ·have h1:=Bool.eq_false_iff.mpr h1
   have:=kk H (.refl _)
   rw [h1] at this
   exact this
 ·have ev:tkb m ⟨"heard",n,c,k,w,cs⟩ o=(decide (ct m c=k - 1) && cov m (iB cs)):=by
   unfold tkb frb
   rw [Wo,Sx]
   simp
  rw [ev] at kk
  rw [aL] at e
  cases e
  clean_wf
  refine ⟨p,d,rfl,_,dx,m,_,c,k,_,t,xs,cs,.inl aL,hp,hd,ht,hx,cm,hc,fun H1 s1=>?_⟩
  have hp1:=s1 _ _ hp
  clean_wf
  refine fJ (fun h1=>?_) fun h1=>?_
  ·clean_wf
   refine ⟨p,rfl,?_⟩
   clean_wf
   have:=kk H1 s1
   rw [h1] at this
   exact this
  ·have h1:=Bool.eq_false_iff.mpr h1
   have:=kk H1 s1
   rw [h1] at this
   exact this
 ·have ev:tkb m ⟨"one",n,c,k,w,cs⟩ o=((decide (ct m c=k - 1) && cov m (iB cs)) && decide (o=some (n,c,k))):=by
   unfold tkb frb
   rw [Np,Tn]
   simp
  rw [ev] at kk
  rw [aV] at e
  cases e
  clean_wf
  refine ⟨p,d,rfl,_,dx,m,_,c,k,_,t,xs,cs,.inr aV,hp,hd,ht,hx,cm,hc,fun H1 s1=>?_⟩
  have hp1:=s1 _ _ hp
  clean_wf
  refine fJ (fun h1=>?_) fun h1=>?_
  ·clean_wf
   refine ⟨p,rfl,?_⟩
   clean_wf
   refine ⟨p,rfl,_,dx,_,_,_,_,_,hT,hp1,fun H2 u s2 hu2 g2=>?_⟩
   clean_wf
   refine ⟨nmD (n,c,k),naD o,.inl (NmAt.dp ⟨u,rfl,g2⟩),Xr (hy.up (.same (s1.trans s2))),yg _,Uo _,by have:=V9 o; omega,?_⟩
   rw [X6]
   have:=kk H2 (s1.trans s2)
   rw [h1,Bool.true_and] at this
   exact this
  ·have h1:=Bool.eq_false_iff.mpr h1
   have:=kk H1 s1
   rw [h1,Bool.false_and] at this
   exact this
theorem JF {td ty:TE} {σ:St} {H:Hp} {Q:VK} (h:td σ H fun x H1=>∃ a,x=.ref a/\IsD H1 a/\ty σ H1 fun y H2=>∃ o,DGet H2 a y o/\Q (o.getD .non) H2):Oz td ty σ H Q:=h
structure RkA (K:PySem.W.Frag) (mg:Str->Option Value) (H:Hp) (D:Addr) (L:Int->Int->Option (V×Cll)):Prop where
 dc:∃ kvs,H D=some (.dT kvs)/\∀ a b,fZ kvs [Sum.inl a,Sum.inl b]=(L a b).map (·.1)
 cl:∀ a b v x,L a b=some (v,x)->CllA K mg H v x/\x.c=a/\x.k=b
theorem RkA.same {H H':Hp} {D:Addr} {L:Int->Int->Option (V×Cll)} (h:RkA K mg H D L) (s:Same H H'):RkA K mg H' D L:=by
 obtain ⟨⟨kvs,e1,e2⟩,e3⟩:=h
 exact ⟨⟨kvs,s _ _ e1,e2⟩,fun a b v x e=>⟨(e3 a b v x e).1.up (.same s),(e3 a b v x e).2⟩⟩
def tk1 (L:Int->Int->Option (V×Cll)) (m:List (Int×Int)) (o:Option Nm) (h:Int):Option (V×Cll):=(L h (ct m h + 1)).bind fun q=>if tkb m q.2 o=true then some q else none
def fst (hs:List Int) (L:Int->Int->Option (V×Cll)) (m:List (Int×Int)) (o:Option Nm):Option (V×Cll):=hs.findSome? (tk1 L m o)
def fsv:Option (V×Cll)->V
 | none=>.non
 | some q=>q.1
def jR (K:PySem.W.Frag) (mg:Str->Option Value):Sp:=fun vs H Q _=>∃ (a D d:Addr) (y:V),vs=[.ref a,.ref D,.ref d,y]/\∃ hs L m o,SqL K H a (hs.map V.int)/\RkA K mg H D L/\Rd H d (.dK (dI m))/\Ck m/\NaV H y o/\∀ H',Same H H'->Q (fsv (fst hs L m o)) H'
theorem sc_first_to_take:FnScope ["callers","ranked","counts","name","caller","call"] ["callers","ranked","counts","name"] (au c7):=⟨rfl,rfl,rfl,by decide +kernel,rfl,by decide +kernel,by decide +kernel⟩
theorem vR {f cg qT ao aB aA:Addr} {fd bM qg:FuncData} (F:Fun K "first_to_take" "first_to_take" c7 f fd)
  (cU:FnOk P w K mg base CX0 4 cg bM ["counts","hand"] (gJ K)) (cV:Cal K mg "count_of" cg bM ["counts","hand"])
  (yK:FnOk P w K mg base CX0 4 qT qg ["call","counts","name"] (lH K mg)) (xU:Cal K mg "can_be_taken" qT qg ["call","counts","name"]) (aG:TCall K ao) (aQ:TCall K aB) (aP:TCall K aA) (aL:mg "HeardCall"=some (.ref ao)) (aV:mg "OneCall"=some (.ref aB)) (aZ:mg "OwnCall"=some (.ref aA)):FnOk P w K mg base CX0 5 f fd ["callers","ranked","counts","name"] (jR K mg):=by
 refine F.ok sc_first_to_take (fun vs H Q E h=>?_) (fun cdv A outer s H vs Q E hr h=>?_)
 ·obtain ⟨a,D,d,y,rfl,_⟩:=h
  rfl
 obtain ⟨a,D,d,y,rfl,h⟩:=h
 have hu64:=hr.units
 have hu0:=hr.units0
 have hu:=bD hr
 refine ⟨_,(aj (cP PassesOwn.never rfl (bB (K:=K) rfl (pv 0)) (aX (i:=4) sc_first_to_take.nd rfl (Or.inl rfl))
   (aj (aM (i:=5) sc_first_to_take.nd rfl (Or.inl rfl) (Gn hu (pv 1) (fu (aa (pv 4) (aa (aR cB (bz cU cV hr (aa (pv 2) (aa (pv 4) ak))) aq) ak))) ⟨rfl,rfl,rfl,rfl⟩))
   (aC (dD (PW.pt (yf (bh BW (pv 5) ph (bx _)) (vf (fH K rfl (bz yK xU hr (aa (pv 5) (aa (pv 2) (aa (pv 3) ak)))))))) (aC (aU (pv 5))) bJ))))
   (aC (aU ph))),?_⟩
 obtain ⟨hs,L,m,o,hS,R,hd,cm,hy,kk⟩:=h
 refine S5 ?_
 clean_wf
 refine fL (xs:=hs.map V.int) (fun i σ A=>∃ v4 v5,σ=[some (.ref a),some (.ref D),some (.ref d),some y,v4,v5]/\Same H A/\(hs.take i).findSome? (tk1 L m o)=none) ⟨none,none,rfl,.refl _,rfl⟩ (fun i σ A _ z=>by obtain ⟨_,_,_,z,_⟩:=z; exact z.seq hS) ?_ ?_
 ·rintro i x σ A hx ⟨v4,v5,rfl,sA,hn⟩
  obtain ⟨h,hh,rfl⟩:=jJ hx
  have RA:=R.same sA
  have hdA:=cX sA hd
  obtain ⟨⟨kvs,gD,gv⟩,gc⟩:=id RA
  have ff:fst hs L m o=((tk1 L m o h).or ((hs.drop (i + 1)).findSome? (tk1 L m o))):=by
   unfold fst
   have hi:=(List.getElem?_eq_some_iff.mp hh).1
   have e:hs=hs.take i ++ (h :: hs.drop (i + 1)):=by
    conv=>lhs; rw [← List.take_append_drop i hs,List.drop_eq_getElem_cons hi,(List.getElem?_eq_some_iff.mp hh).2]
   conv=>lhs; rw [e,List.findSome?_append,hn,Option.none_or,List.findSome?_cons]
   cases tk1 L m o h <;> rfl
  refine S5 ?_
  clean_wf
  refine JF ?_
  clean_wf
  refine ⟨D,rfl,.inr ⟨kvs,.inl gD⟩,?_⟩
  clean_wf
  refine ⟨d,m,h,rfl,hdA,?_⟩
  clean_wf
  intro t A1 ht s1 g1
  have gD1:=s1 _ _ gD
  refine ⟨_,DGet.t (k:=[Sum.inl h,Sum.inl (ct m h + 1)]) gD1 g1,?_⟩
  rw [gv]
  cases z:L h (ct m h + 1) with
  | none =>
   have tn:tk1 L m o h=none:=by unfold tk1; rw [z]; rfl
   rw [Option.map_none,Option.getD_none]
   clean_wf
   rw [show decide (V.non=V.non)=true from decide_eq_true rfl]
   clean_wf
   refine ⟨_,_,rfl,sA.trans s1,?_⟩
   rw [bc hh,List.findSome?_append,hn,Option.none_or,List.findSome?_cons,tn]
   rfl
  | some q =>
   obtain ⟨v,x⟩:=q
   have cx:=(gc _ _ _ _ z).1
   obtain ⟨p,C,dx,t',xs',ev,_⟩:=id cx
   have cx1:=cx.up (.same s1)
   subst ev
   rw [Option.map_some,Option.getD_some]
   clean_wf
   rw [show decide (V.ref p=V.non)=false from decide_eq_false (by intro z; cases z)]
   clean_wf
   refine ⟨.ref p,d,y,rfl,x,m,o,cx1,cX s1 hdA,cm,hy.up (.same (sA.trans s1)),fun A2 s2=>?_⟩
   clean_wf
   refine fJ (fun h2=>?_) fun h2=>?_
   ·have ts:tk1 L m o h=some (.ref p,x):=by unfold tk1; rw [z]; show (if tkb m x o=true then _ else _)=_; rw [if_pos h2]
    clean_wf
    have:=kk A2 (sA.trans (s1.trans s2))
    rw [ff,ts] at this
    exact this
   ·have tn:tk1 L m o h=none:=by unfold tk1; rw [z]; show (if tkb m x o=true then _ else _)=_; rw [if_neg h2]
    refine ⟨_,_,rfl,sA.trans (s1.trans s2),?_⟩
    rw [bc hh,List.findSome?_append,hn,Option.none_or,List.findSome?_cons,tn]
    rfl
 rintro σ A ⟨v4,v5,rfl,sA,hn⟩
 rw [show hs.take (hs.map V.int).length=hs by rw [List.length_map,List.take_length]] at hn
 clean_wf
 have:=kk A sA
 unfold fst at this
 rw [hn] at this
 exact this
def frl (hs:List Int) (l:Int):List Int:=(hs.filter fun h=>decide (l<=h)) ++ hs.filter fun h=>decide (h < l)
def lg (K:PySem.W.Frag):Sp:=fun vs H Q _=>∃ (a:Addr) (l:Int),vs=[.ref a,.int l]/\∃ hs:List Int,SqL K H a (hs.map V.int)/\hs.length<=400/\∀ H' q,Same H H'->H q=none->H' q=some (.lst ((frl hs l).map V.int))->Q (.ref q) H'
theorem xq:FnScope ["callers","last"] ["callers","last"] (au dZ):=⟨rfl,rfl,rfl,by decide +kernel,rfl,by decide +kernel,by decide +kernel⟩
theorem wU {f :Addr} {fd :FuncData} (F:Fun K "callers_from" "callers_from" dZ f fd):FnOk P w K mg base CX0 1 f fd ["callers","last"] (lg K):=by
 refine F.ok xq (fun vs H Q E h=>?_) (fun cdv A outer s H vs Q E hr h=>?_)
 ·obtain ⟨a,l,rfl,_⟩:=h
  rfl
 obtain ⟨a,l,rfl,h⟩:=h
 have hu64:=hr.units
 have hu0:=hr.units0
 have hu:=bD hr
 refine ⟨_,(aC (aU (aR Cp (cZ ["last","caller"] [some 1,none] rfl rfl (by kernel_rfl) (bB (K:=K) rfl (pv 0)) (fun _ _ _ _ _ nd=>aX (i:=1) nd rfl (Or.inl rfl)) (fun _ _ _ _ _=>(jn (bh J3 (pv 1) (pv 0) (bx _)))) (fun _ _ _ _ _=>(pv 1))) (cZ ["last","caller"] [some 1,none] rfl rfl (by kernel_rfl) (bB (K:=K) rfl (pv 0)) (fun _ _ _ _ _ nd=>aX (i:=1) nd rfl (Or.inl rfl)) (fun _ _ _ _ _=>(jn (bh zj (pv 1) (pv 0) (bx _)))) (fun _ _ _ _ _=>(pv 1)))))),?_⟩
 obtain ⟨hs,hS,lh,kk⟩:=h
 clean_wf
 intro D hD
 refine bQ (K:=K) (a:=a) (xs:=hs.map V.int) (fun i σ A=>∃ v,σ=[some (.int l),v]/\Same H A/\A D=some (.lst (((hs.take i).filter fun h=>decide (l<=h)).map V.int))) ⟨none,rfl,aH hD,az⟩ ?_ ?_ ?_
 ·rintro i σ A _ ⟨_,_,z,_⟩
  exact z.seq hS
 ·rintro i x σ A hx ⟨v,rfl,sA,gA⟩
  obtain ⟨h,hh,rfl⟩:=jJ hx
  have hi:=(List.getElem?_eq_some_iff.mp hh).1
  have lf:=List.length_filter_le (fun h=>decide (l<=h)) (hs.take i)
  have lt:=List.length_take_le i hs
  clean_wf
  refine fJ (fun h1=>?_) fun h1=>?_
  ·clean_wf
   refine ⟨_,gA,by rw [List.length_map]; exact aJ (by omega),_,rfl,fun b o z=>?_,?_⟩
   ·rw [aF (aD z hD)]
    exact sA b o z
   ·rw [az,bc hh,List.filter_append,List.map_append]
    congr 2
    simp at h1
    simp [h1]
  ·refine ⟨_,rfl,sA,?_⟩
   rw [gA,bc hh,List.filter_append,List.map_append]
   congr 1
   simp at h1
   simp [h1]
 rintro σ A ⟨v,rfl,sA,gA⟩
 rw [show hs.take (hs.map V.int).length=hs by rw [List.length_map,List.take_length]] at gA
 have hS1:=sA.seq hS
 clean_wf
 intro D2 hD2
 refine bQ (K:=K) (a:=a) (xs:=hs.map V.int) (fun i σ B=>∃ v,σ=[some (.int l),v]/\Same A B/\B D2=some (.lst (((hs.take i).filter fun h=>decide (h < l)).map V.int))) ⟨none,rfl,aH hD2,az⟩ ?_ ?_ ?_
 ·rintro i σ B _ ⟨_,_,z,_⟩
  exact z.seq hS1
 ·rintro i x σ B hx ⟨v,rfl,sB,gB⟩
  obtain ⟨h,hh,rfl⟩:=jJ hx
  have hi:=(List.getElem?_eq_some_iff.mp hh).1
  have lf:=List.length_filter_le (fun h=>decide (h < l)) (hs.take i)
  have lt:=List.length_take_le i hs
  clean_wf
  refine fJ (fun h1=>?_) fun h1=>?_
  ·clean_wf
   refine ⟨_,gB,by rw [List.length_map]; exact aJ (by omega),_,rfl,fun b o z=>?_,?_⟩
   ·rw [aF (aD z hD2)]
    exact sB b o z
   ·rw [az,bc hh,List.filter_append,List.map_append]
    congr 2
    simp at h1
    simp [h1]
  ·refine ⟨_,rfl,sB,?_⟩
   rw [gB,bc hh,List.filter_append,List.map_append]
   congr 1
   simp at h1
   simp [h1]
 rintro σ B ⟨v,rfl,sB,gB⟩
 rw [show hs.take (hs.map V.int).length=hs by rw [List.length_map,List.take_length]] at gB
 have l1:=List.length_filter_le (fun h=>decide (l<=h)) hs
 have l2:=List.length_filter_le (fun h=>decide (h < l)) hs
 refine JZ (sB _ _ gA) gB (by rw [List.length_map,List.length_map]; omega) fun q B1 hq s1 g1=>?_
 rw [← List.map_append] at g1
 exact kk B1 q (sA.trans (sB.trans s1)) ((sA.trans sB).free hq) g1
def nxo (ns:List Nm) (m:List (Int×Int)):Option Nm:=ns.find? fun p=>!decide (cvd m p)
theorem Hw {m:List (Int×Int)}:∀ {ns:List Nm} {j:Nat},(∀ k (hk:k < ns.length),k < j->cvd m ns[k])->(∀ hj:j < ns.length,¬ cvd m ns[j])->j<=ns.length->nxo ns m=ns[j]?
 | [],j,_,_,_=>by simp [nxo]
 | p :: ns,0,_,h,_=>by
  have:=h (by simp)
  unfold nxo
  rw [List.find?_cons_of_pos (by simpa using this)]
  rfl
 | p :: ns,j + 1,h1,h2,h3=>by
  have hp:=h1 0 (by simp) (by omega)
  have ih:=Hw (m:=m) (ns:=ns) (j:=j) (fun k hk hkj=>h1 (k + 1) (Nat.succ_lt_succ hk) (by omega)) (fun hj=>h2 (Nat.succ_lt_succ hj)) (by simpa using h3)
  unfold nxo at ih ⊢
  rw [List.find?_cons_of_neg (by simpa using hp),ih]
  simp
def frm (hs:List Int):Option Int->List Int
 | none=>hs
 | some l=>frl hs l
def LkC (cs:List (V×Cll)) (a b:Int):Option (V×Cll):=cs.reverse.find? fun q=>decide (q.2.c=a/\q.2.k=b)
inductive Fw (hs:List Int) (L:Int->Int->Option (V×Cll)) (ns:List Nm) (m0:List (Int×Int)):List (V×Cll)->Option Int->List (Int×Int)->Prop
 | start:Fw hs L ns m0 [] none m0
 | step {rw:List (V×Cll)} {last:Option Int} {m:List (Int×Int)} {v:V} {x:Cll}:Fw hs L ns m0 rw last m->fst (frm hs last) L m (nxo ns m)=some (v,x)->Fw hs L ns m0 (rw ++ [(v,x)]) (some x.c) (eY m x.c x.k)
theorem flt {α:Type} {p q:α->Bool}:∀ {l:List α},(∀ a∈l,q a=true->p a=true)->∀ {x:α},x∈l->p x=true->q x=false->(l.filter q).length < (l.filter p).length
 | a :: l,h,x,hx,px,qx=>by
  have hl:(l.filter q).length<=(l.filter p).length:=by
   have:∀ (l':List α),(∀ a∈l',q a=true->p a=true)->(l'.filter q).length<=(l'.filter p).length:=by
    intro l'
    induction l' with
    | nil=>intro _; exact Nat.le_refl _
    | cons b l' ih =>
     intro hb
     have i:=ih fun a ha=>hb a (List.mem_cons_of_mem _ ha)
     have:=hb b List.mem_cons_self
     rw [List.filter_cons,List.filter_cons]
     cases z:q b
     ·cases w:p b <;> simp <;> omega
     ·rw [this z]; simp; omega
   exact this l fun b hb=>h b (List.mem_cons_of_mem _ hb)
  rcases List.mem_cons.mp hx with z | z
  ·rw [← z,List.filter_cons,List.filter_cons,px,qx]
   simp
   omega
  ·have i:=flt (l:=l) (fun b hb=>h b (List.mem_cons_of_mem _ hb)) z px qx
   have ha:=h a List.mem_cons_self
   rw [List.filter_cons,List.filter_cons]
   cases y:q a
   ·cases w:p a <;> simp <;> omega
   ·rw [ha y]; simp; omega
def mz (cs:List Cll) (m:List (Int×Int)):Nat:=(cs.filter fun q=>decide (ct m q.c < q.k)).length
theorem MN {cs:List Cll} {m:List (Int×Int)} {x:Cll} (hx:x∈cs) (hk:x.k=ct m x.c + 1):mz cs (eY m x.c x.k) < mz cs m:=by
 unfold mz
 refine flt (fun q _ h=>?_) hx (decide_eq_true (by omega)) (decide_eq_false ?_)
 ·have h:=of_decide_eq_true h
  rw [lG] at h
  refine decide_eq_true ?_
  by_cases z:q.c=x.c
  ·rw [if_pos z] at h; rw [z]; omega
  ·rw [if_neg z] at h; exact h
 ·rw [lG,if_pos rfl]
  omega
theorem uZ {hs:List Int} {L:Int->Int->Option (V×Cll)} {m:List (Int×Int)} {o:Option Nm} {v:V} {x:Cll} (h:fst hs L m o=some (v,x)):∃ h∈hs,L h (ct m h + 1)=some (v,x)/\tkb m x o=true:=by
 unfold fst at h
 obtain ⟨h',hm,e⟩:=List.exists_of_findSome?_eq_some h
 refine ⟨h',hm,?_⟩
 unfold tk1 at e
 cases z:L h' (ct m h' + 1) with
 | none=>rw [z] at e; cases e
 | some q =>
  rw [z] at e
  have e:(if tkb m q.2 o=true then some q else none)=some (v,x):=e
  by_cases w:tkb m q.2 o=true
  ·rw [if_pos w] at e
   cases e
   exact ⟨rfl,w⟩
  ·rw [if_neg w] at e; cases e
theorem nu {cs:List (V×Cll)} {a b:Int} {q:V×Cll} (h:LkC cs a b=some q):q∈cs/\q.2.c=a/\q.2.k=b:=by
 unfold LkC at h
 have h1:=List.mem_of_find?_eq_some h
 have h2:=List.find?_some h
 have h2:=of_decide_eq_true h2
 exact ⟨List.mem_reverse.mp h1,h2⟩
theorem Lf {k:List Key}:∀ (ps:List (List Key×V)) (acc:List (List Key×V)),fZ (ps.foldl (fun acc p=>putK acc p.1 p.2) acc) k=((ps.reverse.find? fun p=>decide (p.1=k)).map (·.2)).or (fZ acc k):=by
 intro ps
 induction ps with
 | nil=>intro acc; rfl
 | cons p ps ih =>
  intro acc
  rw [List.foldl_cons,ih,List.reverse_cons,List.find?_append]
  cases z:ps.reverse.find? fun p=>decide (p.1=k) with
  | some q=>rfl
  | none =>
   rw [Option.none_or,MP,List.find?_cons]
   by_cases w:k=p.1
   ·rw [if_pos w,decide_eq_true w.symm]
    rfl
   ·rw [if_neg w,decide_eq_false (fun u=>w u.symm)]
    rfl
abbrev Iw (K:PySem.W.Frag) (mg:Str->Option Value) (H:Hp):List V->List Cll->Prop:=Paired (CllA K mg H)
theorem iV {H H':Hp} (s:KpC H H') {vs:List V} {cs:List Cll} (h:Iw K mg H vs cs):Iw K mg H' vs cs:=Paired.mapP h fun _ _ z=>z.up s
def rkp (q:V×Cll):List Key×V:=([Sum.inl q.2.c,Sum.inl q.2.k],q.1)
theorem Q6 (cs:List (V×Cll)) (a b:Int):fZ (pR (cs.map rkp)) [Sum.inl a,Sum.inl b]=(LkC cs a b).map (·.1):=by
 unfold pR
 rw [Lf]
 have e:(fZ ([]:List (List Key×V)) [Sum.inl a,Sum.inl b])=none:=rfl
 rw [e,Option.or_none,← List.map_reverse,List.find?_map,Option.map_map]
 unfold LkC
 have e2:((fun p:List Key×V=>decide (p.1=[Sum.inl a,Sum.inl b])) ∘ rkp)=fun q:V×Cll=>decide (q.2.c=a/\q.2.k=b):=by
  funext q
  show decide (([Sum.inl q.2.c,Sum.inl q.2.k]:List Key)=[Sum.inl a,Sum.inl b])=_
  congr 1
  simp
 rw [e2]
 rfl
theorem R3 {H H':Hp} (s:SmH H H') {xs:List V} {ps:List (List Key×V)} (h:GZ H xs ps):GZ H' xs ps:=Paired.mapP h fun _ _ ⟨a,b,e1,e2,e3⟩=>⟨a,b,e1,s _ _ e2,s _ _ e3⟩
theorem Bm {H:Hp}:∀ {xs:List V} {ps:List (List Key×V)} {x:V} {p:List Key×V},GZ H xs ps->(∃ a b,x=.ref a/\H a=some (.tup [.ref b,p.2])/\H b=some (.tup (p.1.map kV)))->GZ H (xs ++ [x]) (ps ++ [p])
 | _,_,_,_,.nil,h=>.cons h .nil
 | _,_,_,_,.cons r t,h=>.cons r (Bm t h)
theorem Eo {α β:Type}:∀ (l:List α) (m:List β) (i:Nat) {a:α} {b:β},l[i]?=some a->m[i]?=some b->(l.zip m).take (i + 1)=(l.zip m).take i ++ [(a,b)]:=by
 intro l m i a b h1 h2
 exact bc (by rw [List.getElem?_zip_eq_some]; exact ⟨h1,h2⟩)
theorem Ae {m n:List (Int×Int)} {k b:Int} (h:Wi [m,n] k b):b=max (ct m k) (ct n k):=by
 obtain ⟨⟨q,hq,e⟩,u⟩:=h
 have u1:=u m (by simp)
 have u2:=u n (by simp)
 simp at hq
 rcases hq with z | z <;> rw [z] at e <;> omega
theorem sG {α β:Type} {F:α->β->Prop}:∀ {l:List α} {m:List β} {q:α×β},Paired F l m->q∈l.zip m->F q.1 q.2
 | _,_,_,.nil,h=>by simp at h
 | _,_,q,.cons r t,h=>by
  rw [List.zip_cons_cons] at h
  rcases List.mem_cons.mp h with z | z
  ·rw [z]; exact r
  ·exact sG t z
theorem Fg {K:PySem.W.Frag} {H A:Hp} {b:Addr} {xs:List V} (s:∀ o,H b=some o->A b=some o) (h:SqL K H b xs∨SqT K H b xs):SqL K A b xs∨SqT K A b xs:=by
 rcases h with h | h
 ·refine .inl ?_
  rcases h with (h | ⟨z,h⟩) | h
  ·exact .inl (.inl (s _ h))
  ·exact .inl (.inr ⟨z,s _ h⟩)
  ·exact .inr h
 ·refine .inr ?_
  rcases h with (h | ⟨z,h⟩) | h
  ·exact .inl (.inl (s _ h))
  ·exact .inl (.inr ⟨z,s _ h⟩)
  ·exact .inr h
theorem yW {m:List (Int×Int)} {k v:Int} (t:Td m) (k0:0<=k) (k1:k < 63) (hv:0 < v):Td (eY m k v):=by
 refine ⟨t.toCk.put k0 k1 (by omega),fun e he=>?_⟩
 rcases vd _ _ _ _ he with z | z
 ·rw [z]; exact hv
 ·exact t.ps e z
theorem DP {K:PySem.W.Frag} {A:Hp} {Q':VK} {b:Addr} {xs:List V} {ns:List Nm} {m:List (Int×Int)} {j:Nat} (hP:SqL K A b xs∨SqT K A b xs) (hn:Nms A xs ns) (h1:j<=ns.length) (h2:∀ k (hk:k < ns.length),k < j->cvd m ns[k]) (h3:∀ hj:j < ns.length,¬ cvd m ns[j]) (q:∀ y,NaV A y (nxo ns m)->Q' y A):pM K [.ref b,.int j] A Q' E0:=by
 have e:=Hw h2 h3 h1
 refine ⟨b,j,rfl,xs,hP,by omega,fun v hv=>q v ?_,fun hv=>q .non ?_⟩
 ·rw [Int.toNat_natCast] at hv
  obtain ⟨p,hp,na⟩:=hn.get hv
  rw [e,hp]
  exact na
 ·rw [Int.toNat_natCast] at hv
  have:=hn.len
  rw [e,List.getElem?_eq_none (by omega)]
  rfl
def G3 (K:PySem.W.Frag) (mg:Str->Option Value):Sp:=fun vs H Q _=>∃ (d a b:Addr),vs=[.ref d,.ref a,.ref b]/\∃ m ws cs xs ns,Rd H d (.dK (dI m))/\Ck m/\SqL K H a ws/\Iw K mg H ws cs/\cs.length<=60/\(∀ x∈cs,0<=x.c/\x.c < 63)/\(SqL K H b xs∨SqT K H b xs)/\Nms H xs ns /\
 ∀ H' t l r hs m0 rw last m',Same H H'->H l=none->H r=none->H' t=some (.tup [.ref l,.ref r])->H' l=some (.lst ((rw:List (V×Cll)).map (·.1)))->H' r=some (.dK (dI m'))->Td m'->hs.Pairwise (· < ·)->(∀ h,h∈hs↔∃ x∈cs,x.c=h)->Td m0->(∀ k,ct m0 k=ct m k)->Fw hs (LkC (ws.zip cs)) ns m0 rw last m'->fst (frm hs last) (LkC (ws.zip cs)) m' (nxo ns m')=none->Q (.ref t) H'
theorem sc_run:FnScope ["counts","calls","places","reached","ranked","callers","row","at","call"] ["counts","calls","places"] (au Ac):=⟨rfl,rfl,rfl,by decide +kernel,rfl,by decide +kernel,by decide +kernel⟩
theorem VP {f qD jB Bc oR pU rB ao aB aA:Addr} {fd oN iI zb mU oM qi:FuncData} (F:Fun K "run" "run" Ac f fd)
  (zL:FnOk P w K mg base CX0 5 qD oN ["one","other"] (rW K)) (yV:Cal K mg "joined" qD oN ["one","other"])
  (lV:FnOk P w K mg base CX0 5 jB iI ["places","counts","start"] (kj K)) (mq:Cal K mg "first_open" jB iI ["places","counts","start"])
  (Ak:FnOk P w K mg base CX0 5 Bc zb ["places","at"] (pM K)) (Bl:Cal K mg "name_at" Bc zb ["places","at"])
  (vW:FnOk P w K mg base CX0 5 oR mU ["call"] (pq K mg)) (rN:Cal K mg "rank_of" oR mU ["call"])
  (pY:FnOk P w K mg base CX0 5 pU oM ["callers","ranked","counts","name"] (jR K mg)) (pZ:Cal K mg "first_to_take" pU oM ["callers","ranked","counts","name"])
  (zB:FnOk P w K mg base CX0 5 rB qi ["callers","last"] (lg K)) (yD:Cal K mg "callers_from" rB qi ["callers","last"]) (Hn:mg "dict"=none) (Mm:mg "set"=none) (fK:mg "sorted"=none) (aG:TCall K ao) (aQ:TCall K aB) (aP:TCall K aA) (aL:mg "HeardCall"=some (.ref ao)) (aV:mg "OneCall"=some (.ref aB)) (aZ:mg "OwnCall"=some (.ref aA)):FnOk P w K mg base CX0 6 f fd ["counts","calls","places"] (G3 K mg):=by
 refine F.ok sc_run (fun vs H Q E h=>?_) (fun cdv A outer s H vs Q E hr h=>?_)
 ·obtain ⟨d,a,b,rfl,_⟩:=h
  rfl
 obtain ⟨d,a,b,rfl,h⟩:=h
 have hu64:=hr.units
 have hu0:=hr.units0
 have hu:=bD hr
 refine ⟨_,(aj (aM (i:=3) sc_run.nd rfl (Or.inl rfl) (bz zL yV hr (aa (pv 0) (aa mX ak))))
   (aj (aM (i:=4) sc_run.nd rfl (Or.inl rfl) (bT (Gf rfl (Nat.lt_of_le_of_lt (Nat.add_le_add_left (by decide) _) hu64)) (by rfl) Hn PyProof.Rows.boot_dict (aa (cZ ["call"] [none] rfl rfl (by kernel_rfl) (bB (K:=K) rfl (pv 1)) (fun _ _ _ _ _ nd=>aX (i:=0) nd rfl (Or.inl rfl)) (fun _ _ _ _ _=>kh) (fun _ _ _ _ _=>(fu (aa (bz vW rN hr (aa (pv 0) ak)) (aa (pv 0) ak))))) ak)))
   (aj (aM (i:=5) sc_run.nd rfl (Or.inl rfl) (bw (uX rfl) (by rfl) fK PyProof.Rows.boot_sorted (aa (bT (Bh rfl) (by rfl) Mm (show bootBuiltins "set"=some (.type "set") by decide +kernel) (aa (cZ ["call"] [none] rfl rfl (by kernel_rfl) (bB (K:=K) rfl (pv 1)) (fun _ _ _ _ _ nd=>aX (i:=0) nd rfl (Or.inl rfl)) (fun _ _ _ _ _=>kh) (fun _ _ _ _ _=>(dH (K:=K) rfl (pv 0) rfl))) ak)) ak)))
   (aj (aM (i:=6) sc_run.nd rfl (Or.inl rfl) (dR ak))
   (aj (aM (i:=7) sc_run.nd rfl (Or.inl rfl) (bz lV mq hr (aa (pv 2) (aa (pv 3) (aa aq ak)))))
   (aj (aM (i:=8) sc_run.nd rfl (Or.inl rfl) (bz pY pZ hr (aa (pv 5) (aa (pv 4) (aa (pv 3) (aa (bz Ak Bl hr (aa (pv 2) (aa (pv 7) ak))) ak))))))
   (aj (uV PassesOwn.never (bh BW (pv 8) ph (bx _))
   (aj (jy (gH (K:=K) rfl (rA PySem.F.plainAttrs_list PySem.F.slot_list_append PySem.F.type_list_append iC (pv 6) (aa (pv 8) ak))))
   (aj (lU hu (pv 3) (dH (K:=K) rfl (pv 8) rfl) (dH (K:=K) rfl (pv 8) rfl) rfl)
   (aj (aM (i:=7) sc_run.nd rfl (Or.inl rfl) (bz lV mq hr (aa (pv 2) (aa (pv 3) (aa (pv 7) ak)))))
   (aC (aM (i:=8) sc_run.nd rfl (Or.inl rfl) (bz pY pZ hr (aa (bz zB yD hr (aa (pv 5) (aa (dH (K:=K) rfl (pv 8) rfl) ak))) (aa (pv 4) (aa (pv 3) (aa (bz Ak Bl hr (aa (pv 2) (aa (pv 7) ak))) ak)))))))))))
   (aC (aU (fu (aa (pv 6) (aa (pv 3) ak)))))))))))),?_⟩
 obtain ⟨m,ws,cs,xs,ns,hd,cm,hS,hc,lc,rg,hP,hn,kk⟩:=h
 have lw:ws.length=cs.length:=Paired.length hc
 have lx:=hn.len
 clean_wf
 intro e0 H1 he0 s1 g1
 clean_wf
 refine ⟨d,e0,m,[],rfl,cX s1 hd,.inl g1,cm,Ck.nil,fun H2 r m0 s2 hr g2 tm0 mx=>?_⟩
 have ctm0:∀ k,ct m0 k=ct m k:=fun k=>by
  have:=Ae (mx k)
  have c0:=cm.ct k
  have e:ct [] k=0:=rfl
  rw [e] at this
  omega
 have s02:=s1.trans s2
 have hS2:=s02.seq hS
 have hc2:=iV (.same s02) hc
 clean_wf
 intro E hE
 refine bQ (K:=K) (a:=a) (xs:=ws) (fun i σ A=>∃ v ys,σ=[v]/\Same H2 A/\A E=some (.lst ys)/\ys.length=i/\GZ A ys (((ws.zip cs).take i).map rkp)) ⟨none,[],rfl,aH hE,az,rfl,.nil⟩ ?_ ?_ ?_
 ·rintro i σ A _ ⟨_,_,_,z,_⟩
  exact z.seq hS2
 ·rintro i x σ A hx ⟨v,ys,rfl,sA,gE,ly,pr⟩
  obtain ⟨y,hy,cy⟩:=bu hc2 hx
  have hi:=(List.getElem?_eq_some_iff.mp hy).1
  clean_wf
  refine ⟨x,rfl,y,cy.up (.same sA),fun A1 t t1 ht g1'=>?_⟩
  clean_wf
  intro u A2 hu2 t2 g2'
  have gE2:=t2 _ _ (t1 _ _ gE)
  have kp:SmH A2 (upd A2 E (.lst (ys ++ [V.ref u]))):=SmH.lst gE2
  refine ⟨ys,gE2,aJ (by omega),_,ys ++ [.ref u],rfl,fun b' o z=>?_,az,by rw [List.length_append,ly]; rfl,?_⟩
  ·rw [aF (aD z hE)]
   exact t2 _ _ (t1 _ _ (sA b' o z))
  ·rw [Eo ws cs i hx hy,List.map_append]
   exact Bm (R3 (fun a xs z=>kp _ _ (t2 _ _ (t1 _ _ z))) pr) ⟨u,t,rfl,kp _ _ g2',kp _ _ (t2 _ _ g1')⟩
 rintro σ H3 ⟨v,ys,rfl,s3,gE,ly,pr⟩
 rw [show (ws.zip cs).take ws.length=ws.zip cs by rw [List.take_of_length_le]; rw [List.length_zip]; omega] at pr
 refine ⟨E,ys,_,rfl,gE,pr,by have:=Paired.length pr; omega,fun D hD=>?_⟩
 have s4:=aH (o:=.dT (pR ((ws.zip cs).map rkp))) hD
 have gD:(upd H3 D (.dT (pR ((ws.zip cs).map rkp)))) D=some (.dT (pR ((ws.zip cs).map rkp))):=az
 generalize upd H3 D (.dT (pR ((ws.zip cs).map rkp)))=H4 at s4 gD ⊢
 have s24:Same H2 H4:=s3.trans s4
 have hc4:=iV (.same s24) hc2
 have RK:RkA K mg H4 D (LkC (ws.zip cs)):=⟨⟨_,gD,Q6 _⟩,fun a b v x e=>by
  obtain ⟨e1,e2,e3⟩:=nu e
  exact ⟨sG hc4 e1,e2,e3⟩⟩
 have hS4:=s24.seq hS2
 clean_wf
 intro E2 hE2
 refine bQ (K:=K) (a:=a) (xs:=ws) (fun i σ A=>∃ v,σ=[v]/\Same H4 A/\A E2=some (.lst (((cs.take i).map (·.c)).map V.int))) ⟨none,rfl,aH hE2,az⟩ ?_ ?_ ?_
 ·rintro i σ A _ ⟨_,_,z,_⟩
  exact z.seq hS4
 ·rintro i x σ A hx ⟨v,rfl,sA,gA⟩
  obtain ⟨y,hy,cy⟩:=bu hc4 hx
  have hi:=(List.getElem?_eq_some_iff.mp hy).1
  obtain ⟨p,C,dx,t,xs',rfl,hk,hT,hp,_⟩:=cy.up (.same sA)
  obtain ⟨cl,n1,n2,n3,n4,n5⟩:=id hT
  clean_wf
  refine ⟨_,gA,?_,_,rfl,fun b o z=>?_,?_⟩
  ·rw [List.length_map,List.length_map,List.length_take]
   exact aJ (by omega)
  ·rw [aF (aD z hE2)]
   exact sA b o z
  ·rw [az,bc hy,List.map_append,List.map_append]
   rfl
 rintro σ H5 ⟨v,rfl,s5,gE2⟩
 rw [lw,List.take_length] at gE2
 refine ⟨E2,cs.map (·.c),rfl,SqL.of gE2,by rw [List.length_map]; omega,fun q ks hq ndk mk=>?_⟩
 refine ⟨q,ks,rfl,az,ndk,?_,fun cl hs hcl pm so=>?_⟩
 ·exact rm ndk fun k hk=>by
   obtain ⟨x,hx,e⟩:=List.mem_map.mp ((mk k).mp hk)
   rw [← e]
   exact rg x hx
 generalize Qs _ _ q ks=so' at hcl ⊢
 have s56:=aH (o:=so') hq
 have s6:=aH (o:=.lst (hs.map V.int)) hcl
 have g6:(upd (upd H5 q so') cl (.lst (hs.map V.int))) cl=some (.lst (hs.map V.int)):=az
 generalize upd (upd H5 q so') cl (.lst (hs.map V.int))=H6 at s6 g6 ⊢
 generalize upd H5 q so'=H5' at s56 s6 hcl
 have s46:Same H4 H6:=s5.trans (s56.trans s6)
 have hsl:hs.Pairwise (· < ·):=by
  have:=List.pairwise_and_iff.mpr ⟨so,pm.nodup_iff.mpr ndk⟩
  exact this.imp fun h=>by omega
 have hsm:∀ h,h∈hs↔∃ x∈cs,x.c=h:=fun h=>by
  rw [pm.mem_iff,mk h]
  exact List.mem_map
 have lhs:hs.length<=400:=by
  have:hs.length < 64:=rm (pm.nodup_iff.mpr ndk) fun k hk=>by
   obtain ⟨x,hx,e⟩:=(hsm k).mp hk
   rw [← e]
   exact rg x hx
  omega
 clean_wf
 intro l H7 hl s7 g7
 have s27:Same H2 H7:=s24.trans (s46.trans s7)
 have s07:=s02.trans s27
 have gr7:=s27 _ _ g2
 have hP7:SqL K H7 b xs∨SqT K H7 b xs:=Fg (fun o e=>s07 _ _ e) hP
 have hn7:Nms H7 xs ns:=hn.up (.same s07)
 have gc7:=s7 _ _ g6
 have RK7:=RK.same (s46.trans s7)
 have nlr:l≠r:=fun z=>by rw [z,(s24.trans s46) _ _ g2] at hl; cases hl
 have ncl:cl≠l:=fun z=>by rw [← z,g6] at hl; cases hl
 clean_wf
 refine ⟨b,r,0,rfl,xs,m0,ns,hP7,.inl gr7,hn7,Nat.zero_le _,fun k _ h=>absurd h (Nat.not_lt_zero _),fun j j1 j2 j3=>?_⟩
 clean_wf
 refine DP hP7 hn7 j1 j2 j3 fun y hy=>?_
 clean_wf
 refine ⟨cl,D,r,y,rfl,hs,_,m0,nxo ns m0,SqL.of gc7,RK7,.inl gr7,tm0.toCk,hy,fun H8 s8=>?_⟩
 have hl8:=s8 _ _ g7
 have gr8:=s8 _ _ gr7
 have gc8:=s8 _ _ gc7
 have RK8:=RK7.same s8
 have hP8:SqL K H8 b xs∨SqT K H8 b xs:=Fg (fun o e=>s8 _ _ e) hP7
 have hn8:Nms H8 xs ns:=hn7.up (.same s8)
 have s08:=s07.trans s8
 have frl:H l=none:=(s02.trans (s24.trans s46)).free hl
 have frr:H r=none:=s1.free hr
 have bl:∀ o,H8 b=some o->(SqL K H b xs∨SqT K H b xs)->True:=fun _ _ _=>trivial
 clean_wf
 refine ⟨fun M σ A=>∃ rw last mm j,M=mz cs mm/\σ=[some (.ref d),some (.ref a),some (.ref b),some (.ref r),some (.ref D),some (.ref cl),some (.ref l),some (.int (j:Nat)),some (fsv (fst (frm hs last) (LkC (ws.zip cs)) mm (nxo ns mm)))]/\(∀ x o,H8 x=some o->x≠l->x≠r->A x=some o)/\A l=some (.lst ((rw:List (V×Cll)).map (·.1)))/\A r=some (.dK (dI mm))/\Td mm/\Fw hs (LkC (ws.zip cs)) ns m0 rw last mm/\j<=ns.length/\(∀ k (hk:k < ns.length),k < j->cvd mm ns[k])/\rw.length + mz cs mm<=60,⟨_,[],none,m0,j,rfl,rfl,fun x o e _ _=>e,hl8,gr8,tm0,.start,j1,j2,?_⟩,?_⟩
 ·have:=List.length_filter_le (fun q:Cll=>decide (ct m0 q.c < q.k)) cs
  unfold mz
  rw [List.length_nil]
  omega
 rintro M σ A ⟨rw',last,mm,j',rfl,rfl,kA,gl,gr,tmm,fw,q1,q2,q3⟩
 have nbl:∀ {x:Addr} {o:HO},H8 x=some o->(∀ ys,o≠.lst ys)->(∀ kvs,o≠.dK kvs)->A x=some o:=fun e n1 n2=>kA _ _ e (fun z=>by rw [z,hl8] at e; cases e; exact n1 _ rfl) (fun z=>by rw [z,gr8] at e; cases e; exact n2 _ rfl)
 have kpc:KpC H8 A:=⟨fun p C dx fs e=>nbl e (by intro _ z; cases z) (by intro _ z; cases z),fun a xs e=>nbl e (by intro _ z; cases z) (by intro _ z; cases z)⟩
 have hPA:SqL K A b xs∨SqT K A b xs:=by
  refine Fg (fun o e=>?_) hP
  exact kA _ _ (s08 _ _ e) (fun z=>by rw [z,frl] at e; cases e) (fun z=>by rw [z,frr] at e; cases e)
 have hnA:Nms A xs ns:=hn8.up kpc.2
 have gcA:=kA _ _ gc8 ncl (fun z=>by rw [z,gr8] at gc8; cases gc8)
 have RKA:RkA K mg A D (LkC (ws.zip cs)):=by
  obtain ⟨⟨kvs,e1,e2⟩,e3⟩:=RK8
  exact ⟨⟨kvs,nbl e1 (by intro _ z; cases z) (by intro _ z; cases z),e2⟩,fun a b v x e=>⟨(e3 a b v x e).1.up kpc,(e3 a b v x e).2⟩⟩
 cases z:fst (frm hs last) (LkC (ws.zip cs)) mm (nxo ns mm) with
 | none =>
  clean_wf
  rw [show decide (fsv none=V.non)=true from decide_eq_true rfl]
  clean_wf
  intro t A1 ht s9 g9
  refine kk A1 t l r hs m0 rw' last mm (fun x o e=>s9 _ _ (kA _ _ (s08 _ _ e) (fun z=>by rw [z,frl] at e; cases e) (fun z=>by rw [z,frr] at e; cases e))) frl frr g9 (s9 _ _ gl) (s9 _ _ gr) tmm hsl hsm tm0 ctm0 fw z
 | some q =>
  obtain ⟨v,x⟩:=q
  obtain ⟨hh,hhm,eL,tk⟩:=uZ z
  obtain ⟨cx,ec,ek⟩:=RKA.cl _ _ _ _ eL
  obtain ⟨p,C,dx,t,xs',rfl,hk,hT,hp,ht,hpx,hcs⟩:=id cx
  obtain ⟨cl',n1,n2,n3,n4,n5⟩:=id hT
  have xm:x∈cs:=by
   have:=(nu eL).1
   exact (List.of_mem_zip this).2
  have xr:=rg x xm
  have ek':x.k=ct mm x.c + 1:=by rw [ek,ec]
  have kp0:0 < x.k:=by have:=tmm.toCk.ct x.c; omega
  have ml:=MN xm ek'
  rw [show fsv (some (V.ref p,x))=V.ref p from rfl]
  clean_wf
  rw [show decide (V.ref p=V.non)=false from decide_eq_false (by intro z; cases z)]
  refine fJ (fun _=>?_) fun z=>absurd rfl z
  refine ⟨_,fun _ _ z=>z,?_⟩
  have ls:(rw'.map (·.1)).length < sizeLine:=aJ (by rw [List.length_map]; omega)
  clean_wf
  intro A1 b1 g1'
  have hp1:=b1.of gl hp (by intro z; cases z)
  have gr1:=b1.at nlr.symm gr
  have nd:=tmm.nd
  have lm:=tmm.toCk.len
  clean_wf
  intro A2 b2 g2'
  have fr2:∀ x o,H8 x=some o->x≠l->x≠r->A2 x=some o:=fun x o e n1 n2=>b2.at n2 (b1.at n1 (kA x o e n1 n2))
  have nbl2:∀ {x:Addr} {o:HO},A x=some o->(∀ ys,o≠.lst ys)->(∀ kvs,o≠.dK kvs)->A2 x=some o:=fun e n1 n2=>b2.at (fun z=>by rw [z,gr] at e; cases e; exact n2 _ rfl) (b1.at (fun z=>by rw [z,gl] at e; cases e; exact n1 _ rfl) e)
  have kpc2:KpC A A2:=⟨fun p C dx fs e=>nbl2 e (by intro _ z; cases z) (by intro _ z; cases z),fun a xs e=>nbl2 e (by intro _ z; cases z) (by intro _ z; cases z)⟩
  have hPA2:SqL K A2 b xs∨SqT K A2 b xs:=by
   refine Fg (fun o e=>?_) hP
   exact fr2 _ _ (s08 _ _ e) (fun z=>by rw [z,frl] at e; cases e) (fun z=>by rw [z,frr] at e; cases e)
  have hnA2:Nms A2 xs ns:=hnA.up kpc2.2
  have gcA2:=fr2 _ _ gc8 ncl (fun z=>by rw [z,gr8] at gc8; cases gc8)
  have hp2:=kpc2.1 _ _ _ _ hp
  have RKA2:RkA K mg A2 D (LkC (ws.zip cs)):=by
   obtain ⟨⟨kvs,e1,e2⟩,e3⟩:=RKA
   exact ⟨⟨kvs,nbl2 e1 (by intro _ z; cases z) (by intro _ z; cases z),e2⟩,fun a b v x e=>⟨(e3 a b v x e).1.up kpc2,(e3 a b v x e).2⟩⟩
  have tm2:=yW tmm xr.1 xr.2 kp0
  have mono:∀ k,ct mm k<=ct (eY mm x.c x.k) k:=fun k=>by
   rw [lG]
   by_cases w:k=x.c
   ·rw [if_pos w,w]; omega
   ·rw [if_neg w]; exact Int.le_refl _
  clean_wf
  refine ⟨b,r,j',rfl,xs,eY mm x.c x.k,ns,hPA2,.inl g2',hnA2,q1,fun k hk h=>Int.le_trans (q2 k hk h) (mono _),fun j2 a1 a2 a3=>?_⟩
  clean_wf
  refine ⟨cl,x.c,rfl,hs,SqL.of gcA2,lhs,fun A3 cf s3' hcf g3'=>?_⟩
  clean_wf
  refine DP (Fg (fun o e=>s3' _ _ e) hPA2) (hnA2.up (.same s3')) a1 a2 a3 fun y hy=>?_
  clean_wf
  refine ⟨cf,D,r,y,rfl,_,_,eY mm x.c x.k,nxo ns (eY mm x.c x.k),SqL.of g3',RKA2.same s3',.inl (s3' _ _ g2'),tm2.toCk,hy,fun A4 s4'=>?_⟩
  refine ⟨mz cs (eY mm x.c x.k),ml,rw' ++ [(.ref p,x)],some x.c,eY mm x.c x.k,j2,rfl,rfl,fun x o e n1 n2=>s4' _ _ (s3' _ _ (fr2 x o e n1 n2)),?_,s4' _ _ (s3' _ _ g2'),tm2,.step fw z,a1,a2,?_⟩
  ·rw [List.map_append]
   exact s4' _ _ (s3' _ _ (b2.at nlr g1'))
  ·rw [List.length_append]
   show rw'.length + 1 + _<=60
   omega
def jL (m:List (Int×Int)) (x:Cll):Bool:=decide (x.kd="one") && frb m x
def LaR (zs:List (V×Cll)) (m:List (Int×Int)):Option (V×Cll)->Prop
 | none=>∀ q∈zs,jL m q.2=false
 | some q=>q∈zs/\jL m q.2=true/\∀ q'∈zs,jL m q'.2=true->HT.lexLt [q'.2.c,q'.2.k] [q.2.c,q.2.k]=false
def lO (K:PySem.W.Frag) (mg:Str->Option Value):Sp:=fun vs H Q _=>∃ (a d:Addr),vs=[.ref a,.ref d]/\∃ ws cs m,SqL K H a ws/\Iw K mg H ws cs/\cs.length<=60/\Rd H d (.dK (dI m))/\Ck m/\∀ H' o,Same H H'->LaR (ws.zip cs) m o->Q (fsv o) H'
theorem w6:FnScope ["calls","counts"] ["calls","counts"] (au dX):=⟨rfl,rfl,rfl,by decide +kernel,rfl,by decide +kernel,by decide +kernel⟩
theorem xu {f kW cC bZ cF oR ao aB aA:Addr} {fd jF dw cQ cu mU:FuncData} (F:Fun K "least_asking" "least_asking" dX f fd)
  (qK:FnOk P w K mg base CX0 3 kW jF ["self","counts"] (lZ K mg)) (qU:Binds K jF ["self","counts"] [])
  (eN:FnOk P w K mg base CX0 3 cC dw ["self","counts"] (f9 K mg)) (d9:Binds K dw ["self","counts"] [])
  (dF:FnOk P w K mg base CX0 3 bZ cQ ["self"] (fj K)) (du:Binds K cQ ["self"] [])
  (gK:FnOk P w K mg base CX0 3 cF cu ["self"] (cW K)) (gU:Binds K cu ["self"] [])
  (vW:FnOk P w K mg base CX0 2 oR mU ["call"] (pq K mg)) (rN:Cal K mg "rank_of" oR mU ["call"]) (Ww:mg "min"=none) (aG:TCall K ao) (aQ:TCall K aB) (aP:TCall K aA) (aL:mg "HeardCall"=some (.ref ao)) (aV:mg "OneCall"=some (.ref aB)) (aZ:mg "OwnCall"=some (.ref aA)) (bK:Meth K ao "asks_place" bZ) (cH:Meth K ao "free" cC) (bO:Meth K aB "asks_place" cF) (dq:Meth K aB "free" cC) (bR:Meth K aA "asks_place" bZ) (dg:Meth K aA "free" kW):FnOk P w K mg base CX0 4 f fd ["calls","counts"] (lO K mg):=by
 refine F.ok w6 (fun vs H Q E h=>?_) (fun cdv A outer s H vs Q E hr h=>?_)
 ·obtain ⟨a,d,rfl,_⟩:=h
  rfl
 obtain ⟨a,d,rfl,h⟩:=h
 have hu64:=hr.units
 have hu0:=hr.units0
 have hu:=bD hr
 refine ⟨_,(aC (aU (KR (K:=K) rfl rfl (Nat.lt_of_le_of_lt (Nat.add_le_add_left (by decide) _) hu64) (aa (cZ ["counts","call"] [some 1,none] rfl rfl (by kernel_rfl) (bB (K:=K) rfl (pv 0)) (fun _ _ _ _ _ nd=>aX (i:=1) nd rfl (Or.inl rfl)) (fun _ _ _ _ _=>(jn (PW.pt (yf (fH K rfl (fY (MOk.cons aP.cl bR dF du (MOk.cons aG.cl bK dF du (MOk.cons aQ.cl bO gK gU MOk.nil))) (pv 1) hr)) (vf (fH K rfl (ux (MOk.cons aP.cl dg qK qU (MOk.cons aG.cl cH eN d9 (MOk.cons aQ.cl dq eN d9 MOk.nil))) (pv 1) hr (aa (pv 0) ak)))))))) (fun _ _ _ _ _=>(pv 1))) ak) ph (by rfl) Ww vW rN.mg rN.bd (by rfl) hr))),?_⟩
 obtain ⟨ws,cs,m,hS,hc,lc,hd,cm,kk⟩:=h
 have lw:ws.length=cs.length:=Paired.length hc
 clean_wf
 intro E hE
 refine bQ (K:=K) (a:=a) (xs:=ws) (fun i σ A=>∃ v zs,σ=[some (.ref d),v]/\Same H A/\A E=some (.lst ((zs:List (V×Cll)).map (·.1)))/\zs=((ws.zip cs).take i).filter fun q=>jL m q.2) ⟨none,[],rfl,aH hE,az,rfl⟩ ?_ ?_ ?_
 ·rintro i σ A _ ⟨_,_,_,z,_⟩
  exact z.seq hS
 ·rintro i v σ A hx ⟨v0,zs,rfl,sA,gE,ez⟩
  obtain ⟨x,hy,cy⟩:=bu hc hx
  have hi:=(List.getElem?_eq_some_iff.mp hy).1
  have tk:=Eo ws cs i hx hy
  have lz:zs.length<=i:=by
   rw [ez]
   exact Nat.le_trans (List.length_filter_le _ _) (List.length_take_le _ _)
  have hdA:=cX sA hd
  have yes:jL m x=true->zs ++ [(v,x)]=((ws.zip cs).take (i + 1)).filter fun q=>jL m q.2:=fun w=>by
   rw [tk,List.filter_append,← ez]
   simp [w]
  have no:jL m x=false->zs=((ws.zip cs).take (i + 1)).filter fun q=>jL m q.2:=fun w=>by
   rw [tk,List.filter_append,← ez]
   simp [w]
  obtain ⟨p,C,dx,t,xs',rfl,hk,hT,hp,ht,hpx,hcs⟩:=cy.up (.same sA)
  obtain ⟨kd,n,c,k,w,css⟩:=x
  have hk:KdC mg kd C:=hk
  have hp:A p=some (.ins C dx (cfl (.int n) (.int c) (.int k) (.int w) (.ref t))):=hp
  have hpx:Prs A xs' css:=hpx
  have hcs:Ck css:=hcs
  rcases hk with ⟨rfl,e⟩ | ⟨rfl,e⟩ | ⟨rfl,e⟩
  ·rw [aZ] at e
   cases e
   clean_wf
   refine ⟨p,rfl,?_⟩
   clean_wf
   exact ⟨_,zs,rfl,sA,gE,no (by unfold jL; rw [Tw]; rfl)⟩
  ·rw [aL] at e
   cases e
   clean_wf
   refine ⟨p,rfl,?_⟩
   clean_wf
   exact ⟨_,zs,rfl,sA,gE,no (by unfold jL; rw [Sx]; rfl)⟩
  ·have ev:jL m ⟨"one",n,c,k,w,css⟩=(decide (ct m c=k - 1) && cov m (iB css)):=by
    unfold jL frb
    rw [Np,Tn]
    simp
   rw [aV] at e
   cases e
   clean_wf
   refine ⟨p,rfl,?_⟩
   clean_wf
   refine ⟨p,d,rfl,_,dx,m,_,c,k,_,t,xs',css,.inr aV,hp,hdA,ht,hpx,cm,hcs,fun A1 s1=>?_⟩
   clean_wf
   refine fJ (fun h1=>?_) fun h1=>?_
   ·have gE1:=s1 _ _ gE
    clean_wf
    refine ⟨_,gE1,by rw [List.length_map]; exact aJ (by omega),_,zs ++ [(.ref p,⟨"one",n,c,k,w,css⟩)],rfl,fun b o z=>?_,by rw [az,List.map_append]; rfl,yes (by rw [ev]; exact h1)⟩
    rw [aF (aD z hE)]
    exact s1 _ _ (sA b o z)
   ·exact ⟨_,zs,rfl,sA.trans s1,s1 _ _ gE,no (by rw [ev]; exact Bool.eq_false_iff.mpr h1)⟩
 rintro σ A ⟨v,zs,rfl,sA,gE,ez⟩
 rw [show (ws.zip cs).take ws.length=ws.zip cs by rw [List.take_of_length_le]; rw [List.length_zip]; omega] at ez
 have hcA:=iV (.same sA) hc
 have zin:∀ q∈zs,q∈ws.zip cs/\jL m q.2=true:=fun q hq=>by
  rw [ez] at hq
  exact List.mem_filter.mp hq
 have zat:∀ {i:Nat} {v:V},(zs.map (·.1))[i]?=some v->∃ q,zs[i]?=some q/\q.1=v:=fun {i v} h=>by
  rw [List.getElem?_map] at h
  cases w:zs[i]? with
  | none=>rw [w] at h; cases h
  | some q=>rw [w] at h; exact ⟨q,rfl,Option.some.inj h⟩
 clean_wf
 refine ⟨E,zs.map (·.1),zs.map (fun q=>[q.2.c,q.2.k]),rfl,SqL.of gE,by rw [List.length_map,List.length_map],fun v hv=>?_,fun i v k H3 Q' hv hk s3 hq=>?_,fun e=>?_,fun i v kb H' hv hkb best s'=>?_⟩
 ·obtain ⟨q,hq,rfl⟩:=List.mem_map.mp hv
  obtain ⟨p,_,_,_,_,e,_⟩:=sG hcA (zin q hq).1
  exact ⟨p,e⟩
 ·obtain ⟨q,hq2,rfl⟩:=zat hv
  rw [List.getElem?_map,hq2] at hk
  cases hk
  have cq:=(sG hcA (zin q (List.mem_of_getElem? hq2)).1).up (.same s3)
  exact ⟨q.1,rfl,q.2,cq,fun H4 t s4 _ g4=>hq H4 t s4 (SqT.of g4)⟩
 ·refine kk A none sA fun q hq=>?_
  have e0:zs=[]:=List.map_eq_nil_iff.mp e
  rw [ez] at e0
  have:=List.filter_eq_nil_iff.mp e0 q hq
  exact Bool.eq_false_iff.mpr this
 ·obtain ⟨q,hq2,rfl⟩:=zat hv
  rw [List.getElem?_map,hq2] at hkb
  cases hkb
  obtain ⟨z1,z2⟩:=zin q (List.mem_of_getElem? hq2)
  refine kk H' (some q) (sA.trans s') ⟨z1,z2,fun q' hq' ha=>?_⟩
  have:q'∈zs:=by rw [ez]; exact List.mem_filter.mpr ⟨hq',ha⟩
  obtain ⟨j',hj'⟩:=List.getElem?_of_mem this
  exact (best j' [q'.2.c,q'.2.k] (by rw [List.getElem?_map,hj']; rfl)).1
end
end K53
namespace K53
open PySem L2
abbrev oH:Stmt:=top 34
section
variable {P:Program} {w:World} {K:PySem.W.Frag} {mg:Str->Option Value} {base:Heap}
def Rk1 (zs:List (V×Cll)):Prop:=∀ q∈zs,∀ r∈zs,q.2.c=r.2.c->q.2.k=r.2.k->q=r
theorem Cg {zs:List (V×Cll)} (u:Rk1 zs) {q:V×Cll} (h:q∈zs):LkC zs q.2.c q.2.k=some q:=by
 cases z:LkC zs q.2.c q.2.k with
 | none =>
  unfold LkC at z
  have:=List.find?_eq_none.mp z q (List.mem_reverse.mpr h)
  exact absurd (decide_eq_true ⟨rfl,rfl⟩) this
 | some r =>
  obtain ⟨e1,e2,e3⟩:=nu z
  rw [u r e1 q h e2 e3]
theorem Oj {cs:List Cll} {m m':List (Int×Int)} (h:∀ k,ct m k=ct m' k):mz cs m=mz cs m':=by
 unfold mz
 congr 1
 refine congrArg (fun f=>cs.filter f) ?_
 funext q
 rw [h]
theorem XX {hs:List Int} {ws:List V} {cs:List Cll} {ns:List Nm} {m0:List (Int×Int)} {rw:List (V×Cll)} {last:Option Int} {m:List (Int×Int)} (h:Fw hs (LkC (ws.zip cs)) ns m0 rw last m):rw.length + mz cs m<=mz cs m0:=by
 induction h with
 | start=>rw [List.length_nil]; omega
 | step f e ih =>
  obtain ⟨h,_,e1,_⟩:=uZ e
  obtain ⟨e2,e3,e4⟩:=nu e1
  have:=MN (List.of_mem_zip e2).2 (by rw [e3]; exact e4)
  rw [List.length_append,List.length_singleton]
  omega
theorem QH {hs:List Int} {L:Int->Int->Option (V×Cll)} {ns:List Nm} {m0:List (Int×Int)} {rw:List (V×Cll)} {last:Option Int} {m:List (Int×Int)} (h:Fw hs L ns m0 rw last m) (e:fst (frm hs last) L m (nxo ns m)=none) (n:fst hs L m0 (nxo ns m0)≠none):0 < rw.length:=by
 cases h with
 | start=>exact absurd e n
 | step=>rw [List.length_append,List.length_singleton]; omega
theorem vD {m:List (Int×Int)} {x:Cll} (h:jL m x=true):x.kd="one"/\ct m x.c=x.k - 1:=by
 unfold jL frb at h
 simp at h
 exact ⟨h.1,h.2.1⟩
theorem GR {m:List (Int×Int)} {x:Cll} (h:jL m x=true):tkb m x (some (x.n,x.c,x.k))=true:=by
 unfold jL at h
 unfold tkb
 simp at h ⊢
 exact h.2
theorem R6 {hs:List Int} {zs:List (V×Cll)} (u:Rk1 zs) {m:List (Int×Int)} {q:V×Cll} (h:q∈zs) (ha:jL m q.2=true) (hh:q.2.c∈hs):fst hs (LkC zs) m (some (q.2.n,q.2.c,q.2.k))≠none:=by
 intro z
 unfold fst at z
 have:=List.findSome?_eq_none_iff.mp z _ hh
 unfold tk1 at this
 rw [show ct m q.2.c + 1=q.2.k by have:=(vD ha).2; omega,Cg u h] at this
 have this:(if tkb m q.2 (some (q.2.n,q.2.c,q.2.k))=true then some q else none)=none:=this
 rw [if_pos (GR ha)] at this
 cases this
theorem J2 {m:List (Int×Int)} {ns:List Nm} {j:Nat} {p:Nm} (h1:∀ k (hk:k < ns.length),k < j->cvd m ns[k]) (h2:j<=ns.length) (h3:¬ cvd m p):nxo (ns.take j ++ [p]) m=some p:=by
 unfold nxo
 rw [List.find?_append]
 have:(ns.take j).find? (fun p=>!decide (cvd m p))=none:=by
  rw [List.find?_eq_none]
  intro q hq
  obtain ⟨k,hk⟩:=List.getElem?_of_mem hq
  rw [List.getElem?_take] at hk
  by_cases w:k < j
  ·rw [if_pos w] at hk
   obtain ⟨w2,e⟩:=List.getElem?_eq_some_iff.mp hk
   have:=h1 k w2 w
   rw [e] at this
   simp [this]
  ·rw [if_neg w] at hk; cases hk
 rw [this,Option.none_or,List.find?_cons_of_pos (by simpa using h3)]
theorem uP {m m':List (Int×Int)} (h:∀ k,ct m k=ct m' k) (x:Cll):jL m x=jL m' x:=by
 unfold jL frb cov
 simp only [h]
def HsO (cs:List Cll) (hs:List Int):Prop:=hs.Pairwise (· < ·)/\∀ h,h∈hs↔∃ x∈cs,x.c=h
def Rn (ws:List V) (cs:List Cll) (m:List (Int×Int)) (ns:List Nm) (rw:List (V×Cll)) (m':List (Int×Int)):Prop:=∃ hs m0 last,HsO cs hs/\Td m0/\(∀ k,ct m0 k=ct m k)/\Fw hs (LkC (ws.zip cs)) ns m0 rw last m'/\fst (frm hs last) (LkC (ws.zip cs)) m' (nxo ns m')=none
def Fo (ns:List Nm) (m:List (Int×Int)) (j:Nat):Prop:=j<=ns.length/\(∀ k (hk:k < ns.length),k < j->cvd m ns[k])/\∀ hj:j < ns.length,¬ cvd m ns[j]
inductive Pw (ws:List V) (cs:List Cll) (m:List (Int×Int)) (ns:List Nm):List (V×Cll)->List Nm->List (Int×Int)->Prop
 | start {rw:List (V×Cll)} {m':List (Int×Int)}:Rn ws cs m ns rw m'->Pw ws cs m ns rw ns m'
 | step {row rw:List (V×Cll)} {gs:List Nm} {m1 m2:List (Int×Int)} {q:V×Cll} {j:Nat}:Pw ws cs m ns row gs m1->LaR (ws.zip cs) m1 (some q)->Fo gs m1 j->Rn ws cs m1 (gs.take j ++ [(q.2.n,q.2.c,q.2.k)]) rw m2->Pw ws cs m ns (row ++ rw) (gs.take j ++ [(q.2.n,q.2.c,q.2.k)]) m2
theorem Tr {ws:List V} {cs:List Cll} {m:List (Int×Int)} {ns:List Nm} {rw:List (V×Cll)} {m':List (Int×Int)} (h:Rn ws cs m ns rw m'):rw.length + mz cs m'<=mz cs m:=by
 obtain ⟨hs,m0,last,_,_,e,f,_⟩:=h
 have:=XX f
 rw [Oj e] at this
 exact this
theorem JQ {ws:List V} {cs:List Cll} {m:List (Int×Int)} {gs:List Nm} {rw:List (V×Cll)} {m':List (Int×Int)} {q:V×Cll} {j:Nat} (u:Rk1 (ws.zip cs)) (la:LaR (ws.zip cs) m (some q)) (fo:Fo gs m j) (h:Rn ws cs m (gs.take j ++ [(q.2.n,q.2.c,q.2.k)]) rw m'):0 < rw.length:=by
 obtain ⟨hs,m0,last,⟨_,hm⟩,_,e,f,g⟩:=h
 obtain ⟨l1,l2,_⟩:=la
 have a0:jL m0 q.2=true:=by rw [uP e]; exact l2
 have qh:q.2.c∈hs:=(hm _).mpr ⟨q.2,(List.of_mem_zip l1).2,rfl⟩
 refine QH f g ?_
 rw [J2 (fun k hk hj=>?_) fo.1 ?_]
 ·exact R6 u l1 a0 qh
 ·show ¬ (q.2.k<=ct m0 q.2.c)
  have:=(vD a0).2
  omega
 ·show _<=ct m0 _
  rw [e]
  exact fo.2.1 k hk hj
theorem yc (xs:List V) (k:Nat) (h:k<=xs.length):dz xs none (some (k:Int))=xs.take k:=by
 unfold dz
 have e1:HT.sIx xs.length 0 none=0:=rfl
 have e2:HT.sIx xs.length xs.length (some (k:Int))=k:=by
  show (if (k:Int) < 0 then ((k:Int) + (xs.length:Nat)).toNat else min (k:Int).toNat xs.length)=k
  rw [if_neg (by omega),Int.toNat_natCast]
  omega
 rw [e1,e2,List.drop_zero,Nat.sub_zero]
theorem oJ {H:Hp}:∀ {xs:List V} {ns:List Nm} (k:Nat),Nms H xs ns->Nms H (xs.take k) (ns.take k)
 | _,_,0,_=>.nil
 | _,_,k + 1,.nil=>.nil
 | _,_,k + 1,.cons r t=>.cons r (oJ k t)
theorem WW:decide (("one":Str)="heard")=false:=by decide +kernel
def vK (K:PySem.W.Frag) (mg:Str->Option Value):Sp:=fun vs H Q _=>∃ (d a b:Addr),vs=[.ref d,.ref a,.ref b]/\∃ m ws cs xs ns,Rd H d (.dK (dI m))/\Ck m/\SqL K H a ws/\Iw K mg H ws cs/\cs.length<=60/\Rk1 (ws.zip cs)/\(∀ x∈cs,0<=x.c/\x.c < 63)/\(SqL K H b xs∨SqT K H b xs)/\Nms H xs ns/\ns.length<=300 /\
 ∀ H' t l g rw ys gs m',Same H H'->H l=none->H g=none->H' t=some (.tup [.ref l,.ref g])->H' l=some (.lst ((rw:List (V×Cll)).map (·.1)))->H' g=some (.lst ys)->Nms H' ys gs->Pw ws cs m ns rw gs m'->LaR (ws.zip cs) m' none->Q (.ref t) H'
theorem sc_placed:FnScope ["counts","calls","places","given","told","row","call"] ["counts","calls","places"] (au oH):=⟨rfl,rfl,rfl,by decide +kernel,rfl,by decide +kernel,by decide +kernel⟩
theorem J9 {f jB bN SQ q8 ao aB aA:Addr} {fd iI dC Mj qb:FuncData} (F:Fun K "placed" "placed" oH f fd)
  (lV:FnOk P w K mg base CX0 6 jB iI ["places","counts","start"] (kj K)) (mq:Cal K mg "first_open" jB iI ["places","counts","start"])
  (bC:FnOk P w K mg base CX0 6 bN dC ["self"] (jq K)) (bF:Binds K dC ["self"] [])
  (SX:FnOk P w K mg base CX0 6 SQ Mj ["counts","calls","places"] (G3 K mg)) (SM:Cal K mg "run" SQ Mj ["counts","calls","places"])
  (qC:FnOk P w K mg base CX0 6 q8 qb ["calls","counts"] (lO K mg)) (qu:Cal K mg "least_asking" q8 qb ["calls","counts"]) (jT:mg "list"=none) (aG:TCall K ao) (aQ:TCall K aB) (aP:TCall K aA) (aL:mg "HeardCall"=some (.ref ao)) (aV:mg "OneCall"=some (.ref aB)) (aZ:mg "OwnCall"=some (.ref aA)) (bA:Meth K ao "name" bN) (bH:Meth K aB "name" bN) (bG:Meth K aA "name" bN):FnOk P w K mg base CX0 7 f fd ["counts","calls","places"] (vK K mg):=by
 refine F.ok sc_placed (fun vs H Q E h=>?_) (fun cdv A outer s H vs Q E hr h=>?_)
 ·obtain ⟨d,a,b,rfl,_⟩:=h
  rfl
 obtain ⟨d,a,b,rfl,h⟩:=h
 have hu64:=hr.units
 have hu0:=hr.units0
 have hu:=bD hr
 refine ⟨_,(aj (aM (i:=3) sc_placed.nd rfl (Or.inl rfl) (bT (pN (K:=K) rfl) (by rfl) jT PyProof.Rows.boot_list (aa (pv 2) ak)))
   (aj (aM (i:=4) sc_placed.nd rfl (Or.inl rfl) (bz SX SM hr (aa (pv 0) (aa (pv 1) (aa (pv 3) ak)))))
   (aj (aM (i:=5) sc_placed.nd rfl (Or.inl rfl) (aW (aY (K:=K) rfl) (pv 4) aq (fun _ _=>rfl)))
   (aj (aM (i:=6) sc_placed.nd rfl (Or.inl rfl) (bz qC qu hr (aa (pv 1) (aa (aW (aY (K:=K) rfl) (pv 4) aq (fun _ _=>rfl)) ak))))
   (aj (uV PassesOwn.never (bh BW (pv 6) ph (bx _))
   (aj (aM (i:=3) sc_placed.nd rfl (Or.inl rfl) (aR Cp (cR (kE (K:=K) rfl) (pv 3) iM (cY (bz lV mq hr (aa (pv 3) (aa (aW (aY (K:=K) rfl) (pv 4) aq (fun _ _=>rfl)) (aa aq ak)))))) (dR (aa (fY (MOk.cons aP.cl bG bC bF (MOk.cons aG.cl bA bC bF (MOk.cons aQ.cl bH bC bF MOk.nil))) (pv 6) hr) ak))))
   (aj (aM (i:=4) sc_placed.nd rfl (Or.inl rfl) (bz SX SM hr (aa (aW (aY (K:=K) rfl) (pv 4) aq (fun _ _=>rfl)) (aa (pv 1) (aa (pv 3) ak)))))
   (aj (aM (i:=5) sc_placed.nd rfl (Or.inl rfl) (aR Cp (pv 5) (aW (aY (K:=K) rfl) (pv 4) aq (fun _ _=>rfl))))
   (aC (aM (i:=6) sc_placed.nd rfl (Or.inl rfl) (bz qC qu hr (aa (pv 1) (aa (aW (aY (K:=K) rfl) (pv 4) aq (fun _ _=>rfl)) ak)))))))))
   (aC (aU (fu (aa (pv 5) (aa (pv 3) ak)))))))))),?_⟩
 obtain ⟨m,ws,cs,xs,ns,hd,cm,hS,hc,lc,u,rg,hP,hn,ln,kk⟩:=h
 have lw:ws.length=cs.length:=Paired.length hc
 have lx:=hn.len
 clean_wf
 refine ⟨b,xs,rfl,hP,fun g0 hg0=>?_⟩
 have s1:=aH (o:=.lst xs) hg0
 have g1:(upd H g0 (.lst xs)) g0=some (.lst xs):=az
 generalize upd H g0 (.lst xs)=H1 at s1 g1 ⊢
 clean_wf
 refine ⟨d,a,g0,rfl,m,ws,cs,xs,ns,cX s1 hd,cm,s1.seq hS,iV (.same s1) hc,lc,rg,.inl (SqL.of g1),hn.up (.same s1),fun H2 t l r hs m0 rw last m' s2 hl hr gt gl gr tm' hp1 hp2 tm0 e0 fw fe=>?_⟩
 have rn:Rn ws cs m ns rw m':=⟨hs,m0,last,⟨hp1,hp2⟩,tm0,e0,fw,fe⟩
 have gT:SqT K H2 t [.ref l,.ref r]:=SqT.of gt
 have s02:=s1.trans s2
 clean_wf
 refine ⟨a,r,rfl,ws,cs,m',s02.seq hS,iV (.same s02) hc,lc,.inl gr,tm'.toCk,fun H3 o s3 la=>?_⟩
 have m60:mz cs m<=60:=Nat.le_trans (List.length_filter_le _ _) lc
 clean_wf
 refine ⟨fun M σ A=>∃ t l ll r g row ys gs mm o,M=mz cs mm/\σ=[some (.ref d),some (.ref a),some (.ref b),some (.ref g),some (.ref t),some (.ref l),some (fsv o)]/\Same H A/\H l=none/\H g=none/\A t=some (.tup [.ref ll,.ref r])/\A l=some (.lst ((row:List (V×Cll)).map (·.1)))/\A r=some (.dK (dI mm))/\Td mm/\A g=some (.lst ys)/\Nms A ys gs/\Pw ws cs m ns row gs mm/\LaR (ws.zip cs) mm o/\row.length + mz cs mm<=60/\gs.length<=ns.length + row.length,⟨_,t,l,l,r,g0,rw,xs,ns,m',o,rfl,rfl,s02.trans s3,s1.free hl,hg0,s3 _ _ gt,s3 _ _ gl,s3 _ _ gr,tm',s3 _ _ (s2 _ _ g1),hn.up (.same (s02.trans s3)),.start rn,la,by have:=Tr rn; omega,by omega⟩,?_⟩
 clear la gT gt gl gr g1 hl hr hg0 rn fw fe
 rintro M σ A ⟨t,l,ll,r,g,row,ys,gs,mm,o,rfl,rfl,sA,hl,hg,gt,gl,gr,tmm,gg,nm,pw,la,q1,q2⟩
 have ly:=nm.len
 cases o with
 | none =>
  clean_wf
  rw [show decide (fsv none=V.non)=true from decide_eq_true rfl]
  clean_wf
  intro t' A1 ht' s9 g9
  exact kk A1 t' l g row ys gs mm (sA.trans s9) hl hg g9 (s9 _ _ gl) (s9 _ _ gg) (nm.up (.same s9)) pw la
 | some q =>
  obtain ⟨v,n,kk2⟩:=id la
  obtain ⟨vq,x⟩:=q
  have cx:CllA K mg A vq x:=sG (iV (.same sA) hc) v
  obtain ⟨p,C,dx,tt,xs',rfl,hk,hT,hp,ht,hpx,hcs⟩:=id cx
  have ek:=(vD n).1
  obtain ⟨kd,nn,c,k,w,css⟩:=x
  have ek:kd="one":=ek
  subst ek
  have hp:A p=some (.ins C dx (cfl (.int nn) (.int c) (.int k) (.int w) (.ref tt))):=hp
  have hk:KdC mg "one" C:=hk
  rcases hk with ⟨z,_⟩ | ⟨z,_⟩ | ⟨_,e⟩
  ·exact absurd z (of_decide_eq_false Np)
  ·exact absurd z (of_decide_eq_false WW)
  rw [aV] at e
  cases e
  rw [show fsv (some (V.ref p,(⟨"one",nn,c,k,w,css⟩:Cll)))=V.ref p from rfl]
  clean_wf
  rw [show decide (V.ref p=V.non)=false from decide_eq_false (by intro z; cases z)]
  refine fJ (fun _=>?_) fun z=>absurd rfl z
  refine ⟨_,fun _ _ z=>z,?_⟩
  have gTA:SqT K A t [.ref ll,.ref r]:=SqT.of gt
  clean_wf
  refine ⟨g,r,0,rfl,ys,mm,gs,.inl (SqL.of gg),.inl gr,nm,Nat.zero_le _,fun k _ h=>absurd h (Nat.not_lt_zero _),fun j j1 j2 j3=>?_⟩
  have hSg:SqL K A g ys:=SqL.of gg
  clean_wf
  intro c1 A1 hc1 t1 gc1
  rw [yc _ _ (by omega)] at gc1
  have hp1:=t1 _ _ hp
  clean_wf
  refine ⟨p,rfl,_,dx,_,_,_,_,_,hT,hp1,fun A2 u2 t2 hu2 g2=>?_⟩
  clean_wf
  intro e1 A3 he1 t3 g3
  have gc3:=t3 _ _ (t2 _ _ gc1)
  have lt:=List.length_take_le j ys
  refine JZ gc3 g3 (by rw [List.length_singleton]; omega) fun g' A4 hg' t4 g4=>?_
  have tA4:Same A A4:=t1.trans (t2.trans (t3.trans t4))
  have nm4:Nms A4 (ys.take j ++ [.ref u2]) (gs.take j ++ [(nn,c,k)]):=Nms.snoc (oJ j (nm.up (.same tA4))) ⟨u2,rfl,t4 _ _ (t3 _ _ g2)⟩
  have gT4:SqT K A4 t [.ref ll,.ref r]:=SqT.of (tA4 _ _ gt)
  have s04:=sA.trans tA4
  clean_wf
  refine ⟨r,a,g',rfl,mm,ws,cs,_,_,.inl (tA4 _ _ gr),tmm.toCk,s04.seq hS,iV (.same s04) hc,lc,rg,.inl (SqL.of g4),nm4,fun A5 t5' l5 r5 hs5 m5 rw5 last5 mm5 s5 hl5 hr5 gt5 gl5 gr5 tm5 hp5 hp6 tm6 e5 fw5 fe5=>?_⟩
  have rn5:Rn ws cs mm (gs.take j ++ [(nn,c,k)]) rw5 mm5:=⟨hs5,m5,last5,⟨hp5,hp6⟩,tm6,e5,fw5,fe5⟩
  have fo:Fo gs mm j:=⟨j1,j2,j3⟩
  have pos:=JQ u la fo rn5
  have mz5:=Tr rn5
  have gT5:SqT K A5 t5' [.ref l5,.ref r5]:=SqT.of gt5
  have gl05:=s5 _ _ (tA4 _ _ gl)
  clean_wf
  refine JZ gl05 gl5 (by rw [List.length_map,List.length_map]; omega) fun l6 A6 hl6 t6 g6=>?_
  rw [← List.map_append] at g6
  have gT6:SqT K A6 t5' [.ref l5,.ref r5]:=SqT.of (t6 _ _ gt5)
  have s06:=s04.trans (s5.trans t6)
  clean_wf
  refine ⟨a,r5,rfl,ws,cs,mm5,s06.seq hS,iV (.same s06) hc,lc,.inl (t6 _ _ gr5),tm5.toCk,fun A7 o7 s7 la7=>?_⟩
  refine ⟨mz cs mm5,by omega,t5',l6,l5,r5,g',row ++ rw5,ys.take j ++ [.ref u2],gs.take j ++ [(nn,c,k)],mm5,o7,rfl,rfl,s06.trans s7,(s04.trans s5).free hl6,(sA.trans (t1.trans (t2.trans t3))).free hg',s7 _ _ (t6 _ _ gt5),s7 _ _ g6,s7 _ _ (t6 _ _ gr5),tm5,s7 _ _ (t6 _ _ (s5 _ _ g4)),nm4.up (.same (s5.trans (t6.trans s7))),.step pw la fo rn5,la7,?_,?_⟩
  ·rw [List.length_append]
   omega
  ·rw [List.length_append,List.length_append,List.length_singleton]
   have:=List.length_take_le j gs
   omega
end
end K53
namespace K53
open PySem L2
abbrev eU:Stmt:=inClass (top 19) 1
abbrev cO:Stmt:=inClass (top 20) 0
abbrev dY:Stmt:=inClass (top 21) 0
abbrev ji:Stmt:=inClass (top 18) 7
section
variable {P:Program} {w:World} {K:PySem.W.Frag} {mg:Str->Option Value} {base:Heap}
def Clo (cs:List Cll) (ns:List Nm) (m:List (Int×Int)):Prop:=∀ x∈cs,tkb m x (nxo ns m)=false
theorem Jh {hs:List Int} {last:Option Int} {h:Int} (hh:h∈hs):h∈frm hs last:=by
 cases last with
 | none=>exact hh
 | some l =>
  show h∈frl hs l
  unfold frl
  rw [List.mem_append,List.mem_filter,List.mem_filter]
  by_cases z:l<=h
  ·exact .inl ⟨hh,decide_eq_true z⟩
  ·exact .inr ⟨hh,decide_eq_true (by omega)⟩
theorem Vp {hs:List Int} {ws:List V} {cs:List Cll} {ns:List Nm} {last:Option Int} {m:List (Int×Int)} (hm:∀ h,h∈hs↔∃ x∈cs,x.c=h) (u:Rk1 (ws.zip cs)) (lw:ws.length=cs.length) (e:fst (frm hs last) (LkC (ws.zip cs)) m (nxo ns m)=none):Clo cs ns m:=by
 intro x hx
 obtain ⟨i,hi⟩:=List.getElem?_of_mem hx
 have hil:=(List.getElem?_eq_some_iff.mp hi).1
 have hz:(ws[i]'(by omega),x)∈ws.zip cs:=List.mem_of_getElem? (i:=i) (by rw [List.getElem?_zip_eq_some]; exact ⟨List.getElem?_eq_getElem _,hi⟩)
 cases w:tkb m x (nxo ns m) with
 | false=>rfl
 | true =>
  exfalso
  unfold fst at e
  have:=List.findSome?_eq_none_iff.mp e _ (Jh ((hm x.c).mpr ⟨x,hx,rfl⟩))
  have ek:ct m x.c + 1=x.k:=by
   unfold tkb frb at w
   rw [Bool.and_eq_true,Bool.and_eq_true] at w
   have:=of_decide_eq_true w.1.1
   omega
  unfold tk1 at this
  rw [ek,show LkC (ws.zip cs) x.c x.k=some (ws[i]'(by omega),x) from Cg u hz] at this
  have this:(if tkb m x (nxo ns m)=true then some (ws[i]'(by omega),x) else none)=none:=this
  rw [if_pos w] at this
  cases this
theorem dJ {α β:Type} {F:α->β->Prop}:∀ {l:List α} {m:List β} {a:α} {b:β},Paired F l m->F a b->Paired F (l ++ [a]) (m ++ [b])
 | _,_,_,_,.nil,h=>.cons h .nil
 | _,_,_,_,.cons r t,h=>.cons r (dJ t h)
def TldA (H:Hp) (v:V) (x:Cll):Prop:=∃ a t xs,v=.ref a/\H a=some (.tup [.int x.n,.int x.c,.int x.k,.str x.kd,.int x.w,.ref t])/\H t=some (.tup xs)/\Prs H xs x.cs
structure Wf (x:Cll):Prop where
 kd:x.kd="own"∨x.kd="heard"∨x.kd="one"
 w:(if x.w < 0 then -x.w else x.w) < 10 ^ (60:Int).toNat
 cs:Ck x.cs
 ow:x.kd="own"->x.cs=[]
 c0:0<=x.c
 c1:x.c < 63
abbrev Tls (H:Hp):List V->List Cll->Prop:=Paired (TldA H)
theorem TldA.up {H H':Hp} (s:SmH H H') {v:V} {x:Cll} (h:TldA H v x):TldA H' v x:=by
 obtain ⟨a,t,xs,e1,e2,e3,e4⟩:=h
 exact ⟨a,t,xs,e1,s _ _ e2,s _ _ e3,e4.mono s⟩
theorem cJ {H H':Hp} (s:SmH H H') {vs:List V} {cs:List Cll} (h:Tls H vs cs):Tls H' vs cs:=Paired.mapP h fun _ _ z=>z.up s
def tlD (x:Cll):PyData:=.tuple [.int x.n,.int x.c,.int x.k,.str x.kd,.int x.w,.tuple (x.cs.map prD)]
theorem TldA.dp {K:PySem.W.Frag} {H:Hp} {v:V} {x:Cll} (h:TldA H v x):Dp K H v (tlD x):=by
 obtain ⟨a,t,xs,rfl,e2,e3,e4⟩:=h
 exact .tup (SqT.of e2) (.cons (.int _) (.cons (.int _) (.cons (.int _) (.cons (.str _) (.cons (.int _) (.cons (.tup (SqT.of e3) e4.dps) .nil))))))
theorem Tls.dps {K:PySem.W.Frag} {H:Hp}:∀ {vs:List V} {cs:List Cll},Tls H vs cs->Dps K H vs (cs.map tlD)
 | _,_,.nil=>.nil
 | _,_,.cons r t=>.cons r.dp (Tls.dps t)
theorem HN {x:Cll} (wf:Wf x):(tlD x).canLay0=true:=by
 have e:PyData.strOk x.kd=true:=by
  rcases wf.kd with h | h | h <;> rw [h] <;> decide +kernel
 simp [tlD,PyData.canLay0,PyData.canLayAll0,JD,e]
theorem J0:∀ {cs:List Cll},(∀ x∈cs,Wf x)->PyData.canLayAll0 (cs.map tlD)=true
 | [],_=>rfl
 | p :: ns,h=>by rw [List.map_cons,PyData.canLayAll0.eq_2,HN (h p List.mem_cons_self),J0 fun x hx=>h x (List.mem_cons_of_mem _ hx)]; rfl
theorem PL (x:Cll):(tlD x).depth<=60:=by
 have e:(tlD x).depth=PyData.depthAll [.int x.n,.int x.c,.int x.k,.str x.kd,.int x.w,.tuple (x.cs.map prD)] + 1:=rfl
 have e2:PyData.depthAll [.int x.n,.int x.c,.int x.k,.str x.kd,.int x.w,.tuple (x.cs.map prD)]=max 0 (max 0 (max 0 (max 0 (max 0 (max (PyData.depthAll (x.cs.map prD) + 1) 0))))):=rfl
 have:=Jt x.cs
 rw [e,e2]
 omega
theorem ue {a b c d e f:V}:¬ (HT.sIx [a,b,c,d,e,f].length 0 none=0/\HT.sIx [a,b,c,d,e,f].length [a,b,c,d,e,f].length (some 3)=[a,b,c,d,e,f].length):=by
 show ¬ (HT.sIx 6 0 none=0/\HT.sIx 6 6 (some 3)=6)
 decide
def lN (K:PySem.W.Frag):Sp:=fun vs H Q _=>∃ (p:Addr),vs=[.ref p]/\Q (.str "own") H
def ju (K:PySem.W.Frag):Sp:=fun vs H Q _=>∃ (p:Addr),vs=[.ref p]/\Q (.str "heard") H
def lF (K:PySem.W.Frag):Sp:=fun vs H Q _=>∃ (p:Addr),vs=[.ref p]/\Q (.str "one") H
theorem xn:FnScope ["self"] ["self"] (au eU):=⟨rfl,rfl,rfl,by decide +kernel,rfl,by decide +kernel,by decide +kernel⟩
theorem xx {f :Addr} {fd :FuncData} (F:Fun K "kind" "OwnCall.kind" eU f fd):FnOk P w K mg base CX0 1 f fd ["self"] (lN K):=by
 refine F.ok xn (fun vs H Q E h=>?_) (fun cdv A outer s H vs Q E hr h=>?_)
 ·obtain ⟨p,rfl,_⟩:=h
  rfl
 obtain ⟨p,rfl,h⟩:=h
 have hu64:=hr.units
 have hu0:=hr.units0
 have hu:=bD hr
 refine ⟨_,(aC (aU j7)),?_⟩
 clean_wf
 exact h
theorem uI:FnScope ["self"] ["self"] (au cO):=⟨rfl,rfl,rfl,by decide +kernel,rfl,by decide +kernel,by decide +kernel⟩
theorem u0 {f :Addr} {fd :FuncData} (F:Fun K "kind" "HeardCall.kind" cO f fd):FnOk P w K mg base CX0 1 f fd ["self"] (ju K):=by
 refine F.ok uI (fun vs H Q E h=>?_) (fun cdv A outer s H vs Q E hr h=>?_)
 ·obtain ⟨p,rfl,_⟩:=h
  rfl
 obtain ⟨p,rfl,h⟩:=h
 have hu64:=hr.units
 have hu0:=hr.units0
 have hu:=bD hr
 refine ⟨_,(aC (aU j7)),?_⟩
 clean_wf
 exact h
theorem xj:FnScope ["self"] ["self"] (au dY):=⟨rfl,rfl,rfl,by decide +kernel,rfl,by decide +kernel,by decide +kernel⟩
theorem xF {f :Addr} {fd :FuncData} (F:Fun K "kind" "OneCall.kind" dY f fd):FnOk P w K mg base CX0 1 f fd ["self"] (lF K):=by
 refine F.ok xj (fun vs H Q E h=>?_) (fun cdv A outer s H vs Q E hr h=>?_)
 ·obtain ⟨p,rfl,_⟩:=h
  rfl
 obtain ⟨p,rfl,h⟩:=h
 have hu64:=hr.units
 have hu0:=hr.units0
 have hu:=bD hr
 refine ⟨_,(aC (aU j7)),?_⟩
 clean_wf
 exact h
def o9 (K:PySem.W.Frag) (mg:Str->Option Value):Sp:=fun vs H Q _=>∃ (v:V),vs=[v]/\∃ x,CllA K mg H v x/\∀ H' t,Same H H'->H t=none->TldA H' (.ref t) x->Q (.ref t) H'
theorem Do:FnScope ["self"] ["self"] (au ji):=⟨rfl,rfl,rfl,by decide +kernel,rfl,by decide +kernel,by decide +kernel⟩
theorem Du {f qI oU qy ao aB aA:Addr} {fd pX m9 p8:FuncData} (F:Fun K "told" "Call.told" ji f fd)
  (yd:FnOk P w K mg base CX0 1 qI pX ["self"] (lN K)) (yS:Binds K pX ["self"] [])
  (vQ:FnOk P w K mg base CX0 1 oU m9 ["self"] (ju K)) (vz:Binds K m9 ["self"] [])
  (yx:FnOk P w K mg base CX0 1 qy p8 ["self"] (lF K)) (zG:Binds K p8 ["self"] []) (aG:TCall K ao) (aQ:TCall K aB) (aP:TCall K aA) (aL:mg "HeardCall"=some (.ref ao)) (aV:mg "OneCall"=some (.ref aB)) (aZ:mg "OwnCall"=some (.ref aA)) (jw:Meth K ao "kind" oU) (kY:Meth K aB "kind" qy) (lD:Meth K aA "kind" qI):FnOk P w K mg base CX0 2 f fd ["self"] (o9 K mg):=by
 refine F.ok Do (fun vs H Q E h=>?_) (fun cdv A outer s H vs Q E hr h=>?_)
 ·obtain ⟨v,rfl,_⟩:=h
  rfl
 obtain ⟨v,rfl,h⟩:=h
 have hu64:=hr.units
 have hu0:=hr.units0
 have hu:=bD hr
 refine ⟨_,(aC (aU (fu (aa (dH (K:=K) rfl (pv 0) rfl) (aa (dH (K:=K) rfl (pv 0) rfl) (aa (dH (K:=K) rfl (pv 0) rfl) (aa (fY (MOk.cons aP.cl lD yd yS (MOk.cons aG.cl jw vQ vz (MOk.cons aQ.cl kY yx zG MOk.nil))) (pv 0) hr) (aa (dH (K:=K) rfl (pv 0) rfl) (aa (dH (K:=K) rfl (pv 0) rfl) ak))))))))),?_⟩
 obtain ⟨x,⟨p,C,dx,t,xs,rfl,hk,hT,hp,ht,hx,hc⟩,kk⟩:=h
 obtain ⟨kd,n,c,k,w,cs⟩:=x
 have hk:KdC mg kd C:=hk
 have hp:H p=some (.ins C dx (cfl (.int n) (.int c) (.int k) (.int w) (.ref t))):=hp
 have hx:Prs H xs cs:=hx
 obtain ⟨cl,n1,n2,n3,n4,n5⟩:=id hT
 rcases hk with ⟨rfl,e⟩ | ⟨rfl,e⟩ | ⟨rfl,e⟩
 ·rw [aZ] at e
  cases e
  clean_wf
  refine ⟨p,rfl,?_⟩
  clean_wf
  intro u H1 hu1 s1 g1
  exact kk H1 u s1 hu1 ⟨u,t,xs,rfl,g1,s1 _ _ ht,hx.mono (SmH.same s1)⟩
 ·rw [aL] at e
  cases e
  clean_wf
  refine ⟨p,rfl,?_⟩
  clean_wf
  intro u H1 hu1 s1 g1
  exact kk H1 u s1 hu1 ⟨u,t,xs,rfl,g1,s1 _ _ ht,hx.mono (SmH.same s1)⟩
 ·rw [aV] at e
  cases e
  clean_wf
  refine ⟨p,rfl,?_⟩
  clean_wf
  intro u H1 hu1 s1 g1
  exact kk H1 u s1 hu1 ⟨u,t,xs,rfl,g1,s1 _ _ ht,hx.mono (SmH.same s1)⟩
def Inc (cs:List Cll):Prop:=cs.Pairwise fun x y=>x.c=y.c->x.k≠y.k
theorem Ms {cs:List Cll} {x:Cll} (u:Inc cs) (h:∀ y∈cs,y.c=x.c->y.k < x.k):Inc (cs ++ [x]):=by
 unfold Inc
 rw [List.pairwise_append]
 refine ⟨u,List.pairwise_singleton _ _,fun a ha b hb e=>?_⟩
 rw [List.mem_singleton.mp hb] at e ⊢
 have:=h a ha e
 omega
theorem DK {ws:List V} {cs:List Cll} (u:Inc cs):Rk1 (ws.zip cs):=by
 intro q hq r hr e1 e2
 obtain ⟨i,hi⟩:=List.getElem?_of_mem hq
 obtain ⟨j,hj⟩:=List.getElem?_of_mem hr
 have hi2:=(List.getElem?_zip_eq_some.mp hi).2
 have hj2:=(List.getElem?_zip_eq_some.mp hj).2
 obtain ⟨il,ei⟩:=List.getElem?_eq_some_iff.mp hi2
 obtain ⟨jl,ej⟩:=List.getElem?_eq_some_iff.mp hj2
 rcases Nat.lt_trichotomy i j with w | w | w
 ·have:=List.pairwise_iff_getElem.mp u i j il jl w
  rw [ei,ej] at this
  exact absurd e2 (this e1)
 ·rw [w,hj] at hi
  exact (Option.some.inj hi).symm
 ·have:=List.pairwise_iff_getElem.mp u j i jl il w
  rw [ei,ej] at this
  exact absurd e2.symm (this e1.symm)
def stt (m0:List (Int×Int)) (rw:List (V×Cll)):List (Int×Int):=rw.foldl (fun m q=>eY m q.2.c q.2.k) m0
def wu (rw:List (V×Cll)):Option Int:=rw.getLast?.map fun q=>q.2.c
theorem yO (m0:List (Int×Int)) (rw:List (V×Cll)) (q:V×Cll):stt m0 (rw ++ [q])=eY (stt m0 rw) q.2.c q.2.k:=by
 unfold stt
 rw [List.foldl_append]
 rfl
theorem Hh (rw:List (V×Cll)) (q:V×Cll):wu (rw ++ [q])=some q.2.c:=by
 unfold wu
 simp
section
variable {hs:List Int} {L:Int->Int->Option (V×Cll)} {ns:List Nm} {m0 m:List (Int×Int)} {rw:List (V×Cll)} {last:Option Int}
theorem G9 (fw:Fw hs L ns m0 rw last m):m=stt m0 rw/\last=wu rw:=by
 induction fw with
 | start=>exact ⟨rfl,rfl⟩
 | @step rw last m v x f e ih =>
  obtain ⟨e1,e2⟩:=ih
  exact ⟨by rw [yO,← e1],by rw [Hh]⟩
theorem X8 (fw:Fw hs L ns m0 rw last m):∀ i (hi:i < rw.length),fst (frm hs (wu (rw.take i))) L (stt m0 (rw.take i)) (nxo ns (stt m0 (rw.take i)))=some rw[i]:=by
 induction fw with
 | start=>intro i hi; exact absurd hi (Nat.not_lt_zero _)
 | @step rw last m v x f e ih =>
  intro i hi
  obtain ⟨em,el⟩:=G9 f
  rcases Nat.lt_or_ge i rw.length with w | w
  ·rw [List.take_append_of_le_length (Nat.le_of_lt w),List.getElem_append_left w]
   exact ih i w
  ·have hi2:i=rw.length:=by
    rw [List.length_append,List.length_singleton] at hi
    omega
   subst hi2
   have e1:(rw ++ [(v,x)]).take rw.length=rw:=by simp
   have e2:(rw ++ [(v,x)])[rw.length]=(v,x):=by simp
   rw [e1,e2,← em,← el]
   exact e
end
theorem tV {m m':List (Int×Int)} (e:∀ k,ct m' k=ct m k) (x:Cll) (o:Option Nm):tkb m' x o=tkb m x o:=by
 have e1:∀ n,cov m' n=cov m n:=fun n=>by unfold cov; simp only [e]
 unfold tkb frb
 rw [e,e1]
theorem vh {m m':List (Int×Int)} (e:∀ k,ct m' k=ct m k) (ns:List Nm):nxo ns m'=nxo ns m:=by
 unfold nxo cvd
 simp only [e]
theorem Ds {m m':List (Int×Int)} (e:∀ k,ct m' k=ct m k) (rw:List (V×Cll)):∀ k,ct (stt m' rw) k=ct (stt m rw) k:=by
 induction rw generalizing m m' with
 | nil=>exact e
 | cons q rw ih =>
  refine ih (m:=eY m q.2.c q.2.k) (m':=eY m' q.2.c q.2.k) fun k=>?_
  rw [lG,lG,e]
def Rot (l:Option Int) (h h':Int):Prop:=match l with
 | none=>h < h'
 | some c=>(c<=h/\(h' < c∨h < h'))∨(h < c/\h' < c/\h < h')
theorem Sd {hs:List Int} (up:hs.Pairwise (· < ·)) (l:Option Int):(frm hs l).Pairwise (Rot l):=by
 cases l with
 | none=>exact up
 | some c =>
  show ((hs.filter fun h=>decide (c<=h)) ++ hs.filter fun h=>decide (h < c)).Pairwise _
  rw [List.pairwise_append]
  refine ⟨?_,?_,?_⟩
  ·refine (List.Pairwise.filter _ up).imp_of_mem fun ha _ w=>?_
   have ha:=of_decide_eq_true (List.mem_filter.mp ha).2
   exact .inl ⟨ha,.inr w⟩
  ·refine (List.Pairwise.filter _ up).imp_of_mem fun ha hb w=>?_
   have ha:=of_decide_eq_true (List.mem_filter.mp ha).2
   have hb:=of_decide_eq_true (List.mem_filter.mp hb).2
   exact .inr ⟨ha,hb,w⟩
  ·intro a ha b hb
   have ha:=of_decide_eq_true (List.mem_filter.mp ha).2
   have hb:=of_decide_eq_true (List.mem_filter.mp hb).2
   exact .inl ⟨ha,.inl hb⟩
theorem vJ {hs:List Int} {ws:List V} {cs:List Cll} {m:List (Int×Int)} {o:Option Nm} {l:Option Int} {v:V} {x:Cll} (up:hs.Pairwise (· < ·)) (hm:∀ h,h∈hs↔∃ x∈cs,x.c=h) (lw:ws.length=cs.length) (u:Rk1 (ws.zip cs)) (h:fst (frm hs l) (LkC (ws.zip cs)) m o=some (v,x)) :
  x∈cs/\tkb m x o=true/\x.k=ct m x.c + 1/\∀ y∈cs,tkb m y o=true->y.k=ct m y.c + 1/\(y.c=x.c∨Rot l x.c y.c):=by
 have kk:∀ y:Cll,tkb m y o=true->y.k=ct m y.c + 1:=fun y z=>by
  unfold tkb frb at z
  rw [Bool.and_eq_true,Bool.and_eq_true] at z
  have:=of_decide_eq_true z.1.1
  omega
 obtain ⟨h0,_,e1,e2⟩:=uZ h
 obtain ⟨f1,f2,f3⟩:=nu e1
 have xm:x∈cs:=(List.of_mem_zip f1).2
 refine ⟨xm,e2,kk x e2,fun y hy ty=>⟨kk y ty,?_⟩⟩
 unfold fst at h
 obtain ⟨l1,a,l2,el,ea,hn⟩:=List.findSome?_eq_some_iff.mp h
 have exa:x.c=a:=by
  unfold tk1 at ea
  cases z:LkC (ws.zip cs) a (ct m a + 1) with
  | none=>rw [z] at ea; cases ea
  | some q =>
   rw [z] at ea
   have ea:(if tkb m q.2 o=true then some q else none)=some (v,x):=ea
   obtain ⟨_,g2,_⟩:=nu z
   by_cases w:tkb m q.2 o=true
   ·rw [if_pos w] at ea
    cases ea
    exact g2
   ·rw [if_neg w] at ea; cases ea
 obtain ⟨i,hi⟩:=List.getElem?_of_mem hy
 have hil:=(List.getElem?_eq_some_iff.mp hi).1
 have hz:(ws[i]'(by omega),y)∈ws.zip cs:=List.mem_of_getElem? (i:=i) (by rw [List.getElem?_zip_eq_some]; exact ⟨List.getElem?_eq_getElem _,hi⟩)
 have ty':tk1 (LkC (ws.zip cs)) m o y.c=some (ws[i]'(by omega),y):=by
  unfold tk1
  rw [← kk y ty,show LkC (ws.zip cs) y.c y.k=some (ws[i]'(by omega),y) from Cg u hz]
  show (if tkb m y o=true then some (ws[i]'(by omega),y) else none)=_
  rw [if_pos ty]
 have ym:y.c∈frm hs l:=by
  have:y.c∈hs:=(hm y.c).mpr ⟨y,hy,rfl⟩
  exact Jh (last:=l) this
 rw [el] at ym
 have pw:=Sd up l
 rw [el] at pw
 rcases List.mem_append.mp ym with w | w
 ·rw [hn _ w] at ty'
  cases ty'
 ·rcases List.mem_cons.mp w with w | w
  ·exact .inl (by rw [w,exa])
  ·have:=(List.pairwise_cons.mp (List.pairwise_append.mp pw).2.1).1 _ w
   rw [exa]
   exact .inr this
theorem Cq {K:PySem.W.Frag} {H:Hp} {Q:VK} {a b:Addr} {xs:List V} {ds:List PyData} (ha:SqL K H a xs) (hx:Dps K H xs ds) (hl:PyData.canLayAll0 ds=true) (hb:SqL K H b []) (q:Q (.bl (decide (ds=[]))) H):Q5 K (.ref a) (.ref b) H Q:=by
 refine ⟨.list ds,.list [],.inr ⟨_,_,_,rfl,rfl,ha,hx⟩,.inr ⟨_,_,_,rfl,rfl,hb,.nil⟩,by rw [PyData.canLay0.eq_5]; exact hl,rfl,by have:(PyData.list []).depth=1:=rfl; omega,?_⟩
 have e:(PyData.list ds).eqv (.list [])=decide (ds=[]):=by
  cases ds with
  | nil=>rfl
  | cons d ds=>rw [decide_eq_false (by intro z; cases z)]; rfl
 rw [e]
 exact q
theorem WN (a b c d:Int):HT.lexLt [a,b] [c,d]=decide (a < c∨(a=c/\b < d)):=by
 have e:HT.lexLt [a,b] [c,d]=if a=c then (if b=d then false else decide (b < d)) else decide (a < c):=rfl
 rw [e]
 by_cases h1:a=c
 ·rw [if_pos h1]
  by_cases h2:b=d
  ·rw [if_pos h2,decide_eq_false (by omega)]
  ·rw [if_neg h2]
   by_cases h3:b < d
   ·rw [decide_eq_true h3,decide_eq_true (by omega)]
   ·rw [decide_eq_false h3,decide_eq_false (by omega)]
 ·rw [if_neg h1]
  by_cases h3:a < c
  ·rw [decide_eq_true h3,decide_eq_true (by omega)]
  ·rw [decide_eq_false h3,decide_eq_false (by omega)]
theorem Rr {a b c d:Int} (h1:HT.lexLt [a,b] [c,d]=false) (h2:HT.lexLt [c,d] [a,b]=false):a=c/\b=d:=by
 rw [WN] at h1 h2
 have h1:=of_decide_eq_false h1
 have h2:=of_decide_eq_false h2
 by_cases z:a=c
 ·refine ⟨z,?_⟩
  by_cases w:b=d
  ·exact w
  ·exfalso
   rcases Int.lt_or_lt_of_ne w with w | w
   ·exact h1 (.inr ⟨z,w⟩)
   ·exact h2 (.inr ⟨z.symm,w⟩)
 ·exfalso
  rcases Int.lt_or_lt_of_ne z with w | w
  ·exact h1 (.inl w)
  ·exact h2 (.inl w)
theorem Rx {ps m:List (Int×Int)} (cs:Ck ps) (cm:Ck m):cov m (iB ps)=ps.all fun p=>decide (p.2<=ct m p.1):=by
 rw [Bool.eq_iff_iff,J7 cm (OD cs),List.all_eq_true]
 constructor
 ·intro h p hp
  by_cases z:0 < p.2
  ·have:=h p.1
   rw [yN (vX cs.nd) (List.mem_filter.mpr ⟨hp,decide_eq_true z⟩)] at this
   exact decide_eq_true this
  ·have:=cm.ct p.1
   exact decide_eq_true (by omega)
 ·intro h j
  by_cases z:j∈(iB ps).map (·.1)
  ·obtain ⟨p,hp,rfl⟩:=List.mem_map.mp z
   rw [yN (vX cs.nd) hp]
   exact of_decide_eq_true (h p (List.mem_filter.mp hp).1)
  ·rw [n6 z]
   exact cm.ct j
theorem RB {x:Cll} {m:List (Int×Int)} (wf:Wf x) (cm:Ck m):frb m x=(decide (ct m x.c=x.k - 1) && x.cs.all fun p=>decide (p.2<=ct m p.1)):=by
 unfold frb
 rw [Rx wf.cs cm]
 by_cases z:x.kd="own"
 ·rw [wf.ow z,decide_eq_true z]; rfl
 ·rw [decide_eq_false z,Bool.false_or]
def Cz (zs:List (V×Cll)) (gs:List Nm) (m:List (Int×Int)):Prop:=∀ y∈zs,tkb m y.2 (nxo gs m)=false
def Stp (zs:List (V×Cll)) (m0:List (Int×Int)) (row:List (V×Cll)) (gs:List Nm) (q:V×Cll) (gs':List Nm):Prop :=
 (gs'=gs/\q∈zs/\tkb (stt m0 row) q.2 (nxo gs (stt m0 row))=true/\∀ y∈zs,tkb (stt m0 row) y.2 (nxo gs (stt m0 row))=true->y.2.c=q.2.c∨Rot (wu row) q.2.c y.2.c) ∨
 (Cz zs gs (stt m0 row)/\LaR zs (stt m0 row) (some q)/\∃ j,Fo gs (stt m0 row) j/\gs'=gs.take j ++ [(q.2.n,q.2.c,q.2.k)])
inductive Wk (zs:List (V×Cll)) (m0:List (Int×Int)) (g0:List Nm):List (V×Cll)->List Nm->Prop
 | start:Wk zs m0 g0 [] g0
 | step {row:List (V×Cll)} {gs:List Nm} {q:V×Cll} {gs':List Nm}:Wk zs m0 g0 row gs->Stp zs m0 row gs q gs'->Wk zs m0 g0 (row ++ [q]) gs'
theorem VJ {m:List (Int×Int)} {y:Cll} {o:Option Nm} (z:tkb m y o=true):y.k=ct m y.c + 1:=by
 unfold tkb frb at z
 rw [Bool.and_eq_true,Bool.and_eq_true] at z
 have:=of_decide_eq_true z.1.1
 omega
theorem V4 {l:Option Int} {a b:Int} (h1:Rot l a b) (h2:Rot l b a):False:=by
 cases l with
 | none =>
  have h1:a < b:=h1
  have h2:b < a:=h2
  omega
 | some c =>
  rcases h1 with ⟨_,_ | _⟩ | ⟨_,_,_⟩ <;> rcases h2 with ⟨_,_ | _⟩ | ⟨_,_,_⟩ <;> omega
theorem GK {ns:List Nm} {m:List (Int×Int)} {i j:Nat} (h1:Fo ns m i) (h2:Fo ns m j):i=j:=by
 obtain ⟨a1,a2,a3⟩:=h1
 obtain ⟨b1,b2,b3⟩:=h2
 rcases Nat.lt_trichotomy i j with w | w | w
 ·exact absurd (b2 i (by omega) w) (a3 (by omega))
 ·exact w
 ·exact absurd (a2 j (by omega) w) (b3 (by omega))
theorem RN {zs:List (V×Cll)} {m0:List (Int×Int)} {row:List (V×Cll)} {gs:List Nm} {q q':V×Cll} {g1 g2:List Nm} (u:Rk1 zs) (h1:Stp zs m0 row gs q g1) (h2:Stp zs m0 row gs q' g2):q=q'/\g1=g2:=by
 rcases h1 with ⟨a1,a2,a3,a4⟩ | ⟨a1,a2,i,a3,a4⟩ <;> rcases h2 with ⟨b1,b2,b3,b4⟩ | ⟨b1,b2,j,b3,b4⟩
 ·have e:q.2.c=q'.2.c:=by
   rcases a4 q' b2 b3 with w | w
   ·exact w.symm
   ·rcases b4 q a2 a3 with v | v
    ·exact v
    ·exact (V4 w v).elim
  have k1:=VJ a3
  have k2:=VJ b3
  exact ⟨u q a2 q' b2 e (by rw [k1,k2,e]),by rw [a1,b1]⟩
 ·rw [b1 q a2] at a3; cases a3
 ·rw [a1 q' b2] at b3; cases b3
 ·obtain ⟨c1,c2,c3⟩:=a2
  obtain ⟨d1,d2,d3⟩:=b2
  obtain ⟨e1,e2⟩:=Rr (d3 q c1 c2) (c3 q' d1 d2)
  have e:=u q c1 q' d1 e1 e2
  exact ⟨e,by rw [a4,b4,GK a3 b3,e]⟩
theorem PK {zs:List (V×Cll)} {m0:List (Int×Int)} {g0:List Nm} {r:List (V×Cll)} {gs:List Nm} (w:Wk zs m0 g0 r gs):(r=[]/\gs=g0)∨∃ row q g1,r=row ++ [q]/\Wk zs m0 g0 row g1/\Stp zs m0 row g1 q gs:=by
 cases w with
 | start=>exact .inl ⟨rfl,rfl⟩
 | step a b=>exact .inr ⟨_,_,_,rfl,a,b⟩
theorem RV {zs:List (V×Cll)} {m0:List (Int×Int)} {g0:List Nm} (u:Rk1 zs):∀ {r r':List (V×Cll)} {gs gs':List Nm},Wk zs m0 g0 r gs->Wk zs m0 g0 r' gs'->r.length=r'.length->r=r'/\gs=gs':=by
 intro r r' gs gs' w
 induction w generalizing r' gs' with
 | start =>
  intro w' e
  rcases PK w' with ⟨rfl,rfl⟩ | ⟨row,q,g1,rfl,_,_⟩
  ·exact ⟨rfl,rfl⟩
  ·rw [List.length_append,List.length_singleton,List.length_nil] at e; omega
 | @step row gs q gs1 _ s ih =>
  intro w' e
  rcases PK w' with ⟨rfl,rfl⟩ | ⟨row',q',g1,rfl,w2,s2⟩
  ·rw [List.length_append,List.length_singleton,List.length_nil] at e; omega
  ·rw [List.length_append,List.length_append,List.length_singleton,List.length_singleton] at e
   obtain ⟨rfl,rfl⟩:=ih w2 (by omega)
   obtain ⟨rfl,rfl⟩:=RN u s s2
   exact ⟨rfl,rfl⟩
theorem V2 {zs:List (V×Cll)} {m0:List (Int×Int)} {g0:List Nm} {r:List (V×Cll)} {gs:List Nm} (w:Wk zs m0 g0 r gs):∀ i (hi:i < r.length),∃ g1 g2,Wk zs m0 g0 (r.take i) g1/\Stp zs m0 (r.take i) g1 r[i] g2/\Wk zs m0 g0 (r.take (i + 1)) g2:=by
 induction w with
 | start=>intro i hi; exact absurd hi (Nat.not_lt_zero _)
 | @step row gs q gs1 a s ih =>
  intro i hi
  rcases Nat.lt_or_ge i row.length with w | w
  ·obtain ⟨g1,g2,x1,x2,x3⟩:=ih i w
   rw [List.take_append_of_le_length (Nat.le_of_lt w),List.getElem_append_left w,List.take_append_of_le_length (by omega)]
   exact ⟨g1,g2,x1,x2,x3⟩
  ·have hi2:i=row.length:=by
    rw [List.length_append,List.length_singleton] at hi
    omega
   subst hi2
   have e1:(row ++ [q]).take row.length=row:=by simp
   have e2:(row ++ [q])[row.length]=q:=by simp
   have e3:(row ++ [q]).take (row.length + 1)=row ++ [q]:=by rw [List.take_of_length_le]; rw [List.length_append,List.length_singleton]; exact Nat.le_refl _
   rw [e1,e2,e3]
   exact ⟨gs,gs1,a,s,.step a s⟩
theorem Dw (M:List (Int×Int)) (a b:List (V×Cll)):stt M (a ++ b)=stt (stt M a) b:=by
 unfold stt
 rw [List.foldl_append]
theorem Km {a b:List (V×Cll)} (h:b≠[]):wu (a ++ b)=wu b:=by
 unfold wu
 rw [← List.dropLast_concat_getLast h,← List.append_assoc]
 simp
theorem SJ {hs:List Int} {ws:List V} {cs:List Cll} {gs:List Nm} {m0 m':List (Int×Int)} {rw:List (V×Cll)} {last:Option Int} (ho:HsO cs hs) (lw:ws.length=cs.length) (u:Rk1 (ws.zip cs)) (fw:Fw hs (LkC (ws.zip cs)) gs m0 rw last m') (row:List (V×Cll)) (M:List (Int×Int)) (g:List Nm) (e0:∀ k,ct (stt M row) k=ct m0 k) (hd:∀ r0,rw.head?=some r0->Wk (ws.zip cs) M g (row ++ [r0]) gs):rw=[]∨Wk (ws.zip cs) M g (row ++ rw) gs:=by
 induction fw with
 | start=>exact .inl rfl
 | @step rw last m v x f e ih =>
  right
  obtain ⟨em,el⟩:=G9 f
  by_cases z:rw=[]
  ·subst z
   exact hd (v,x) rfl
  ·have ih:=ih fun r0 h0=>hd r0 (by rw [List.head?_append,h0]; rfl)
   rcases ih with w | w
   ·exact absurd w z
   ·rw [← List.append_assoc]
    refine .step w (.inl ⟨rfl,?_,?_,?_⟩)
    ·obtain ⟨h,_,e1,_⟩:=uZ e
     exact (nu e1).1
    ·have ee:∀ k,ct (stt M (row ++ rw)) k=ct m k:=fun k=>by rw [Dw,em]; exact Ds e0 rw k
     obtain ⟨_,a2,_,_⟩:=vJ ho.1 ho.2 lw u e
     rw [tV ee,vh ee]
     exact a2
    ·intro y hy ty
     have ee:∀ k,ct (stt M (row ++ rw)) k=ct m k:=fun k=>by rw [Dw,em]; exact Ds e0 rw k
     obtain ⟨_,_,_,a4⟩:=vJ ho.1 ho.2 lw u e
     rw [tV ee,vh ee] at ty
     rw [Km z,← el]
     exact (a4 y.2 (List.of_mem_zip hy).2 ty).2
theorem Jr {ws:List V} {cs:List Cll} {gs:List Nm} {m m':List (Int×Int)} {rw:List (V×Cll)} (u:Rk1 (ws.zip cs)) (lw:ws.length=cs.length) (h:Rn ws cs m gs rw m') (r0:V×Cll) (hr:rw.head?=some r0):r0∈ws.zip cs/\tkb m r0.2 (nxo gs m)=true/\∀ y∈ws.zip cs,tkb m y.2 (nxo gs m)=true->y.2.c=r0.2.c∨Rot none r0.2.c y.2.c:=by
 obtain ⟨hs,m0,last,ho,_,e,f,g⟩:=h
 have l0:0 < rw.length:=by
  cases rw with
  | nil=>cases hr
  | cons a b=>rw [List.length_cons]; omega
 have h0:=X8 f 0 l0
 have e0:rw[0]=r0:=by
  cases rw with
  | nil=>cases hr
  | cons a b=>exact Option.some.inj hr
 rw [e0] at h0
 have h0:fst (frm hs none) (LkC (ws.zip cs)) m0 (nxo gs m0)=some (r0.1,r0.2):=h0
 obtain ⟨_,a2,_,a4⟩:=vJ ho.1 ho.2 lw u h0
 obtain ⟨h,_,e1,_⟩:=uZ h0
 refine ⟨(nu e1).1,?_,fun y hy ty=>?_⟩
 ·rw [← tV e,← vh e]; exact a2
 ·rw [← tV e,← vh e] at ty
  exact (a4 y.2 (List.of_mem_zip hy).2 ty).2
theorem PX {ws:List V} {cs:List Cll} {gs:List Nm} {m m':List (Int×Int)} {rw:List (V×Cll)} (u:Rk1 (ws.zip cs)) (lw:ws.length=cs.length) (h:Rn ws cs m gs rw m'):(∀ k,ct (stt m rw) k=ct m' k)/\Cz (ws.zip cs) gs m':=by
 obtain ⟨hs,m0,last,ho,_,e,f,g⟩:=h
 refine ⟨fun k=>by rw [(G9 f).1]; exact (Ds e rw k).symm,fun y hy=>Vp ho.2 u lw g y.2 (List.of_mem_zip hy).2⟩
theorem Tz {zs:List (V×Cll)} {gs:List Nm} {m m':List (Int×Int)} (e:∀ k,ct m' k=ct m k) (h:Cz zs gs m):Cz zs gs m':=fun y hy=>by
 rw [tV e,vh e]
 exact h y hy
theorem Qv {zs:List (V×Cll)} {m m':List (Int×Int)} (e:∀ k,ct m' k=ct m k) {o:Option (V×Cll)} (h:LaR zs m o):LaR zs m' o:=by
 cases o with
 | none =>
  intro q hq
  rw [uP e]
  exact h q hq
 | some q =>
  obtain ⟨a,b,c⟩:=h
  exact ⟨a,by rw [uP e]; exact b,fun y hy ty=>c y hy (by rw [uP e] at ty; exact ty)⟩
theorem Tc {ns:List Nm} {m m':List (Int×Int)} {j:Nat} (e:∀ k,ct m' k=ct m k) (h:Fo ns m j):Fo ns m' j:=by
 obtain ⟨a,b,c⟩:=h
 exact ⟨a,fun k hk hj=>by unfold cvd; rw [e]; exact b k hk hj,fun hj=>by unfold cvd; rw [e]; exact c hj⟩
theorem S8 {ws:List V} {cs:List Cll} {m:List (Int×Int)} {ns:List Nm} {row:List (V×Cll)} {gs:List Nm} {m':List (Int×Int)} (u:Rk1 (ws.zip cs)) (lw:ws.length=cs.length) (h:Pw ws cs m ns row gs m'):Wk (ws.zip cs) m ns row gs/\(∀ k,ct (stt m row) k=ct m' k)/\Cz (ws.zip cs) gs m':=by
 induction h with
 | @start rw m' rn =>
  obtain ⟨z1,z2⟩:=PX u lw rn
  refine ⟨?_,z1,z2⟩
  have hd:=Jr u lw rn
  obtain ⟨hs,m0,last,ho,_,e,f,g⟩:=rn
  have:=SJ ho lw u f [] m ns (fun k=>(e k).symm) fun r0 hr=>by
   obtain ⟨a1,a2,a3⟩:=hd r0 hr
   exact .step .start (.inl ⟨rfl,a1,a2,a3⟩)
  rcases this with w | w
  ·rw [w]; exact .start
  ·exact w
 | @step row rw gs m1 m2 q j _ la fo rn ih =>
  obtain ⟨i1,i2,i3⟩:=ih
  obtain ⟨z1,z2⟩:=PX u lw rn
  have hd:=Jr u lw rn
  have l0:=JQ u la fo rn
  have cz:Cz (ws.zip cs) gs (stt m row):=Tz i2 i3
  have la':=Qv i2 la
  have fo':=Tc i2 fo
  have ask1:Wk (ws.zip cs) m ns (row ++ [q]) (gs.take j ++ [(q.2.n,q.2.c,q.2.k)]):=.step i1 (.inr ⟨cz,la',j,fo',rfl⟩)
  have hq:∀ r0,rw.head?=some r0->r0=q:=fun r0 hr=>by
   obtain ⟨a1,a2,_⟩:=hd r0 hr
   obtain ⟨b1,b2,_⟩:=la
   rw [J2 fo.2.1 fo.1 (by show ¬ q.2.k<=ct m1 q.2.c; have:=(vD b2).2; omega)] at a2
   by_cases w:r0.2.kd="one"
   ·unfold tkb at a2
    rw [decide_eq_true w,Bool.and_eq_true] at a2
    have a3:=of_decide_eq_true (by simpa using a2.2:decide (some (q.2.n,q.2.c,q.2.k)=some (r0.2.n,r0.2.c,r0.2.k))=true)
    have a4:=Option.some.inj a3
    have c1:q.2.c=r0.2.c:=congrArg (fun p:Nm=>p.2.1) a4
    have c2:q.2.k=r0.2.k:=congrArg (fun p:Nm=>p.2.2) a4
    exact u r0 a1 q b1 c1.symm c2.symm
   ·exfalso
    have:=i3 r0 a1
    unfold tkb at this a2
    rw [decide_eq_false w] at this a2
    simp at this a2
    rw [a2] at this
    cases this
  obtain ⟨hs,m0,last,ho,_,e,f,g⟩:=rn
  have:=SJ ho lw u f row m ns (fun k=>by rw [i2,e]) fun r0 hr=>by
   rw [hq r0 hr]
   exact ask1
  refine ⟨?_,fun k=>?_,z2⟩
  ·rcases this with w | w
   ·rw [w] at l0; exact absurd l0 (Nat.lt_irrefl _)
   ·exact w
  ·rw [Dw,← z1]
   exact Ds i2 rw k
theorem Tf {zs:List (V×Cll)} {m0:List (Int×Int)} {g0:List Nm} {r:List (V×Cll)} {gs:List Nm} (w:Wk zs m0 g0 r gs):∀ q∈r,q∈zs:=by
 induction w with
 | start=>intro q hq; cases hq
 | @step row gs q gs1 a s ih =>
  intro y hy
  rcases List.mem_append.mp hy with w | w
  ·exact ih y w
  ·rw [List.mem_singleton.mp w]
   rcases s with ⟨_,a,_⟩ | ⟨_,⟨a,_⟩,_⟩ <;> exact a
theorem M9 {ws:List V} {cs:List Cll} {m0:List (Int×Int)} {g0:List Nm} {r:List (V×Cll)} {gs:List Nm} (w:Wk (ws.zip cs) m0 g0 r gs):r.length + mz cs (stt m0 r)<=cs.length:=by
 induction w with
 | start =>
  have:=List.length_filter_le (fun q:Cll=>decide (ct m0 q.c < q.k)) cs
  show 0 + mz cs m0<=_
  unfold mz
  omega
 | @step row gs q gs1 a s ih =>
  have qm:q.2∈cs/\q.2.k=ct (stt m0 row) q.2.c + 1:=by
   rcases s with ⟨_,a,b,_⟩ | ⟨_,⟨a,b,_⟩,_⟩
   ·exact ⟨(List.of_mem_zip a).2,VJ b⟩
   ·exact ⟨(List.of_mem_zip a).2,by have:=(vD b).2; omega⟩
  have:=MN qm.1 qm.2
  rw [yO,List.length_append,List.length_singleton]
  omega
end
end K53
namespace K53
open PySem L2
abbrev oX:Stmt:=top 14
abbrev oW:Stmt:=top 15
abbrev mK:Stmt:=top 24
abbrev mG:Stmt:=top 36
abbrev jd:Stmt:=top 37
section
variable {P:Program} {w:World} {K:PySem.W.Frag} {mg:Str->Option Value} {base:Heap}
def rZ (K:PySem.W.Frag):Sp:=fun vs H Q _=>∃ h:Int,vs=[.int h]/\0<=h/\h<=1000/\Q (.int (2 ^ h.toNat)) H
theorem Kz:FnScope ["hand"] ["hand"] (au oX):=⟨rfl,rfl,rfl,by decide +kernel,rfl,by decide +kernel,by decide +kernel⟩
theorem KH {f :Addr} {fd :FuncData} (F:Fun K "bit_of" "bit_of" oX f fd):FnOk P w K mg base CX0 1 f fd ["hand"] (rZ K):=by
 refine F.ok Kz (fun vs H Q E h=>?_) (fun cdv A outer s H vs Q E hr h=>?_)
 ·obtain ⟨x,rfl,_⟩:=h
  rfl
 obtain ⟨x,rfl,h⟩:=h
 have hu64:=hr.units
 have hu0:=hr.units0
 have hu:=bD hr
 refine ⟨_,(aC (aU (DY (bh J3 (pv 0) aq (bx _)) (aR Nf aq (pv 0)) aq))),?_⟩
 obtain ⟨h0,h1,k⟩:=h
 refine ⟨_,rfl,_,_,rfl,rfl,_,rfl,?_⟩
 rw [decide_eq_true (show (0:Int)<=x from h0)]
 refine Ws ⟨_,rfl,_,_,rfl,rfl,⟨h0,by omega,by decide⟩,?_⟩
 show Q (.int (1 * 2 ^ x.toNat)) H
 rw [Int.one_mul]
 exact k
def orN (hs:List Int):Nat:=hs.foldl (fun s h=>s ||| 2 ^ h.toNat) 0
theorem Nk (hs:List Int) (h:Int):orN (hs ++ [h])=orN hs ||| 2 ^ h.toNat:=by
 unfold orN
 rw [List.foldl_append]
 rfl
theorem p2c (n:Nat):((2:Int) ^ n)=(((2:Nat) ^ n:Nat):Int):=by
 induction n with
 | zero=>rfl
 | succ n ih=>rw [Int.pow_succ,ih,Nat.pow_succ]; omega
theorem or_int (a b:Nat):Builtin.bitOr (a:Int) (b:Int)=((a ||| b:Nat):Int):=by
 rw [Qi (Int.natCast_nonneg _) (Int.natCast_nonneg _),Int.toNat_natCast,Int.toNat_natCast]
def vm (K:PySem.W.Frag):Sp:=fun vs H Q _=>∃ a:Addr,vs=[.ref a]/\∃ hs:List Int,SqL K H a (hs.map V.int)/\(∀ h∈hs,0<=h/\h < 63)/\Q (.int (orN hs:Nat)) H
theorem sc_set_of:FnScope ["some","hands","hand"] ["some"] (au oW):=⟨rfl,rfl,rfl,by decide +kernel,rfl,by decide +kernel,by decide +kernel⟩
theorem Kw {f rH:Addr} {fd oV:FuncData} (F:Fun K "set_of" "set_of" oW f fd)
  (xY:FnOk P w K mg base CX0 1 rH oV ["hand"] (rZ K)) (yQ:Cal K mg "bit_of" rH oV ["hand"]):FnOk P w K mg base CX0 2 f fd ["some"] (vm K):=by
 refine F.ok sc_set_of (fun vs H Q E h=>?_) (fun cdv A outer s H vs Q E hr h=>?_)
 ·obtain ⟨a,rfl,_⟩:=h
  rfl
 obtain ⟨a,rfl,h⟩:=h
 have hu64:=hr.units
 have hu0:=hr.units0
 have hu:=bD hr
 refine ⟨_,(aj (aM (i:=1) sc_set_of.nd rfl (Or.inl rfl) aq)
   (aj (cP PassesOwn.never rfl (bB (K:=K) rfl (pv 0)) (aX (i:=2) sc_set_of.nd rfl (Or.inl rfl))
   (aC (aM (i:=1) sc_set_of.nd rfl (Or.inl rfl) (aR Nh (pv 1) (bz xY yQ hr (aa (pv 2) ak))))))
   (aC (aU (pv 1))))),?_⟩
 obtain ⟨hs,hS,rg,k⟩:=h
 clean_wf
 refine fL (xs:=hs.map V.int) (fun i σ A=>A=H/\∃ v,σ=[some (.ref a),some (.int (orN (hs.take i):Nat)),v]) ⟨rfl,none,rfl⟩ (fun i σ A _ z=>by rw [z.1]; exact hS) ?_ ?_
 ·rintro i x σ A hx ⟨rfl,v,rfl⟩
  obtain ⟨n,hn,rfl⟩:=jJ hx
  obtain ⟨n0,n1⟩:=rg n (List.mem_of_getElem? hn)
  clean_wf
  refine ⟨n,rfl,n0,by omega,?_⟩
  clean_wf
  refine ⟨rfl,some (.int n),?_⟩
  rw [p2c,or_int,← Nk,← bc hn]
  rfl
 ·rintro σ A ⟨rfl,v,rfl⟩
  rw [List.length_map,List.take_length]
  clean_wf
  exact k
def uh (K:PySem.W.Frag) (mg:Str->Option Value):Sp:=fun vs H Q _=>∃ (v:V),vs=[v]/\∃ x,TldA H v x/\Wf x/\∀ H' p,Same H H'->H p=none->CllA K mg H' (.ref p) x->Q (.ref p) H'
theorem Hu:FnScope ["told"] ["told"] (au mK):=⟨rfl,rfl,rfl,by decide +kernel,rfl,by decide +kernel,by decide +kernel⟩
theorem Ib {f wD ao aB aA:Addr} {fd uO:FuncData} (F:Fun K "call_of" "call_of" mK f fd)
  (Gy:FnOk P w K mg base CX0 4 wD uO ["number","caller","count","kind","word","causes"] (o8 K mg)) (Ef:Cal K mg "make_call" wD uO ["number","caller","count","kind","word","causes"]) (aG:TCall K ao) (aQ:TCall K aB) (aP:TCall K aA) (aL:mg "HeardCall"=some (.ref ao)) (aV:mg "OneCall"=some (.ref aB)) (aZ:mg "OwnCall"=some (.ref aA)):FnOk P w K mg base CX0 5 f fd ["told"] (uh K mg):=by
 refine F.ok Hu (fun vs H Q E h=>?_) (fun cdv A outer s H vs Q E hr h=>?_)
 ·obtain ⟨v,rfl,_⟩:=h
  rfl
 obtain ⟨v,rfl,h⟩:=h
 have hu64:=hr.units
 have hu0:=hr.units0
 have hu:=bD hr
 refine ⟨_,(aC (aU (bz Gy Ef hr (aa (aW (aY (K:=K) rfl) (pv 0) aq (fun _ _=>rfl)) (aa (aW (aY (K:=K) rfl) (pv 0) aq (fun _ _=>rfl)) (aa (aW (aY (K:=K) rfl) (pv 0) aq (fun _ _=>rfl)) (aa (aW (aY (K:=K) rfl) (pv 0) aq (fun _ _=>rfl)) (aa (aW (aY (K:=K) rfl) (pv 0) aq (fun _ _=>rfl)) (aa (aW (aY (K:=K) rfl) (pv 0) aq (fun _ _=>rfl)) ak))))))))),?_⟩
 obtain ⟨x,⟨ta,tt,yy,rfl,h1,h2,h3⟩,wx,kk⟩:=h
 have st:SqT K H ta [.int x.n,.int x.c,.int x.k,.str x.kd,.int x.w,.ref tt]:=SqT.of h1
 clean_wf
 refine ⟨x.n,x.c,x.k,x.kd,x.w,tt,rfl,yy,wx.kd,wx.w,h2,fun A1 p C dx t' t1 hp kdc tc g1' gt'=>?_⟩
 refine kk A1 p t1 hp ⟨p,C,dx,t',_,rfl,kdc,tc,g1',gt',?_,wx.cs⟩
 by_cases z:x.kd="own"
 ·rw [if_pos z,wx.ow z]; exact .nil
 ·rw [if_neg z]; exact h3.mono (SmH.same t1)
theorem qJ {m:List (Int×Int)} (c:Ck m):m.length < 64:=by
 have:=rm c.nd (fun k hk=>by obtain ⟨p,hp,e⟩:=List.mem_map.mp hk; rw [← e]; exact c.rg p hp)
 rw [List.length_map] at this
 exact this
theorem Rj {m:List (Int×Int)} (t:Td m):iB m=m:=by
 unfold iB
 exact List.filter_eq_self.mpr fun p hp=>decide_eq_true (t.ps p hp)
abbrev Rp:=Int×List (Int×Int)×List Nm×Bool×List Cll
def RpA (H:Hp) (x:V) (r:Rp):Prop:=∃ t u c w xs ys,x=.ref t/\H t=some (.tup [.int r.1,.ref u,.ref c,.ref w,.bl r.2.2.2.1])/\H u=some (.tup xs)/\Prs H xs r.2.1/\(∃ zs,H c=some (.tup zs)/\Tls H zs r.2.2.2.2)/\H w=some (.tup ys)/\Nms H ys r.2.2.1
abbrev RpV (H:Hp):List V->List Rp->Prop:=Paired (RpA H)
theorem RpA.up {H H':Hp} (s:SmH H H') {x:V} {r:Rp} (h:RpA H x r):RpA H' x r:=by
 obtain ⟨t,u,c,w,xs,ys,e1,e2,e3,e4,⟨zs,z1,z2⟩,e6,e7⟩:=h
 exact ⟨t,u,c,w,xs,ys,e1,s _ _ e2,s _ _ e3,e4.mono s,⟨zs,s _ _ z1,cJ s z2⟩,s _ _ e6,e7.up s⟩
theorem nO {H H':Hp} (s:SmH H H') {xs:List V} {rs:List Rp} (h:RpV H xs rs):RpV H' xs rs:=Paired.mapP h fun _ _ z=>z.up s
def mxl (rs:List Rp) (k:Int):Int:=rs.foldl (fun c r=>max c (ct r.2.1 k)) 0
theorem GJ (rs:List Rp) (r:Rp) (k:Int):mxl (rs ++ [r]) k=max (mxl rs k) (ct r.2.1 k):=by
 unfold mxl
 rw [List.foldl_append]
 rfl
def ud (K:PySem.W.Frag):Sp:=fun vs H Q _=>∃ (a:Addr),vs=[.ref a]/\∃ xs rs,SqL K H a xs/\RpV H xs rs/\(∀ r∈rs,Td r.2.1)/\∀ H' d m,Same H H'->H d=none->H' d=some (.dK (dI m))->Td m->(∀ k,ct m k=mxl rs k)->Q (.ref d) H'
theorem sc_base_of:FnScope ["reports","base","report"] ["reports"] (au mG):=⟨rfl,rfl,rfl,by decide +kernel,rfl,by decide +kernel,by decide +kernel⟩
theorem Ie {f gP qD:Addr} {fd eZ oN:FuncData} (F:Fun K "base_of" "base_of" mG f fd)
  (mL:FnOk P w K mg base CX0 2 gP eZ ["pairs"] (km K)) (mR:Cal K mg "unpacked" gP eZ ["pairs"])
  (zL:FnOk P w K mg base CX0 2 qD oN ["one","other"] (rW K)) (yV:Cal K mg "joined" qD oN ["one","other"]):FnOk P w K mg base CX0 3 f fd ["reports"] (ud K):=by
 refine F.ok sc_base_of (fun vs H Q E h=>?_) (fun cdv A outer s H vs Q E hr h=>?_)
 ·obtain ⟨a,rfl,_⟩:=h
  rfl
 obtain ⟨a,rfl,h⟩:=h
 have hu64:=hr.units
 have hu0:=hr.units0
 have hu:=bD hr
 refine ⟨_,(aj (aM (i:=1) sc_base_of.nd rfl (Or.inl rfl) mX)
   (aj (cP PassesOwn.never rfl (bB (K:=K) rfl (pv 0)) (aX (i:=2) sc_base_of.nd rfl (Or.inl rfl))
   (aC (aM (i:=1) sc_base_of.nd rfl (Or.inl rfl) (bz zL yV hr (aa (pv 1) (aa (bz mL mR hr (aa (aW (aY (K:=K) rfl) (pv 2) aq (fun _ _=>rfl)) ak)) ak))))))
   (aC (aU (pv 1))))),?_⟩
 obtain ⟨xs,rs,hS,hx,ht,k⟩:=h
 have lx:xs.length=rs.length:=Paired.length hx
 clean_wf
 intro d H1 hd s1 g1
 have hS1:=s1.seq hS
 clean_wf
 refine fL (xs:=xs) (fun i σ A=>∃ v2 d m,σ=[some (.ref a),some (.ref d),v2]/\Same H A/\H d=none/\A d=some (.dK (dI m))/\Td m/\∀ k,ct m k=mxl (rs.take i) k) ⟨none,d,[],rfl,s1,hd,g1,Td.nil,fun k=>rfl⟩ (fun i σ A _ z=>by obtain ⟨_,_,_,_,z,_⟩:=z; exact z.seq hS) ?_ ?_
 ·rintro i x σ A hxi ⟨v2,d,m,rfl,sA,hd,gd,tm,cm⟩
  obtain ⟨r,hr,t,u,c,w,ps,ys,rfl,e1,e2,e3,e4,e5,e6⟩:=bu hx hxi
  have f1:=SqT.of (K:=K) (sA _ _ e1)
  have a1:atI [V.int r.1,.ref u,.ref c,.ref w,.bl r.2.2.2.1] 1=some (.ref u):=by kernel_rfl
  have tr:=ht r (List.mem_of_getElem? hr)
  clean_wf
  refine ⟨u,ps,r.2.1,rfl,.inr (SqT.of (sA _ _ e2)),e3.mono fun a xs z=>sA _ _ z,by have:=qJ tr.toCk; omega,tr.nd,fun A1 q s1' hq g1'=>?_⟩
  rw [Rj tr] at g1'
  clean_wf
  refine ⟨d,q,m,r.2.1,rfl,.inl (s1' _ _ gd),.inl g1',tm.toCk,tr.toCk,fun A2 q2 j s2 hq2 g2 tj mx=>?_⟩
  refine ⟨_,q2,j,rfl,sA.trans (s1'.trans s2),(sA.trans s1').free hq2,g2,tj,fun k=>?_⟩
  rw [bc hr,GJ,← cm k]
  exact Ae (mx k)
 rintro σ A ⟨v2,d,m,rfl,sA,hd,gd,tm,cm⟩
 rw [lx,List.take_length] at cm
 clean_wf
 exact k A d m sA hd gd tm cm
def fl1:List (List Nm)->List Nm
 | []=>[]
 | x :: xs=>if (fl1 xs).length<=x.length then x else fl1 xs
theorem CN:∀ {xs:List (List Nm)} {n:Nat},(∀ x∈xs,x.length<=n)->(fl1 xs).length<=n
 | [],_,_=>Nat.zero_le _
 | x :: xs,n,h=>by
  unfold fl1
  by_cases z:(fl1 xs).length<=x.length
  ·rw [if_pos z]; exact h x List.mem_cons_self
  ·rw [if_neg z]; exact CN fun y hy=>h y (List.mem_cons_of_mem _ hy)
theorem Ou:∀ {xs:List (List Nm)} {i:Nat} {x:List Nm},xs[i]?=some x->(∀ j m,(xs.map List.length)[j]?=some m->m<=x.length/\(j < i->m < x.length))->fl1 xs=x
 | [],_,_,e,_=>by simp at e
 | y :: xs,0,x,e,h=>by
  have e:y=x:=by simpa using e
  subst e
  unfold fl1
  rw [if_pos]
  refine CN fun z hz=>?_
  obtain ⟨j,hj⟩:=List.getElem?_of_mem hz
  exact (h (j + 1) z.length (by rw [List.map_cons,List.getElem?_cons_succ,List.getElem?_map,hj]; rfl)).1
 | y :: xs,i + 1,x,e,h=>by
  have ih:=Ou (xs:=xs) (i:=i) (x:=x) (by simpa using e) fun j m hm=>by
   have:=h (j + 1) m (by rw [List.map_cons,List.getElem?_cons_succ]; exact hm)
   exact ⟨this.1,fun w=>this.2 (by omega)⟩
  have h0:=(h 0 y.length rfl).2 (by omega)
  unfold fl1
  rw [ih,if_neg (by omega)]
abbrev PLs (H:Hp):List V->List (List Nm)->Prop:=Paired fun v nm=>∃ w ys,v=.ref w/\H w=some (.tup ys)/\Nms H ys nm
theorem MF {H H':Hp} (s:SmH H H') {xs:List V} {ns:List (List Nm)} (h:PLs H xs ns):PLs H' xs ns:=Paired.mapP h fun _ _ ⟨w,ys,e1,e2,e3⟩=>⟨w,ys,e1,s _ _ e2,e3.up s⟩
theorem JK {K:PySem.W.Frag} {H:Hp}:∀ {xs:List V} {ns:List (List Nm)},PLs H xs ns->TLs K H xs (ns.map List.length)
 | _,_,.nil=>.nil
 | _,_,.cons ⟨w,ys,e1,e2,e3⟩ t=>.cons ⟨w,ys,e1,SqT.of e2,e3.len⟩ (JK t)
def o6 (K:PySem.W.Frag):Sp:=fun vs H Q _=>∃ (a:Addr),vs=[.ref a]/\∃ xs rs,SqL K H a xs/\RpV H xs rs/\rs.length<=64/\∀ H' w ys,Same H H'->H' w=some (.tup ys)->Nms H' ys (fl1 (rs.map (·.2.2.1)))->Q (.ref w) H'
theorem CW:FnScope ["reports"] ["reports"] (au jd):=⟨rfl,rfl,rfl,by decide +kernel,rfl,by decide +kernel,by decide +kernel⟩
theorem CV {f :Addr} {fd :FuncData} (F:Fun K "places_of" "places_of" jd f fd) (dU:mg "len"=none) (Fj:mg "max"=none) (gj:mg "tuple"=none):FnOk P w K mg base CX0 1 f fd ["reports"] (o6 K):=by
 refine F.ok CW (fun vs H Q E h=>?_) (fun cdv A outer s H vs Q E hr h=>?_)
 ·obtain ⟨a,rfl,_⟩:=h
  rfl
 obtain ⟨a,rfl,h⟩:=h
 have hu64:=hr.units
 have hu0:=hr.units0
 have hu:=bD hr
 refine ⟨_,(aC (aU (bT (jj (K:=K) rfl) (by rfl) gj PyProof.Rows.boot_tuple (aa (K5 (K:=K) rfl rfl (aa (cZ ["report"] [none] rfl rfl (by kernel_rfl) (bB (K:=K) rfl (pv 0)) (fun _ _ _ _ _ nd=>aX (i:=0) nd rfl (Or.inl rfl)) (fun _ _ _ _ _=>kh) (fun _ _ _ _ _=>(aW (aY (K:=K) rfl) (pv 0) aq (fun _ _=>rfl)))) ak) (fu ak) (by rfl) Fj (by rfl) dU) ak)))),?_⟩
 obtain ⟨xs,rs,hS,hx,hl,k⟩:=h
 have lx:xs.length=rs.length:=Paired.length hx
 clean_wf
 intro E hE
 refine bQ (K:=K) (a:=a) (xs:=xs) (fun i σ A=>∃ v zs,σ=[v]/\Same H A/\A E=some (.lst zs)/\zs.length=i/\PLs A zs ((rs.take i).map (·.2.2.1))) ⟨none,[],rfl,aH hE,az,rfl,.nil⟩ ?_ ?_ ?_
 ·rintro i σ A _ ⟨_,_,_,z,_⟩
  exact z.seq hS
 ·rintro i x σ A hxi ⟨v,zs,rfl,sA,hEx,lz,pz⟩
  obtain ⟨r,hr,t,u,c,w,ps,ys,rfl,e1,e2,e3,e4,e5,e6⟩:=bu hx hxi
  have hi:=(List.getElem?_eq_some_iff.mp hr).1
  have f1:=SqT.of (K:=K) (sA _ _ e1)
  have a1:atI [V.int r.1,.ref u,.ref c,.ref w,.bl r.2.2.2.1] 3=some (.ref w):=by kernel_rfl
  clean_wf
  have kp:SmH A (upd A E (.lst (zs ++ [V.ref w]))):=SmH.lst hEx
  refine ⟨zs,hEx,aJ (by omega),_,zs ++ [.ref w],rfl,fun b o z=>?_,az,by rw [List.length_append,lz]; rfl,?_⟩
  ·rw [aF (aD z hE)]
   exact sA b o z
  ·rw [bc hr,List.map_append]
   exact dJ (MF kp pz) ⟨w,ys,rfl,kp _ _ (sA _ _ e5),e6.up fun a xs z=>kp _ _ (sA _ _ z)⟩
 rintro σ A ⟨v,zs,rfl,sA,hEx,lz,pz⟩
 rw [lx,List.take_length] at pz
 clean_wf
 intro z0 A1 hz s1 g1
 have pz1:=MF (fun a xs z=>s1 _ _ z) pz
 refine ⟨E,zs,_,rfl,SqL.of (s1 _ _ hEx),JK pz1,fun e=>?_,fun i v n hv hn best=>?_⟩
 ·have e0:rs.map (·.2.2.1)=[]:=by
   have:=Paired.length pz
   rw [e] at this
   exact List.length_eq_zero_iff.mp this.symm
  clean_wf
  refine ⟨z0,_,rfl,.inr ⟨SqT.of g1,?_⟩⟩
  refine k A1 z0 [] (sA.trans s1) g1 ?_
  rw [e0]
  exact .nil
 ·obtain ⟨nm,hnm,w,ys,rfl,gw,hw⟩:=bu pz1 hv
  rw [List.getElem?_map,hnm] at hn
  cases hn
  clean_wf
  refine ⟨w,ys,rfl,.inr ⟨SqT.of gw,?_⟩⟩
  refine k A1 w ys (sA.trans s1) gw ?_
  rw [Ou hnm best]
  exact hw
end
end K53
namespace K53
open PySem L2
abbrev d8:Stmt:=top 38
section
variable {P:Program} {w:World} {K:PySem.W.Frag} {mg:Str->Option Value} {base:Heap}
abbrev dM (x:Cll):List Key:=[Sum.inl x.n,Sum.inl x.c,Sum.inl x.k]
theorem vH {C:List Cll} (u:Inc C) {x y:Cll} (hx:x∈C) (hy:y∈C) (e1:x.c=y.c) (e2:x.k=y.k):x=y:=by
 have:=DK (ws:=C.map fun _=>V.non) u
 have mk:∀ z∈C,(V.non,z)∈(C.map fun _=>V.non).zip C:=by
  intro z hz
  obtain ⟨i,hi⟩:=List.getElem?_of_mem hz
  refine List.mem_of_getElem? (i:=i) ?_
  rw [List.getElem?_zip_eq_some]
  exact ⟨by rw [List.getElem?_map,hi]; rfl,hi⟩
 exact (Prod.mk.inj (this _ (mk x hx) _ (mk y hy) e1 e2)).2
theorem pH:∀ {cs C:List Cll},Inc cs->(∀ x∈cs,x∈C)->cs.length<=C.length
 | [],_,_,_=>Nat.zero_le _
 | x :: r,C,u,sub=>by
  obtain ⟨l1,l2,e⟩:=List.append_of_mem (sub x List.mem_cons_self)
  have u':=List.pairwise_cons.mp u
  have:=pH (cs:=r) (C:=l1 ++ l2) u'.2 fun y hy=>by
   have hy':=sub y (List.mem_cons_of_mem _ hy)
   rw [e] at hy'
   rcases List.mem_append.mp hy' with z | z
   ·exact List.mem_append_left _ z
   ·rcases List.mem_cons.mp z with z | z
    ·exact absurd (by rw [z]) (u'.1 y hy (by rw [z]))
    ·exact List.mem_append_right _ z
  rw [e]
  simp only [List.length_append,List.length_cons] at this ⊢
  omega
structure Bst (K:PySem.W.Frag) (mg:Str->Option Value) (H A:Hp) (D:Addr) (m:List (Int×Int)) (C0:List Cll) (kvs:List (List Key×V)) (cs pr:List Cll):Prop where
 sm:Same H A
 gD:A D=some (.dT kvs)
 ks:kvs.map (·.1)=cs.map dM
 cl:Iw K mg A (kvs.map (·.2)) cs
 ic:Inc cs
 sub:∀ x∈cs,x∈C0
 mem:∀ x,x∈cs↔x∈pr/\ct m x.c < x.k
theorem JH {kvs:List (List Key×V)} {cs C0:List Cll} (ks:kvs.map (·.1)=cs.map dM) (u:Inc C0) (sub:∀ x∈cs,x∈C0) {x:Cll} (hx:x∈C0):(x∈cs/\(fZ kvs (dM x)).isSome=true)∨(x∉cs/\(fZ kvs (dM x)).isSome=false):=by
 unfold fZ
 rw [Option.isSome_map]
 by_cases z:x∈cs
 ·refine .inl ⟨z,?_⟩
  rw [List.find?_isSome]
  have:dM x∈kvs.map (·.1):=by rw [ks]; exact List.mem_map.mpr ⟨x,z,rfl⟩
  obtain ⟨p,hp,e⟩:=List.mem_map.mp this
  exact ⟨p,hp,decide_eq_true e⟩
 ·refine .inr ⟨z,?_⟩
  cases e:kvs.find? (fun kv=>decide (kv.1=dM x)) with
  | none=>rfl
  | some p =>
   have h1:=List.mem_of_find?_eq_some e
   have h2:p.1=dM x:=by have:=List.find?_some e; simpa using this
   have:dM x∈cs.map dM:=by rw [← ks,← h2]; exact List.mem_map.mpr ⟨p,h1,rfl⟩
   obtain ⟨y,hy,ey⟩:=List.mem_map.mp this
   simp only [dM,List.cons.injEq,Sum.inl.injEq,and_true] at ey
   rw [vH u (sub y hy) hx ey.2.1 ey.2.2] at hy
   exact absurd hy z
theorem put_new {kvs:List (List Key×V)} {k:List Key} {v:V} (h:(fZ kvs k).isSome=false):putK kvs k v=kvs ++ [(k,v)]:=by
 unfold putK
 rw [oZ,if_neg]
 rw [h]
 exact Bool.false_ne_true
theorem JG {cs C0:List Cll} (u:Inc cs) (uC:Inc C0) (sub:∀ x∈cs,x∈C0) {x:Cll} (hx:x∈C0) (n:x∉cs):Inc (cs ++ [x]):=by
 unfold Inc
 rw [List.pairwise_append]
 refine ⟨u,List.pairwise_singleton _ _,fun a ha b hb e1 e2=>?_⟩
 rw [List.mem_singleton.mp hb] at e1 e2
 rw [vH uC (sub a ha) hx e1 e2] at ha
 exact n ha
abbrev rcs (rs:List Rp):List Cll:=rs.flatMap (·.2.2.2.2)
def lB (K:PySem.W.Frag) (mg:Str->Option Value):Sp:=fun vs H Q _=>∃ (d a:Addr),vs=[.ref d,.ref a]/\∃ m xs rs C0,Rd H d (.dK (dI m))/\SqL K H a xs/\RpV H xs rs/\(∀ x∈rcs rs,x∈C0)/\Inc C0/\C0.length<=16/\(∀ x∈C0,Wf x) /\
 ∀ H' l ws cs,Same H H'->H l=none->H' l=some (.lst ws)->Iw K mg H' ws cs->Inc cs->(∀ x∈cs,x∈C0)->(∀ x,x∈cs↔x∈rcs rs/\ct m x.c < x.k)->Q (.ref l) H'
theorem sc_calls_beyond:FnScope ["base","reports","calls","report","told","call"] ["base","reports"] (au d8):=⟨rfl,rfl,rfl,by decide +kernel,rfl,by decide +kernel,by decide +kernel⟩
theorem wX {f iJ bN Bp ao aB aA:Addr} {fd gW dC zO:FuncData} (F:Fun K "calls_beyond" "calls_beyond" d8 f fd)
  (ou:FnOk P w K mg base CX0 5 iJ gW ["counts","name"] (jK K)) (nP:Cal K mg "covers_name" iJ gW ["counts","name"])
  (bC:FnOk P w K mg base CX0 5 bN dC ["self"] (jq K)) (bF:Binds K dC ["self"] [])
  (La:FnOk P w K mg base CX0 5 Bp zO ["told"] (uh K mg)) (Lb:Cal K mg "call_of" Bp zO ["told"]) (jT:mg "list"=none) (aG:TCall K ao) (aQ:TCall K aB) (aP:TCall K aA) (aL:mg "HeardCall"=some (.ref ao)) (aV:mg "OneCall"=some (.ref aB)) (aZ:mg "OwnCall"=some (.ref aA)) (bA:Meth K ao "name" bN) (bH:Meth K aB "name" bN) (bG:Meth K aA "name" bN):FnOk P w K mg base CX0 6 f fd ["base","reports"] (lB K mg):=by
 refine F.ok sc_calls_beyond (fun vs H Q E h=>?_) (fun cdv A outer s H vs Q E hr h=>?_)
 ·obtain ⟨d,a,rfl,_⟩:=h
  rfl
 obtain ⟨d,a,rfl,h⟩:=h
 have hu64:=hr.units
 have hu0:=hr.units0
 have hu:=bD hr
 refine ⟨_,(aj (aM (i:=2) sc_calls_beyond.nd rfl (Or.inl rfl) EY)
   (aj (cP PassesOwn.never rfl (bB (K:=K) rfl (pv 1)) (aX (i:=3) sc_calls_beyond.nd rfl (Or.inl rfl))
   (aC (cP PassesOwn.never rfl (uU (K:=K) rfl (aW (aY (K:=K) rfl) (pv 3) aq (fun _ _=>rfl))) (aX (i:=4) sc_calls_beyond.nd rfl (Or.inl rfl))
   (aj (aM (i:=5) sc_calls_beyond.nd rfl (Or.inl rfl) (bz La Lb hr (aa (pv 4) ak)))
   (aC (dD (PW.pt (yf (VB (KJ hu (fY (MOk.cons aP.cl bG bC bF (MOk.cons aG.cl bA bC bF (MOk.cons aQ.cl bH bC bF MOk.nil))) (pv 5) hr) (pv 2))) (vf (tZ (fH K rfl (bz ou nP hr (aa (pv 0) (aa (fY (MOk.cons aP.cl bG bC bF (MOk.cons aG.cl bA bC bF (MOk.cons aQ.cl bH bC bF MOk.nil))) (pv 5) hr) ak)))))))) (aC (lU hu (pv 2) (fY (MOk.cons aP.cl bG bC bF (MOk.cons aG.cl bA bC bF (MOk.cons aQ.cl bH bC bF MOk.nil))) (pv 5) hr) (pv 5) rfl)) bJ))))))
   (aC (aU (bT (Fd rfl) (by rfl) jT PyProof.Rows.boot_list (aa (V1 PySem.F.plainAttrs_dict PySem.F.slot_dict_values PySem.F.type_dict_values My (pv 2)) ak)))))),?_⟩
 obtain ⟨m,xs,rs,C0,hd,hS,hx,sub,ic,lc,wf,kk⟩:=h
 have lx:xs.length=rs.length:=Paired.length hx
 clean_wf
 intro D hD
 have s1:=aH (o:=.dT []) hD
 have g1:(upd H D (.dT [])) D=some (.dT []):=az
 generalize upd H D (.dT [])=H1 at s1 g1 ⊢
 have hS1:=s1.seq hS
 clean_wf
 refine fL (xs:=xs) (fun i σ A=>∃ v3 v4 v5 kvs cs,σ=[some (.ref d),some (.ref a),some (.ref D),v3,v4,v5]/\Bst K mg H A D m C0 kvs cs (rcs (rs.take i))) ⟨none,none,none,[],[],rfl,s1,g1,rfl,.nil,List.Pairwise.nil,(fun _ z=>nomatch z),fun x=>⟨(fun z=>nomatch z),(fun z=>nomatch z.1)⟩⟩ (fun i σ A _ z=>by obtain ⟨_,_,_,_,_,_,z⟩:=z; exact z.sm.seq hS) ?_ ?_
 ·rintro i x σ A hxi ⟨v3,v4,v5,kvs,cs,rfl,B⟩
  obtain ⟨r,hr,t,u,c,w,ps,ys,rfl,e1,e2,e3,⟨zs,z1,z2⟩,e5,e6⟩:=bu hx hxi
  have f1:=SqT.of (K:=K) (B.sm _ _ e1)
  have a1:atI [V.int r.1,.ref u,.ref c,.ref w,.bl r.2.2.2.1] 2=some (.ref c):=by kernel_rfl
  have lz:zs.length=r.2.2.2.2.length:=Paired.length z2
  have f2:=SqT.of (K:=K) (B.sm _ _ z1)
  have rsub:∀ x∈r.2.2.2.2,x∈C0:=fun x hx=>sub x (List.mem_flatMap.mpr ⟨r,List.mem_of_getElem? hr,hx⟩)
  clean_wf
  refine uL (xs:=zs) (fun j σ A=>∃ v4 v5 kvs cs,σ=[some (.ref d),some (.ref a),some (.ref D),some (.ref t),v4,v5]/\Bst K mg H A D m C0 kvs cs (rcs (rs.take i) ++ r.2.2.2.2.take j)) ⟨v4,v5,kvs,cs,rfl,by rw [List.take_zero,List.append_nil]; exact B⟩ (fun j σ A _ z=>by obtain ⟨_,_,_,_,_,z⟩:=z; exact SqT.of (z.sm _ _ z1)) ?_ ?_
  ·clear B f1 f2 kvs cs v4 v5
   rintro j y σ A hyj ⟨v4,v5,kvs,cs,rfl,B⟩
   obtain ⟨x,hx2,tx⟩:=bu z2 hyj
   have xC:=rsub x (List.mem_of_getElem? hx2)
   have lcs:=pH B.ic B.sub
   have lk:kvs.length=cs.length:=by have:=congrArg List.length B.ks; rw [List.length_map,List.length_map] at this; exact this
   clean_wf
   refine ⟨y,rfl,x,tx.up (.same B.sm),wf x xC,fun A1 p t1 hp cA=>?_⟩
   obtain ⟨p',C,dx,tt,qs,ep,hk,hT,gp,gt,hq,hcs⟩:=id cA
   cases ep
   have pn:p≠D:=fun z=>by rw [z] at hp; rw [B.gD] at hp; cases hp
   have gD1:=t1 _ _ B.gD
   have hC:C=aA∨C=ao∨C=aB:=by
    rcases hk with ⟨_,e⟩ | ⟨_,e⟩ | ⟨_,e⟩
    ·rw [aZ] at e; cases e; exact .inl rfl
    ·rw [aL] at e; cases e; exact .inr (.inl rfl)
    ·rw [aV] at e; cases e; exact .inr (.inr rfl)
   have vk:=JH B.ks ic B.sub xC
   rw [bc hx2,← List.append_assoc]
   have fin:∀ A2,Same A1 A2->A2 D=some (.dT kvs)->(x∈cs∨¬ ct m x.c < x.k)->Bst K mg H A2 D m C0 kvs cs (rcs (rs.take i) ++ r.2.2.2.2.take j ++ [x]):=fun A2 t2 gD2 hno =>
    ⟨B.sm.trans (t1.trans t2),gD2,B.ks,iV (.same (t1.trans t2)) B.cl,B.ic,B.sub,fun y=>⟨fun hy=>⟨List.mem_append_left _ ((B.mem y).mp hy).1,((B.mem y).mp hy).2⟩,fun hy=>by
     rcases List.mem_append.mp hy.1 with z | z
     ·exact (B.mem y).mpr ⟨z,hy.2⟩
     ·rw [List.mem_singleton.mp z] at hy ⊢
      rcases hno with w | w
      ·exact w
      ·exact absurd hy.2 w⟩⟩
   rcases hC with rfl | rfl | rfl
   all_goals
    clean_wf
    refine ⟨p,rfl,_,dx,_,_,_,_,_,hT,gp,fun A2 u2 t2 hu2 g2=>?_⟩
    have gD2:=t2 _ _ gD1
    have gp2:=t2 _ _ gp
    clean_wf
    refine ⟨D,_,rfl,DGet.t (k:=dM x) gD2 g2,?_⟩
    rcases vk with ⟨zi,zv⟩ | ⟨zi,zv⟩
    ·rw [zv]
     clean_wf
     exact ⟨_,_,kvs,cs,rfl,fin A2 t2 gD2 (.inl zi)⟩
    ·rw [zv]
     clean_wf
     refine ⟨p,rfl,_,dx,_,_,_,_,_,hT,gp2,fun A3 u3 t3 hu3 g3=>?_⟩
     have gD3:=t3 _ _ gD2
     have gp3:=t3 _ _ gp2
     clean_wf
     refine ⟨d,u3,rfl,m,_,_,_,cX (B.sm.trans (t1.trans (t2.trans t3))) hd,SqT.of g3,?_⟩
     by_cases z:x.k<=ct m x.c
     ·rw [decide_eq_true z]
      clean_wf
      exact ⟨_,_,kvs,cs,rfl,fin A3 (t2.trans t3) gD3 (.inr (by omega))⟩
     ·rw [decide_eq_false z]
      clean_wf
      refine ⟨p,rfl,_,dx,_,_,_,_,_,hT,gp3,fun A4 u4 t4 hu4 g4=>?_⟩
      have gD4:=t4 _ _ gD3
      refine ⟨D,_,rfl,DPut.t (k:=dM x) gD4 g4 (aJ (by omega)),?_⟩
      rw [put_new zv]
      have b5:But D A4 (upd A4 D (.dT (kvs ++ [(dM x,.ref p)]))):=fun b hb=>aF hb
      have g5:(upd A4 D (.dT (kvs ++ [(dM x,.ref p)]))) D=some (.dT (kvs ++ [(dM x,.ref p)])):=az
      generalize upd A4 D (.dT (kvs ++ [(dM x,V.ref p)]))=A5 at b5 g5 ⊢
      have t14:=t1.trans (t2.trans (t3.trans t4))
      have k5:KpC A4 A5:=⟨fun q C dx fs e=>b5.at (fun z=>by rw [z,gD4] at e; cases e) e,fun q ys e=>b5.at (fun z=>by rw [z,gD4] at e; cases e) e⟩
      refine ⟨_,_,_,cs ++ [x],rfl,b5.same (B.sm.trans t14) hD,g5,?_,?_,JG B.ic ic B.sub xC zi,fun y hy=>?_,fun y=>?_⟩
      ·rw [List.map_append,List.map_append,B.ks]
       rfl
      ·rw [List.map_append]
       exact dJ (iV k5 (iV (.same t14) B.cl)) (CllA.up (KpC.trans (.same (t2.trans (t3.trans t4))) k5) cA)
      ·rcases List.mem_append.mp hy with w | w
       ·exact B.sub y w
       ·rw [List.mem_singleton.mp w]; exact xC
      ·rw [List.mem_append,List.mem_append,B.mem y,List.mem_singleton]
       constructor
       ·rintro (⟨w1,w2⟩ | w)
        ·exact ⟨.inl w1,w2⟩
        ·exact ⟨.inr w,by rw [w]; omega⟩
       ·rintro ⟨w1 | w1,w2⟩
        ·exact .inl ⟨w1,w2⟩
        ·exact .inr w1
  ·rintro σ A2 ⟨v4,v5,kvs,cs,rfl,B⟩
   rw [lz,List.take_length] at B
   refine ⟨_,v4,v5,kvs,cs,rfl,?_⟩
   rw [bc hr,show rcs (rs.take i ++ [r])=rcs (rs.take i) ++ r.2.2.2.2 by unfold rcs; rw [List.flatMap_append]; simp]
   exact B
 rintro σ A ⟨v3,v4,v5,kvs,cs,rfl,B⟩
 rw [lx,List.take_length] at B
 have lcs:=pH B.ic B.sub
 have lk:kvs.length=cs.length:=by have:=congrArg List.length B.ks; rw [List.length_map,List.length_map] at this; exact this
 clean_wf
 refine ⟨.inr (.inr (.inl ⟨rfl,.inr ⟨kvs,B.gD⟩⟩)),D,kvs,rfl,rfl,B.gD,fun v hv=>?_⟩
 have s2:=aH (o:=VwO v D) hv
 have g2:(upd A v (VwO v D)) v=some (VwO v D):=az
 generalize upd A v (VwO v D)=A2 at s2 g2 ⊢
 refine ⟨v,D,kvs,rfl,g2,.inl (s2 _ _ B.gD),by omega,fun l hl=>?_⟩
 have s3:=aH (o:=.lst (kvs.map (·.2))) hl
 exact kk _ l _ cs (B.sm.trans (s2.trans s3)) ((B.sm.trans s2).free hl) az (iV (.same (s2.trans s3)) B.cl) B.ic B.sub B.mem
end
end K53
namespace K53
open PySem L2
abbrev iu:Stmt:=top 39
section
variable {P:Program} {w:World} {K:PySem.W.Frag} {mg:Str->Option Value} {base:Heap}
def PlR (rs:List Rp) (xs:List Cll):Prop:=∃ (m:List (Int×Int)) (ws:List V) (cs:List Cll) (row:List (V×Cll)) (gs:List Nm) (m':List (Int×Int)),(∀ k,ct m k=mxl rs k)/\ws.length=cs.length/\Inc cs/\(∀ x,x∈cs↔x∈rcs rs/\ct m x.c < x.k)/\Pw ws cs m (fl1 (rs.map (·.2.2.1))) row gs m'/\LaR (ws.zip cs) m' none/\xs=row.map (·.2)
structure Rok (rs:List Rp) (C0:List Cll):Prop where
 len:rs.length<=5
 td:∀ r∈rs,Td r.2.1
 h0:∀ r∈rs,0<=r.1/\r.1 < 63
 pl:∀ r∈rs,r.2.2.1.length<=16
 sub:∀ x∈rcs rs,x∈C0
 ic:Inc C0
 lc:C0.length<=16
 wf:∀ x∈C0,Wf x
abbrev XR (wi hn:Int):Int:=Builtin.bitAnd wi (Builtin.bitNot hn)
def nU (K:PySem.W.Frag) (mg:Str->Option Value):Sp:=fun vs H Q _=>∃ (me hn:Int) (a:Addr) (wi:Int),vs=[.int me,.int hn,.ref a,.int wi]/\∃ xs rs C0,0<=me/\me < 63/\SqL K H a xs/\RpV H xs rs/\Rok rs C0 /\
 ∀ H' t u ys cs,Same H H'->H t=none->H' t=some (.tup [.int (orN (rs.map (·.1)):Nat),.int (Builtin.bitOr (Builtin.bitOr (orN ((rs.filter (fun r=>!r.2.2.2.1)).map (·.1)):Nat) (2 ^ me.toNat)) (XR wi hn)),.int (XR wi hn),.ref u])->H' u=some (.tup ys)->Tls H' ys cs->PlR rs cs->(∀ x∈cs,x∈C0)->Q (.ref t) H'
theorem sc_first_plan:FnScope ["me","hands","reports","wishes","base","row","on","staying","new"] ["me","hands","reports","wishes"] (au iu):=⟨rfl,rfl,rfl,by decide +kernel,rfl,by decide +kernel,by decide +kernel⟩
theorem zQ {f Ec ni rH Gk Ar wB qL ao aB aA:Addr} {fd Al uQ oV Aj yh uM qd:FuncData} (F:Fun K "first_plan" "first_plan" iu f fd)
  (Pj:FnOk P w K mg base CX0 7 Ec Al ["counts","calls","places"] (vK K mg)) (Nb:Cal K mg "placed" Ec Al ["counts","calls","places"])
  (rE:FnOk P w K mg base CX0 7 ni uQ ["self"] (o9 K mg)) (qt:Binds K uQ ["self"] [])
  (xY:FnOk P w K mg base CX0 7 rH oV ["hand"] (rZ K)) (yQ:Cal K mg "bit_of" rH oV ["hand"])
  (Ei:FnOk P w K mg base CX0 7 Gk Aj ["some"] (vm K)) (En:Cal K mg "set_of" Gk Aj ["some"])
  (K3:FnOk P w K mg base CX0 7 Ar yh ["reports"] (ud K)) (KZ:Cal K mg "base_of" Ar yh ["reports"])
  (Gh:FnOk P w K mg base CX0 7 wB uM ["reports"] (o6 K)) (Gq:Cal K mg "places_of" wB uM ["reports"])
  (yM:FnOk P w K mg base CX0 7 qL qd ["base","reports"] (lB K mg)) (xT:Cal K mg "calls_beyond" qL qd ["base","reports"]) (gj:mg "tuple"=none) (aG:TCall K ao) (aQ:TCall K aB) (aP:TCall K aA) (aL:mg "HeardCall"=some (.ref ao)) (aV:mg "OneCall"=some (.ref aB)) (aZ:mg "OwnCall"=some (.ref aA)) (jz:Meth K ao "told" ni) (lJ:Meth K aB "told" ni) (lE:Meth K aA "told" ni):FnOk P w K mg base CX0 8 f fd ["me","hands","reports","wishes"] (nU K mg):=by
 refine F.ok sc_first_plan (fun vs H Q E h=>?_) (fun cdv A outer s H vs Q E hr h=>?_)
 ·obtain ⟨me,hn,a,wi,rfl,_⟩:=h
  rfl
 obtain ⟨me,hn,a,wi,rfl,h⟩:=h
 have hu64:=hr.units
 have hu0:=hr.units0
 have hu:=bD hr
 refine ⟨_,(aj (aM (i:=4) sc_first_plan.nd rfl (Or.inl rfl) (bz K3 KZ hr (aa (pv 2) ak)))
   (aj (aM (i:=5) sc_first_plan.nd rfl (Or.inl rfl) (aW (aY (K:=K) rfl) (bz Pj Nb hr (aa (pv 4) (aa (bz yM xT hr (aa (pv 4) (aa (pv 2) ak))) (aa (bz Gh Gq hr (aa (pv 2) ak)) ak)))) aq (fun _ _=>rfl)))
   (aj (aM (i:=6) sc_first_plan.nd rfl (Or.inl rfl) (bz Ei En hr (aa (cZ ["report"] [none] rfl rfl (by kernel_rfl) (bB (K:=K) rfl (pv 2)) (fun _ _ _ _ _ nd=>aX (i:=0) nd rfl (Or.inl rfl)) (fun _ _ _ _ _=>kh) (fun _ _ _ _ _=>(aW (aY (K:=K) rfl) (pv 0) aq (fun _ _=>rfl)))) ak)))
   (aj (aM (i:=7) sc_first_plan.nd rfl (Or.inl rfl) (bz Ei En hr (aa (cZ ["report"] [none] rfl rfl (by kernel_rfl) (bB (K:=K) rfl (pv 2)) (fun _ _ _ _ _ nd=>aX (i:=0) nd rfl (Or.inl rfl)) (fun _ _ _ _ _=>(jn (tZ (T3 (aW (aY (K:=K) rfl) (pv 0) aq (fun _ _=>rfl)))))) (fun _ _ _ _ _=>(aW (aY (K:=K) rfl) (pv 0) aq (fun _ _=>rfl)))) ak)))
   (aj (aM (i:=8) sc_first_plan.nd rfl (Or.inl rfl) (aR Vd (pv 3) (Th VV (pv 1))))
   (aC (aU (fu (aa (pv 6) (aa (aR Nh (aR Nh (pv 7) (bz xY yQ hr (aa (pv 0) ak))) (pv 8)) (aa (pv 8) (aa (bT (jj (K:=K) rfl) (by rfl) gj PyProof.Rows.boot_tuple (aa (cZ ["call"] [none] rfl rfl (by kernel_rfl) (bB (K:=K) rfl (pv 5)) (fun _ _ _ _ _ nd=>aX (i:=0) nd rfl (Or.inl rfl)) (fun _ _ _ _ _=>kh) (fun _ _ _ _ _=>(fY (MOk.cons aP.cl lE rE qt (MOk.cons aG.cl jz rE qt (MOk.cons aQ.cl lJ rE qt MOk.nil))) (pv 0) hr))) ak)) ak)))))))))))),?_⟩
 obtain ⟨xs,rs,C0,m0,m1,hS,hx,R,kk⟩:=h
 have lx:xs.length=rs.length:=Paired.length hx
 have lr:=R.len
 clean_wf
 refine ⟨a,rfl,xs,rs,hS,hx,R.td,fun H1 d m s1 hd gd tm cm=>?_⟩
 clean_wf
 refine ⟨d,a,rfl,m,xs,rs,C0,.inl gd,s1.seq hS,nO (.same s1) hx,R.sub,R.ic,R.lc,R.wf,fun H2 l ws cs s2 hl gl hc ic sb mem=>?_⟩
 have s02:=s1.trans s2
 clean_wf
 refine ⟨a,rfl,xs,rs,s02.seq hS,nO (.same s02) hx,by omega,fun H3 pw ys s3 gp hn3=>?_⟩
 have lcs:=pH ic sb
 have lcC:=R.lc
 have s03:=s02.trans s3
 have pl16:(fl1 (rs.map (·.2.2.1))).length<=16:=CN fun x hx=>by
  obtain ⟨r,hr,rfl⟩:=List.mem_map.mp hx
  exact R.pl r hr
 clean_wf
 refine ⟨d,l,pw,rfl,m,ws,cs,ys,_,.inl (s3 _ _ (s2 _ _ gd)),tm.toCk,SqL.of (s3 _ _ gl),iV (.same s3) hc,by omega,DK ic,fun x hx=>⟨(R.wf x (sb x hx)).c0,(R.wf x (sb x hx)).c1⟩,.inr (SqT.of gp),hn3,by omega,fun H4 t0 l0 g0 rw zs gs m' s4 hl0 hg0 gt0 gl0 gg0 nm pww la=>?_⟩
 have gT0:SqT K H4 t0 [.ref l0,.ref g0]:=SqT.of gt0
 have s04:=s03.trans s4
 have ru:=DK (ws:=ws) ic
 have lw:ws.length=cs.length:=Paired.length hc
 obtain ⟨wk,_,_⟩:=S8 ru lw pww
 have rz:=Tf wk
 have rlen:rw.length<=cs.length:=by have:=M9 wk; omega
 have hS4:=s04.seq hS
 clean_wf
 intro E hE
 refine bQ (K:=K) (a:=a) (xs:=xs) (fun i σ A=>∃ v,σ=[v]/\Same H4 A/\A E=some (.lst (((rs.take i).map (·.1)).map V.int))) ⟨none,rfl,aH hE,az⟩ ?_ ?_ ?_
 ·rintro i σ A _ ⟨_,_,z,_⟩
  exact z.seq hS4
 ·rintro i x σ A hxi ⟨v,rfl,sA,gE⟩
  obtain ⟨r,hr,t,u,c,w,ps,ys',rfl,e1,e2,e3,e4,e5,e6⟩:=bu hx hxi
  have f1:=SqT.of (K:=K) (sA _ _ (s04 _ _ e1))
  have a1:atI [V.int r.1,.ref u,.ref c,.ref w,.bl r.2.2.2.1] 0=some (.int r.1):=by kernel_rfl
  have hi:=(List.getElem?_eq_some_iff.mp hr).1
  clean_wf
  refine ⟨_,gE,aJ (by simp; omega),_,rfl,fun b o z=>?_,?_⟩
  ·rw [aF (aD z hE)]
   exact sA b o z
  ·rw [az,bc hr,List.map_append,List.map_append]
   rfl
 rintro σ A ⟨v,rfl,sA,gE⟩
 rw [lx,List.take_length] at gE
 clean_wf
 refine ⟨E,rfl,rs.map (·.1),SqL.of gE,fun h hh=>?_,?_⟩
 ·obtain ⟨r,hr,rfl⟩:=List.mem_map.mp hh
  exact R.h0 r hr
 have hSA:=sA.seq hS4
 have s0A:=s04.trans sA
 clear gE hE v
 clean_wf
 intro E2 hE2
 refine bQ (K:=K) (a:=a) (xs:=xs) (fun i σ B=>∃ v,σ=[v]/\Same A B/\B E2=some (.lst ((((rs.take i).filter (fun r=>!r.2.2.2.1)).map (·.1)).map V.int))) ⟨none,rfl,aH hE2,az⟩ ?_ ?_ ?_
 ·rintro i σ B _ ⟨_,_,z,_⟩
  exact z.seq hSA
 ·rintro i x σ B hxi ⟨v,rfl,sB,gE⟩
  obtain ⟨r,hr,t,u,c,w,ps,ys',rfl,e1,e2,e3,e4,e5,e6⟩:=bu hx hxi
  have f1:=SqT.of (K:=K) (sB _ _ (s0A _ _ e1))
  have a1:atI [V.int r.1,.ref u,.ref c,.ref w,.bl r.2.2.2.1] 0=some (.int r.1):=by kernel_rfl
  have a4:atI [V.int r.1,.ref u,.ref c,.ref w,.bl r.2.2.2.1] 4=some (.bl r.2.2.2.1):=by kernel_rfl
  have hi:=(List.getElem?_eq_some_iff.mp hr).1
  have lf:=List.length_filter_le (fun r:Rp=>!r.2.2.2.1) (rs.take i)
  rw [List.length_take] at lf
  rw [bc hr,List.filter_append]
  cases hb:r.2.2.2.1 with
  | true =>
   rw [hb] at f1 a1 a4
   clean_wf
   refine ⟨_,rfl,sB,?_⟩
   rw [gE]
   simp [hb]
  | false =>
   rw [hb] at f1 a1 a4
   clean_wf
   refine ⟨_,gE,aJ (by simp; omega),_,rfl,fun b o z=>?_,?_⟩
   ·rw [aF (aD z hE2)]
    exact sB b o z
   ·rw [az]
    simp [hb]
 rintro σ B ⟨v,rfl,sB,gE⟩
 rw [lx,List.take_length] at gE
 clean_wf
 refine ⟨E2,rfl,(rs.filter (fun r=>!r.2.2.2.1)).map (·.1),SqL.of gE,fun h hh=>?_,?_⟩
 ·obtain ⟨r,hr,rfl⟩:=List.mem_map.mp hh
  exact R.h0 r (List.mem_filter.mp hr).1
 have s4B:=sA.trans sB
 have glB:=s4B _ _ gl0
 have hcB:=iV (.same (s3.trans (s4.trans s4B))) hc
 clear gE hE2 v
 clean_wf
 refine ⟨me,rfl,m0,by omega,?_⟩
 clean_wf
 intro E3 hE3
 refine bQ (K:=K) (a:=l0) (xs:=rw.map (·.1)) (fun i σ A'=>∃ v ys,σ=[v]/\Same B A'/\A' E3=some (.lst ys)/\Tls A' ys ((rw.take i).map (·.2))) ⟨none,[],rfl,aH hE3,az,.nil⟩ ?_ ?_ ?_
 ·rintro i σ A' _ ⟨_,_,_,z,_⟩
  exact SqL.of (z _ _ glB)
 ·rintro i v σ A' hxi ⟨v0,ys3,rfl,sC,gE,py⟩
  rw [List.getElem?_map] at hxi
  cases eq:rw[i]? with
  | none=>rw [eq] at hxi; cases hxi
  | some q =>
   rw [eq] at hxi
   cases hxi
   obtain ⟨qv,qx⟩:=q
   have hi:=(List.getElem?_eq_some_iff.mp eq).1
   have cA:CllA K mg A' qv qx:=sG (iV (.same sC) hcB) (rz _ (List.mem_of_getElem? eq))
   obtain ⟨p,C,dx,tt,qs,ep,hk,hT,gp,gt,hq,hcs⟩:=id cA
   subst ep
   have ly:=Paired.length py
   rw [List.length_map,List.length_take] at ly
   rw [bc eq,List.map_append]
   have hC:C=aA∨C=ao∨C=aB:=by
    rcases hk with ⟨_,e⟩ | ⟨_,e⟩ | ⟨_,e⟩
    ·rw [aZ] at e; cases e; exact .inl rfl
    ·rw [aL] at e; cases e; exact .inr (.inl rfl)
    ·rw [aV] at e; cases e; exact .inr (.inr rfl)
   rcases hC with rfl | rfl | rfl
   all_goals
    clean_wf
    refine ⟨.ref p,rfl,qx,cA,fun A2 t2 s2 ht2 tl=>?_⟩
    have gE2:=s2 _ _ gE
    have kp:SmH A2 (upd A2 E3 (.lst (ys3 ++ [.ref t2]))):=SmH.lst gE2
    refine ⟨ys3,gE2,aJ (by omega),_,ys3 ++ [.ref t2],rfl,fun b o z=>?_,az,dJ (cJ kp (cJ (.same s2) py)) (tl.up kp)⟩
    rw [aF (aD z hE3)]
    exact s2 _ _ (sC b o z)
 rintro σ A' ⟨v0,ys3,rfl,sC,gE,py⟩
 rw [List.length_map,List.take_length] at py
 have ly:=Paired.length py
 rw [List.length_map] at ly
 clean_wf
 intro u H5 hu5 s5 g5
 clean_wf
 intro t H6 ht s6 g6
 have s0B:=s04.trans s4B
 have s06:=s0B.trans (sC.trans (s5.trans s6))
 exact kk H6 t u ys3 _ s06 ((s0B.trans (sC.trans s5)).free ht) g6 (s6 _ _ g5) (cJ (.same (s5.trans s6)) py) ⟨m,ws,cs,rw,gs,m',cm,lw,ic,mem,pww,la,rfl⟩ fun x hx=>by
  obtain ⟨q,hq,rfl⟩:=List.mem_map.mp hx
  exact sb _ (List.of_mem_zip (rz q hq)).2
end
end K53
namespace K53
open PySem L2
abbrev eF:Stmt:=top 41
abbrev fW:Stmt:=top 42
abbrev iy:Stmt:=top 44
abbrev jV:Stmt:=top 43
abbrev jk:Stmt:=top 48
section
variable {P:Program} {w:World} {K:PySem.W.Frag} {mg:Str->Option Value} {base:Heap}
def lK (K:PySem.W.Frag):Sp:=fun vs H Q _=>∃ (a:Addr) (k:Int),vs=[.ref a,.int k]/\∃ ns:List Int,SqL K H a (ns.map V.int)/\0<=k/\∀ c:Int,Q (.int c) H
theorem wV:FnScope ["_law_script","_law_k"] ["_law_script","_law_k"] (au eF):=⟨rfl,rfl,rfl,by decide +kernel,rfl,by decide +kernel,by decide +kernel⟩
theorem wQ {f :Addr} {fd :FuncData} (F:Fun K "_law_cell_at" "_law_cell_at" eF f fd) (dU:mg "len"=none):FnOk P w K mg base CX0 1 f fd ["_law_script","_law_k"] (lK K):=by
 refine F.ok wV (fun vs H Q E h=>?_) (fun cdv A outer s H vs Q E hr h=>?_)
 ·obtain ⟨a,k,rfl,_⟩:=h
  rfl
 obtain ⟨a,k,rfl,h⟩:=h
 have hu64:=hr.units
 have hu0:=hr.units0
 have hu:=bD hr
 refine ⟨_,(aj (dD (bh zj (pv 1) (bw (bY (K:=K) rfl) (by rfl) dU PySem.boot_len (aa (pv 0) ak)) (bx _)) (aC (aU (aW (bf (K:=K) rfl) (pv 0) (pv 1) (fun _ _=>rfl)))) bJ)
   (aC (aU aq))),?_⟩
 obtain ⟨ns,hS,h0,q⟩:=h
 clean_wf
 refine fJ (fun h1=>?_) fun h1=>?_
 ·have h1:k < ((ns.map V.int).length:Nat):=of_decide_eq_true h1
  rw [List.length_map] at h1
  have hx:k.toNat < ns.length:=by omega
  have hat:atI (ns.map V.int) k=some (V.int ns[k.toNat]):=rK h0 (by rw [List.getElem?_map,List.getElem?_eq_getElem hx]; rfl)
  clean_wf
  exact q _
 ·clean_wf
  exact q _
theorem Yq (ns:List Int):dz (ns.map V.int) (some 1) none=(ns.drop 1).map V.int:=by
 unfold dz
 show ((ns.map V.int).drop (HT.sIx (ns.map V.int).length 0 (some 1))).take _=_
 have e1:HT.sIx (ns.map V.int).length 0 (some 1)=min 1 (ns.map V.int).length:=by
  show (if (1:Int) < 0 then ((1:Int) + ((ns.map V.int).length:Nat)).toNat else min (1:Int).toNat (ns.map V.int).length)=_
  rw [if_neg (by decide)]
  rfl
 have e2:HT.sIx (ns.map V.int).length (ns.map V.int).length none=(ns.map V.int).length:=rfl
 rw [e1,e2,List.map_drop]
 cases ns with
 | nil=>rfl
 | cons x ns =>
  rw [List.map_cons,List.length_cons,show min 1 ((ns.map V.int).length + 1)=1 by omega,List.drop_one,List.tail_cons]
  exact List.take_of_length_le (by omega)
def Mx (x:Int):Prop:=0<=x/\x < 10000000000
theorem pow10:(10:Int) ^ (10:Int).toNat=10000000000:=by decide
theorem Oe:(0:Int) < (10:Int) ^ (10:Int).toNat:=by rw [pow10]; decide
def dW (K:PySem.W.Frag):Sp:=fun vs H Q _=>∃ (c n:Int),vs=[.int c,.int n]/\0<=n/\n<=100/\∀ H' l (xs:List Int),Same H H'->H l=none->H' l=some (.lst (xs.map V.int))->xs.length=n.toNat->(∀ x∈xs,Mx x)->Q (.ref l) H'
theorem sc__law_stream:FnScope ["_law_cell","_law_amount","_law_found","_law_rest","_law_k","_law_number"] ["_law_cell","_law_amount"] (au fW):=⟨rfl,rfl,rfl,by decide +kernel,rfl,by decide +kernel,by decide +kernel⟩
theorem zy {f :Addr} {fd :FuncData} (F:Fun K "_law_stream" "_law_stream" fW f fd) (iz:mg "range"=none):FnOk P w K mg base CX0 1 f fd ["_law_cell","_law_amount"] (dW K):=by
 refine F.ok sc__law_stream (fun vs H Q E h=>?_) (fun cdv A outer s H vs Q E hr h=>?_)
 ·obtain ⟨c,n,rfl,_⟩:=h
  rfl
 obtain ⟨c,n,rfl,h⟩:=h
 have hu64:=hr.units
 have hu0:=hr.units0
 have hu:=bD hr
 refine ⟨_,(aj (aM (i:=2) sc__law_stream.nd rfl (Or.inl rfl) (dR ak))
   (aj (aM (i:=3) sc__law_stream.nd rfl (Or.inl rfl) (aR j9 (pv 0) aq))
   (aj (dD (bh sO (aR cj (pv 0) aq) aq (bx _)) (aj (cP PassesOwn.never rfl (jU rfl iz (aa (pv 1) ak)) (aX (i:=4) sc__law_stream.nd rfl (Or.inl rfl))
   (aj (jy (gH (K:=K) rfl (rA PySem.F.plainAttrs_list PySem.F.slot_list_append PySem.F.type_list_append iC (pv 2) (aa (aR cj (pv 3) (aR vY aq aq)) ak))))
   (aC (aM (i:=3) sc__law_stream.nd rfl (Or.inl rfl) (aR Fz (pv 3) (aR vY aq aq))))))
   (aC (aU (pv 2)))) bJ)
   (aj (aM (i:=5) sc__law_stream.nd rfl (Or.inl rfl) (aR cB (aR cj (pv 3) aq) aq))
   (aj (cP PassesOwn.never rfl (jU rfl iz (aa (aR cB (pv 1) aq) ak)) (aX (i:=4) sc__law_stream.nd rfl (Or.inl rfl))
   (aj (aM (i:=5) sc__law_stream.nd rfl (Or.inl rfl) (aR cj (aR cB (aR cB (aR qG (pv 5) (pv 5)) (aR qG aq (pv 5))) (pv 4)) aq))
   (aC (jy (gH (K:=K) rfl (rA PySem.F.plainAttrs_list PySem.F.slot_list_append PySem.F.type_list_append iC (pv 2) (aa (aR cj (aR qG (pv 5) (aR cB (aR j9 (pv 5) aq) aq)) aq) ak)))))))
   (aC (aU (cR (kE (K:=K) rfl) (pv 2) (cY aq) iM)))))))),?_⟩
 obtain ⟨h0,h1,k⟩:=h
 have p10:=Oe
 clean_wf
 intro l H1 hl s1 g1
 clean_wf
 refine Fy (fun σ' H2=>σ'=[some (.int c),some (.int n),some (.ref l),some (.int (c / 2)),none,none]/\Same H H2/\H2 l=some (.lst [])) ?_ fun N rest=>?_
 ·rintro σ' H2 ⟨rfl,s2,g2⟩
  clean_wf
  refine ⟨_,rfl,by omega,by omega,?_⟩
  have c0:=Int.emod_nonneg (c / 2) (show (2147483647:Int)≠0 by decide)
  have c1:=Int.emod_lt_of_pos (c / 2) (show (0:Int) < 2147483647 by decide)
  refine mJ (fun i σ H'=>∃ v num xs,σ=[some (.int c),some (.int n),some (.ref l),some (.int (c / 2)),v,some (.int num)]/\Same H H'/\H' l=some (.lst ((xs:List Int).map V.int))/\xs.length=i/\(∀ x∈xs,Mx x)/\0<=num/\num < 4294967296)
   ⟨none,_,[],rfl,s2,g2,rfl,(fun _ z=>nomatch z),by omega,by omega⟩ ?_ ?_
  ·rintro i σ H' hi ⟨v,num,xs,rfl,sm,hl',lx,hm,n0,n1⟩
   have m1:CMul num num:=.inl ⟨by omega,by omega⟩
   have m2:CMul 48271 num:=.inl ⟨by decide,by decide⟩
   have le:(xs.map V.int).length<=1000:=by rw [List.length_map]; omega
   have ls:=aJ le
   have z0:=Int.emod_nonneg (num * num + 48271 * num + (0 + (i:Int))) (show (2147483647:Int)≠0 by decide)
   have z1:=Int.emod_lt_of_pos (num * num + 48271 * num + (0 + (i:Int))) (show (0:Int) < 2147483647 by decide)
   have m3:∀ y,CMul ((num * num + 48271 * num + (0 + (i:Int))) % 2147483647) y:=fun y=>.inl ⟨by omega,by omega⟩
   have m4:=m3 ((num * num + 48271 * num + (0 + (i:Int))) % 2147483647 / 613 + 40692)
   clean_wf
   intro H2 b2 g2
   generalize (num * num + 48271 * num + (0 + (i:Int))) % 2147483647=w at z0 z1 m4 g2 ⊢
   have y0:=Int.emod_nonneg (w * (w / 613 + 40692)) (show (2147483399:Int)≠0 by decide)
   have y1:=Int.emod_lt_of_pos (w * (w / 613 + 40692)) (show (0:Int) < 2147483399 by decide)
   refine ⟨_,_,xs ++ [w * (w / 613 + 40692) % 2147483399],rfl,b2.same sm hl,by rw [g2,List.map_append]; rfl,by rw [List.length_append,lx]; rfl,fun x hx=>?_,z0,by omega⟩
   rcases List.mem_append.mp hx with z | z
   ·exact hm x z
   ·rw [List.mem_singleton.mp z]
    exact ⟨y0,by omega⟩
  rintro σ H' ⟨v,num,xs,rfl,sm,hl',lx,hm,n0,n1⟩
  clean_wf
  intro q H2 hq s2 g2
  rw [Yq] at g2
  refine k H2 q (xs.drop 1) (sm.trans s2) (sm.free hq) g2 (by rw [List.length_drop,lx]; omega) fun x hx=>hm x (List.mem_of_mem_drop hx)
 clean_wf
 refine fJ (fun _=>?_) fun _=>?_
 ·clean_wf
  refine ⟨_,rfl,by omega,by omega,?_⟩
  refine mJ (fun i σ H'=>∃ v r xs,σ=[some (.int c),some (.int n),some (.ref l),some (.int r),v,none]/\Same H H'/\H' l=some (.lst ((xs:List Int).map V.int))/\xs.length=i/\(∀ x∈xs,Mx x))
   ⟨none,_,[],rfl,s1,g1,rfl,(fun _ z=>nomatch z)⟩ ?_ ?_
  ·rintro i σ H' hi ⟨v,r,xs,rfl,sm,hl',lx,hm⟩
   have le:(xs.map V.int).length<=1000:=by rw [List.length_map]; omega
   have ls:=aJ le
   have cd:∀ z,Pq z (10 ^ (10:Int).toNat):=fun z=>⟨Oe,by rw [pow10]; decide⟩
   have cd1:=cd r
   clean_wf
   intro H2 b2 g2
   clean_wf
   refine ⟨_,_,xs ++ [r % 10 ^ (10:Int).toNat],rfl,b2.same sm hl,by rw [g2,List.map_append]; rfl,by rw [List.length_append,lx]; rfl,fun x hx=>?_⟩
   rcases List.mem_append.mp hx with z | z
   ·exact hm x z
   ·rw [List.mem_singleton.mp z,pow10]
    exact ⟨Int.emod_nonneg _ (by decide),Int.emod_lt_of_pos _ (by decide)⟩
  rintro σ H' ⟨v,r,xs,rfl,sm,hl',lx,hm⟩
  clean_wf
  exact k H' l xs sm hl hl' (by omega) hm
 ·exact rest _ _ ⟨rfl,s1,g1⟩
theorem QS (ns:List Int) (h:Int):((ns.map PyData.int).any fun z=>z.eqv (.int h))=decide (h∈ns):=by
 rw [List.any_map,Bool.eq_iff_iff,List.any_eq_true,decide_eq_true_iff]
 constructor
 ·rintro ⟨x,hx,e⟩
  have:x=h:=by
   have e':(x == h)=true:=e
   exact eq_of_beq e'
  exact this ▸ hx
 ·intro hh
  exact ⟨h,hh,beq_self_eq_true (a:=h)⟩
theorem zH {K:PySem.W.Frag} {H:Hp}:∀ ns:List Int,Dps K H (ns.map V.int) (ns.map PyData.int)
 | []=>.nil
 | n :: ns=>.cons (.int n) (zH ns)
theorem lay_ints:∀ ns:List Int,PyData.canLayAll0 (ns.map PyData.int)=true
 | []=>rfl
 | n :: ns=>by rw [List.map_cons,PyData.canLayAll0.eq_2,lay_ints ns]; rfl
theorem Uv {K:PySem.W.Frag} {H:Hp} {Q:VK} {a:Addr} {ns:List Int} {h:Int} (ha:SqL K H a (ns.map V.int)) (q:Q (.bl (!decide (h∈ns))) H):Og K true (.int h) (.ref a) H Q :=
 ⟨a,_,_,_,rfl,.inl ha,zH ns,.int h,lay_ints ns,rfl,by show 0<=60; decide,by rw [QS]; exact q⟩
theorem Qf {n:Nat} (h:n<=63):Hs ((List.range n).map fun (i:Nat)=>(i:Int)):=by
 refine ⟨?_,fun x hx=>?_⟩
 ·rw [List.pairwise_map]
  exact List.pairwise_lt_range.imp fun h=>by omega
 ·obtain ⟨i,hi,rfl⟩:=List.mem_map.mp hx
  have:=List.mem_range.mp hi
  omega
theorem Li {ms ns:List Int} (pm:ms.Perm ns) (so:ms.Pairwise (·<=·)) (nd:ns.Nodup) (rg:∀ x∈ns,0<=x/\x < 63):Hs ms:=by
 refine ⟨?_,fun x hx=>rg x (pm.mem_iff.mp hx)⟩
 have n2:=pm.nodup_iff.mpr nd
 exact so.and n2 |>.imp fun ⟨a,b⟩=>by omega
def nR (K:PySem.W.Frag):Sp:=fun vs H Q _=>∃ (c:Int),vs=[.int c]/\∀ H' l (hs:List Int),Same H H'->H l=none->H' l=some (.lst (hs.map V.int))->Hs hs->hs≠[]->hs.length<=5->Q (.ref l) H'
theorem sc__law_hands:FnScope ["_law_cell","_law_found","_law_number"] ["_law_cell"] (au iy):=⟨rfl,rfl,rfl,by decide +kernel,rfl,by decide +kernel,by decide +kernel⟩
theorem z9 {f bV:Addr} {fd bL:FuncData} (F:Fun K "_law_hands" "_law_hands" iy f fd)
  (dN:FnOk P w K mg base CX0 1 bV bL ["_law_cell","_law_amount"] (dW K)) (dO:Cal K mg "_law_stream" bV bL ["_law_cell","_law_amount"]) (jT:mg "list"=none) (iz:mg "range"=none) (fK:mg "sorted"=none):FnOk P w K mg base CX0 2 f fd ["_law_cell"] (nR K):=by
 refine F.ok sc__law_hands (fun vs H Q E h=>?_) (fun cdv A outer s H vs Q E hr h=>?_)
 ·obtain ⟨c,rfl,_⟩:=h
  rfl
 obtain ⟨c,rfl,h⟩:=h
 have hu64:=hr.units
 have hu0:=hr.units0
 have hu:=bD hr
 refine ⟨_,(aj (dD (bh sO (aR cj (pv 0) aq) aq (bx _)) (aC (aU (bT (HW rfl) (by rfl) jT PyProof.Rows.boot_list (aa (bT Ew (by rfl) iz PyProof.Rows.boot_range (aa (aR cB aq (aR cj (aR j9 (pv 0) aq) aq)) ak)) ak)))) bJ)
   (aj (aM (i:=1) sc__law_hands.nd rfl (Or.inl rfl) (dR ak))
   (aj (cP PassesOwn.never rfl (bB (K:=K) rfl (bz dN dO hr (aa (pv 0) (aa (aR cB aq (aR cj (aR j9 (pv 0) aq) aq)) ak)))) (aX (i:=2) sc__law_hands.nd rfl (Or.inl rfl))
   (aC (dD (bh (Jo (K:=K) rfl hu64) (aR cj (pv 2) aq) (pv 1) (by rfl)) (aC (jy (gH (K:=K) rfl (rA PySem.F.plainAttrs_list PySem.F.slot_list_append PySem.F.type_list_append iC (pv 1) (aa (aR cj (pv 2) aq) ak))))) bJ)))
   (aC (aU (bw BK (by rfl) fK PyProof.Rows.boot_sorted (aa (pv 1) ak))))))),?_⟩
 have r0:=Int.emod_nonneg (c / 3) (show (5:Int)≠0 by decide)
 have r1:=Int.emod_lt_of_pos (c / 3) (show (0:Int) < 5 by decide)
 clean_wf
 refine fJ (fun _=>?_) fun _=>?_
 ·clean_wf
  refine ⟨_,rfl,fun r hr=>?_⟩
  clean_wf
  have er:(1 + c / 3 % 5)=(((1 + c / 3 % 5).toNat:Nat):Int):=by omega
  refine ⟨r,(1 + c / 3 % 5).toNat,rfl,by rw [az,← er],by omega,fun l hl=>?_⟩
  exact h _ l _ ((aH hr).trans (aH hl)) ((aH hr).free hl) az (Qf (by omega)) (by
   intro z
   have:=congrArg List.length z
   rw [List.length_map,List.length_range,List.length_nil] at this
   omega) (by rw [List.length_map,List.length_range]; omega)
 ·clean_wf
  intro l H1 hl s1 g1
  clean_wf
  refine ⟨c,_,rfl,by omega,by omega,fun H2 q xs s2 hq g2 lx hm=>?_⟩
  have nlq:q≠l:=fun z=>by rw [z] at hq; rw [hq] at g1; cases g1
  have g12:=s2 _ _ g1
  clean_wf
  refine fL (xs:=xs.map V.int) (fun i σ H'=>∃ v ns,σ=[some (.int c),some (.ref l),v]/\Same H H'/\H' q=some (.lst (xs.map V.int))/\H' l=some (.lst ((ns:List Int).map V.int))/\ns.Nodup/\(∀ x∈ns,0<=x/\x < 63)/\ns.length<=i/\(0 < i->ns≠[]))
   ⟨none,[],rfl,s1.trans s2,g2,g12,.nil,(fun _ z=>nomatch z),Nat.le_refl _,fun z=>absurd z (Nat.lt_irrefl _)⟩ (fun i σ H' _ z=>by obtain ⟨_,_,_,_,z,_⟩:=z; exact SqL.of z) ?_ ?_
  ·rintro i x σ H' hx ⟨v,ns,rfl,sm,hq',hl',nd,rg,ln,ne⟩
   obtain ⟨n,hn,rfl⟩:=jJ hx
   have hi:=(List.getElem?_eq_some_iff.mp hn).1
   have b0:=Int.emod_nonneg n (show (63:Int)≠0 by decide)
   have b1:=Int.emod_lt_of_pos n (show (0:Int) < 63 by decide)
   have le:(ns.map V.int).length<=1000:=by rw [List.length_map]; omega
   have ls:=aJ le
   clean_wf
   refine Uv (SqL.of hl') ?_
   clean_wf
   refine fJ (fun h1=>?_) fun h1=>?_
   ·have h1:n % 63∉ns:=by
     intro z
     rw [decide_eq_true z] at h1
     cases h1
    clean_wf
    intro H3 b3 g3
    refine ⟨_,ns ++ [n % 63],rfl,b3.same sm hl,b3.at nlq hq',by rw [g3,List.map_append]; rfl,?_,fun x hx=>?_,by rw [List.length_append]; exact Nat.succ_le_succ ln,fun _ z=>by simp at z⟩
    ·rw [List.nodup_append]
     refine ⟨nd,by simp,fun a ha b hb=>?_⟩
     rw [List.mem_singleton.mp hb]
     intro z
     exact h1 (z ▸ ha)
    ·rcases List.mem_append.mp hx with z | z
     ·exact rg x z
     ·rw [List.mem_singleton.mp z]
      exact ⟨b0,b1⟩
   ·have h1:n % 63∈ns:=by
     by_cases z:n % 63∈ns
     ·exact z
     ·rw [decide_eq_false z] at h1
      exact absurd rfl h1
    exact ⟨_,ns,rfl,sm,hq',hl',nd,rg,by omega,fun _ z=>by rw [z] at h1; cases h1⟩
  rintro σ H' ⟨v,ns,rfl,sm,hq',hl',nd,rg,ln,ne⟩
  rw [List.length_map,lx] at ln ne
  clean_wf
  refine ⟨l,ns,rfl,SqL.of hl',by omega,fun p ms hp pm so=>?_⟩
  exact h _ p ms (sm.trans (aH hp)) (sm.free hp) az (Li pm so nd rg) (fun z=>ne (by omega) (by rw [z] at pm; exact pm.symm.eq_nil)) (by rw [pm.length_eq]; omega)
theorem Uy {hs:List Int} (o:Hs hs):hs.length < 64:=rm (o.up.imp fun h=>by omega) o.rg
theorem Rc {hs:List Int} (c:Hs hs):(hs.map fun h=>1 * (2:Int) ^ h.toNat).sum=((orN hs:Nat):Int):=by
 obtain ⟨l,rfl,up,rg⟩:=c.nat
 have e:((l.map fun (h:Nat)=>(h:Int)).map fun h=>1 * (2:Int) ^ h.toNat).sum=((GB.Q9 l:Nat):Int):=by
  rw [← sum_set l up,← Ej,List.map_map,List.map_map]
  congr 1
  refine List.map_congr_left fun h _=>?_
  show 1 * (2:Int) ^ ((h:Int)).toNat=((2 ^ h:Nat):Int)
  rw [Int.toNat_natCast,Int.one_mul,p2c]
 rw [e]
 unfold orN GB.Q9
 rw [List.foldl_map]
 rfl
def qZ (K:PySem.W.Frag):Sp:=fun vs H Q _=>∃ a:Addr,vs=[.ref a]/\∃ hs:List Int,SqL K H a (hs.map V.int)/\Hs hs/\∀ H',Same H H'->Q (.int (orN hs:Nat)) H'
theorem GF:FnScope ["_law_hands_here"] ["_law_hands_here"] (au jV):=⟨rfl,rfl,rfl,by decide +kernel,rfl,by decide +kernel,by decide +kernel⟩
theorem Gg {f :Addr} {fd :FuncData} (F:Fun K "_law_set" "_law_set" jV f fd) (Wy:mg "sum"=none):FnOk P w K mg base CX0 1 f fd ["_law_hands_here"] (qZ K):=by
 refine F.ok GF (fun vs H Q E h=>?_) (fun cdv A outer s H vs Q E hr h=>?_)
 ·obtain ⟨a,rfl,_⟩:=h
  rfl
 obtain ⟨a,rfl,h⟩:=h
 have hu64:=hr.units
 have hu0:=hr.units0
 have hu:=bD hr
 refine ⟨_,(aC (aU (bw (J8 rfl) (by rfl) Wy PyProof.Rows.boot_sum (aa (cZ ["_law_hand"] [none] rfl rfl (by kernel_rfl) (bB (K:=K) rfl (pv 0)) (fun _ _ _ _ _ nd=>aX (i:=0) nd rfl (Or.inl rfl)) (fun _ _ _ _ _=>kh) (fun _ _ _ _ _=>(aR Nf aq (pv 0)))) ak)))),?_⟩
 obtain ⟨hs,hS,ho,kk⟩:=h
 have l64:=Uy ho
 clean_wf
 intro E hE
 refine bQ (K:=K) (a:=a) (xs:=hs.map V.int) (fun i σ A=>∃ v,σ=[v]/\Same H A/\A E=some (.lst (((hs.take i).map fun h=>1 * (2:Int) ^ h.toNat).map V.int))) ⟨none,rfl,aH hE,az⟩ ?_ ?_ ?_
 ·rintro i σ A _ ⟨_,_,z,_⟩
  exact z.seq hS
 ·rintro i x σ A hx ⟨v,rfl,sA,gE⟩
  obtain ⟨n,hn,rfl⟩:=jJ hx
  obtain ⟨n0,n1⟩:=ho.rg n (List.mem_of_getElem? hn)
  have hi:=(List.getElem?_eq_some_iff.mp hn).1
  have cp:U9 1 n:=⟨n0,by omega,by decide⟩
  clean_wf
  refine ⟨_,gE,aJ (by simp; omega),_,rfl,fun b o z=>?_,?_⟩
  ·rw [aF (aD z hE)]
   exact sA b o z
  ·rw [az,bc hn,List.map_append,List.map_append]
   rfl
 rintro σ A ⟨v,rfl,sA,gE⟩
 rw [List.length_map,List.take_length] at gE
 clean_wf
 refine ⟨E,_,rfl,SqL.of gE,?_⟩
 rw [Rc ho]
 exact kk A sA
def lW (K:PySem.W.Frag):Sp:=fun vs H Q _=>∃ (v:V),vs=[v]/\∃ x,TldA H v x/\∀ H' t,Same H H'->H' t=some (.tup [.int x.c,.int x.k])->Q (.ref t) H'
theorem Cd:FnScope ["_law_call"] ["_law_call"] (au jk):=⟨rfl,rfl,rfl,by decide +kernel,rfl,by decide +kernel,by decide +kernel⟩
theorem BJ {f :Addr} {fd :FuncData} (F:Fun K "_law_rank" "_law_rank" jk f fd):FnOk P w K mg base CX0 1 f fd ["_law_call"] (lW K):=by
 refine F.ok Cd (fun vs H Q E h=>?_) (fun cdv A outer s H vs Q E hr h=>?_)
 ·obtain ⟨v,rfl,_⟩:=h
  rfl
 obtain ⟨v,rfl,h⟩:=h
 have hu64:=hr.units
 have hu0:=hr.units0
 have hu:=bD hr
 refine ⟨_,(aC (aU (fu (aa (aW (aY (K:=K) rfl) (pv 0) aq (fun _ _=>rfl)) (aa (aW (aY (K:=K) rfl) (pv 0) aq (fun _ _=>rfl)) ak))))),?_⟩
 obtain ⟨x,⟨a,t,xs,rfl,h1,h2,h3⟩,kk⟩:=h
 have st:SqT K H a [.int x.n,.int x.c,.int x.k,.str x.kd,.int x.w,.ref t]:=SqT.of h1
 clean_wf
 intro u H1 hu s1 g1
 exact kk H1 u s1 g1
end
end K53
namespace K53
open PySem L2
abbrev iw:Stmt:=top 45
section
variable {P:Program} {w:World} {K:PySem.W.Frag} {mg:Str->Option Value} {base:Heap}
def prs (S:List Int) (g:Int->Int):List (Int×Int):=S.map fun k=>(k,g k)
theorem prs_td {m:List (Int×Int)} {S:List Int} (t:Td m) (pm:S.Perm (m.map (·.1))):Td (prs S (ct m)):=by
 have ek:(prs S (ct m)).map (·.1)=S:=by unfold prs; rw [List.map_map]; exact List.map_id' _
 refine ⟨⟨by rw [ek]; exact pm.nodup_iff.mpr t.nd,fun p hp=>?_,fun p hp=>?_⟩,fun p hp=>?_⟩
 all_goals
  unfold prs at hp
  obtain ⟨k,hk,rfl⟩:=List.mem_map.mp hp
  have hm:=pm.mem_iff.mp hk
 ·exact Int.le_of_lt (t.pos hm)
 ·obtain ⟨q,hq,e⟩:=List.mem_map.mp hm
  have:=t.toCk.rg q hq
  rw [e] at this
  exact this
 ·exact t.pos hm
theorem iW {xs:List Int} {i:Nat} (h:i < xs.length):atI (xs.map V.int) (i:Int)=some (V.int xs[i]):=ig (by rw [List.getElem?_map,List.getElem?_eq_getElem h]; rfl)
def Sn (H A:Hp) (M T:Addr) (mm:List (Int×Int)) (v:V):Prop:=∃ r s,v=.ref r/\r≠M/\r≠T/\H r=none/\A r=some (.dK (dI s))/\Td s/\∀ k,ct s k<=ct mm k
theorem Sn.up {H A A':Hp} {M T:Addr} {mm:List (Int×Int)} {v:V} (h:Sn H A M T mm v) (k:∀ r s,r≠M->r≠T->A r=some (.dK (dI s))->A' r=some (.dK (dI s))):Sn H A' M T mm v:=by
 obtain ⟨r,s,e,h1,h2,h3,h4,h5⟩:=h
 exact ⟨r,s,e,h1,h2,h3,k r s h1 h2 h4,h5⟩
structure Cst (H A:Hp) (l M T:Addr) (i:Nat) (ws:List V) (cs:List Cll) (mm:List (Int×Int)) (tm:List (Int×V)):Prop where
 sm:Same H A
 gl:A l=some (.lst ws)
 gM:A M=some (.dK (dI mm))
 gT:A T=some (.dK (dG tm))
 ck:Ck mm
 nd:(tm.map (·.1)).Nodup
 tl:tm.length<=i
 sn:∀ p∈tm,Sn H A M T mm p.2
 tls:Tls A ws cs
 lc:cs.length<=i
 ic:Inc cs
 rk:∀ x∈cs,(Wf x/\0 < x.k)/\x.k<=ct mm x.c
theorem Jw:∀ {m:List (Int×V)} {k:Int} {v:V},lkG m k=some v->∃ p∈m,p.2=v
 | [],_,_,h=>nomatch h
 | p :: m,k,v,h=>by
  have h:(if p.1=k then some p.2 else lkG m k)=some v:=h
  by_cases e:p.1=k
  ·rw [if_pos e] at h
   exact ⟨p,List.mem_cons_self,Option.some.inj h⟩
  ·rw [if_neg e] at h
   obtain ⟨q,hq,e2⟩:=Jw h
   exact ⟨q,List.mem_cons_of_mem _ hq,e2⟩
theorem putg_new:∀ {m:List (Int×V)} {k:Int} {v:V},lkG m k=none->wR m k v=m ++ [(k,v)]/\k∉m.map (·.1)
 | [],_,_,_=>⟨rfl,by simp⟩
 | p :: m,k,v,h=>by
  have h:(if p.1=k then some p.2 else lkG m k)=none:=h
  by_cases e:p.1=k
  ·rw [if_pos e] at h; cases h
  ·rw [if_neg e] at h
   obtain ⟨a,b⟩:=putg_new (v:=v) h
   refine ⟨?_,?_⟩
   ·show (if p.1=k then (p.1,v) :: m else p :: wR m k v)=_
    rw [if_neg e,a]
    rfl
   ·rw [List.map_cons,List.mem_cons]
    rintro (z | z)
    ·exact e z.symm
    ·exact b z
def oA (K:PySem.W.Frag):Sp:=fun vs H Q _=>∃ (b a:Addr) (n:Int),vs=[.ref b,.ref a,.int n]/\∃ (ns hs:List Int),SqL K H b (ns.map V.int)/\ns.length<=16/\SqL K H a (hs.map V.int)/\Hs hs/\hs≠[]/\hs.length<=5 /\
 ∀ H' l ws cs,Same H H'->H l=none->H' l=some (.lst ws)->Tls H' ws cs->Inc cs->(∀ x∈cs,Wf x/\0 < x.k)->cs.length<=16->Q (.ref l) H'
theorem sc__law_calls:FnScope ["_law_cells","_law_hands_here","_law_number","_law_calls_here","_law_made","_law_taken","_law_cell","_law_xs","_law_caller","_law_seen","_law_k","_law_most","_law_more","_law_kind","_law_causes","_law_word"] ["_law_cells","_law_hands_here","_law_number"] (au iw):=⟨rfl,rfl,rfl,by decide +kernel,rfl,by decide +kernel,by decide +kernel⟩
theorem Aa {f bV:Addr} {fd bL:FuncData} (F:Fun K "_law_calls" "_law_calls" iw f fd)
  (dN:FnOk P w K mg base CX0 1 bV bL ["_law_cell","_law_amount"] (dW K)) (dO:Cal K mg "_law_stream" bV bL ["_law_cell","_law_amount"]) (dU:mg "len"=none) (iz:mg "range"=none) (fK:mg "sorted"=none) (gj:mg "tuple"=none):FnOk P w K mg base CX0 2 f fd ["_law_cells","_law_hands_here","_law_number"] (oA K):=by
 refine F.ok sc__law_calls (fun vs H Q E h=>?_) (fun cdv A outer s H vs Q E hr h=>?_)
 ·obtain ⟨b,a,n,rfl,_⟩:=h
  rfl
 obtain ⟨b,a,n,rfl,h⟩:=h
 have hu64:=hr.units
 have hu0:=hr.units0
 have hu:=bD hr
 refine ⟨_,(aj (aM (i:=3) sc__law_calls.nd rfl (Or.inl rfl) (dR ak))
   (aj (aM (i:=4) sc__law_calls.nd rfl (Or.inl rfl) mX)
   (aj (aM (i:=5) sc__law_calls.nd rfl (Or.inl rfl) mX)
   (aj (cP PassesOwn.never rfl (bB (K:=K) rfl (pv 0)) (aX (i:=6) sc__law_calls.nd rfl (Or.inl rfl))
   (aj (aM (i:=7) sc__law_calls.nd rfl (Or.inl rfl) (bz dN dO hr (aa (pv 6) (aa aq ak))))
   (aj (aM (i:=8) sc__law_calls.nd rfl (Or.inl rfl) (aW (bf (K:=K) rfl) (pv 1) (aR cj (aW (bf (K:=K) rfl) (pv 7) aq (fun _ _=>rfl)) (bw (bY (K:=K) rfl) (by rfl) dU PySem.boot_len (aa (pv 1) ak))) (fun _ _=>rfl)))
   (aj (aM (i:=9) sc__law_calls.nd rfl (Or.inr rfl) (rA PySem.F.plainAttrs_dict PySem.F.slot_dict_setdefault PySem.F.type_dict_setdefault G5 (pv 5) (aa (pv 8) (aa mX ak))))
   (aj (cP PassesOwn.never rfl (jU rfl iz (aa (bw (bY (K:=K) rfl) (by rfl) dU PySem.boot_len (aa (pv 1) ak)) ak)) (aX (i:=10) sc__law_calls.nd rfl (Or.inl rfl))
   (aj (aM (i:=11) sc__law_calls.nd rfl (Or.inl rfl) (aR Hb (gZ hu (pv 4) (aW (bf (K:=K) rfl) (pv 1) (pv 10) (fun _ _=>rfl)) aq ⟨rfl,rfl,rfl,rfl⟩) (gZ hu (pv 9) (aW (bf (K:=K) rfl) (pv 1) (pv 10) (fun _ _=>rfl)) aq ⟨rfl,rfl,rfl,rfl⟩)))
   (aj (aM (i:=12) sc__law_calls.nd rfl (Or.inl rfl) (aR cB (gZ hu (pv 9) (aW (bf (K:=K) rfl) (pv 1) (pv 10) (fun _ _=>rfl)) aq ⟨rfl,rfl,rfl,rfl⟩) (aR cj (aW (bf (K:=K) rfl) (pv 7) (aR cB aq (pv 10)) (fun _ _=>rfl)) (aR cB (pv 11) aq))))
   (aC (dD (bh uK (pv 12) aq (bx _)) (aC (lU hu (pv 9) (aW (bf (K:=K) rfl) (pv 1) (pv 10) (fun _ _=>rfl)) (pv 12) rfl)) bJ)))))
   (aj (lU hu (pv 4) (pv 8) (aR cB (gZ hu (pv 4) (pv 8) aq ⟨rfl,rfl,rfl,rfl⟩) aq) rfl)
   (aj (aM (i:=13) sc__law_calls.nd rfl (Or.inl rfl) (aW (bf (K:=K) rfl) (dR (aa j7 (aa j7 (aa j7 (aa j7 ak))))) (aR cj (aW (bf (K:=K) rfl) (pv 7) aq (fun _ _=>rfl)) aq) (fun _ _=>rfl)))
   (aj (aM (i:=14) sc__law_calls.nd rfl (Or.inl rfl) (fu ak))
   (aj (dD (bh JC (pv 13) j7 (bx _)) (aC (aM (i:=14) sc__law_calls.nd rfl (Or.inl rfl) (bT (jj (K:=K) rfl) (by rfl) gj PyProof.Rows.boot_tuple (aa (cZ ["_law_seen","_law_hand"] [some 9,none] rfl rfl (by kernel_rfl) (bB (K:=K) rfl (bw (u6 rfl) (by rfl) fK PyProof.Rows.boot_sorted (aa (pv 9) ak))) (fun _ _ _ _ _ nd=>aX (i:=1) nd rfl (Or.inl rfl)) (fun _ _ _ _ _=>kh) (fun _ _ _ _ _=>(fu (aa (pv 1) (aa (Bu hu (pv 0) (pv 1) (fun _ _=>rfl)) ak))))) ak)))) bJ)
   (aj (aM (i:=15) sc__law_calls.nd rfl (Or.inl rfl) (aR Hb (aR cj (pv 6) (aR vY aq aq)) (aR qG (aR vY aq aq) (aR cj (aW (bf (K:=K) rfl) (pv 7) aq (fun _ _=>rfl)) aq))))
   (aC (jy (gH (K:=K) rfl (rA PySem.F.plainAttrs_list PySem.F.slot_list_append PySem.F.type_list_append iC (pv 3) (aa (fu (aa (pv 2) (aa (pv 8) (aa (Bu hu (pv 4) (pv 8) (fun _ _=>rfl)) (aa (pv 13) (aa (pv 15) (aa (pv 14) ak))))))) ak)))))))))))))))
   (aC (aU (pv 3))))))),?_⟩
 obtain ⟨ns,hs,hN,ln,hS,ho,hne,lh,kk⟩:=h
 have lh0:0 < hs.length:=List.length_pos_iff.mpr hne
 clean_wf
 intro l H1 hl s1 g1
 clean_wf
 intro M H2 hM s2 g2
 clean_wf
 intro T H3 hT s3 g3
 have s02:=s1.trans s2
 have s03:=s02.trans s3
 have hM0:H M=none:=s1.free hM
 have hT0:H T=none:=s02.free hT
 have nlM:l≠M:=aD g1 hM
 have nlT:l≠T:=aD (s2 _ _ g1) hT
 have nMT:M≠T:=aD g2 hT
 have hN3:=s03.seq hN
 clean_wf
 refine fL (xs:=ns.map V.int) (fun i σ A=>∃ v6 v7 v8 v9 v10 v11 v12 v13 v14 v15 ws cs mm tm,σ=[some (.ref b),some (.ref a),some (.int n),some (.ref l),some (.ref M),some (.ref T),v6,v7,v8,v9,v10,v11,v12,v13,v14,v15]/\Cst H A l M T i ws cs mm tm)
  ⟨none,none,none,none,none,none,none,none,none,none,[],[],[],[],rfl,s03,s3 _ _ (s2 _ _ g1),s3 _ _ g2,g3,Ck.nil,List.nodup_nil,Nat.le_refl _,(fun _ z=>nomatch z),.nil,Nat.le_refl _,List.Pairwise.nil,(fun _ z=>nomatch z)⟩ (fun i σ A _ z=>by obtain ⟨_,_,_,_,_,_,_,_,_,_,_,_,_,_,_,z⟩:=z; exact z.sm.seq hN) ?_ ?_
 ·rintro i x σ A hx ⟨v6,v7,v8,v9,v10,v11,v12,v13,v14,v15,ws,cs,mm,tm,rfl,C⟩
  obtain ⟨c,hh,rfl⟩:=jJ hx
  have hi:=(List.getElem?_eq_some_iff.mp hh).1
  clean_wf
  refine ⟨c,8,rfl,by decide,by decide,fun A1 q xs t1 hq gq lx hm=>?_⟩
  have lx8:xs.length=8:=lx
  have at0:=iW (xs:=xs) (i:=0) (by omega)
  have at6:=iW (xs:=xs) (i:=6) (by omega)
  have at7:=iW (xs:=xs) (i:=7) (by omega)
  have sq:SqL K A1 q (xs.map V.int):=SqL.of gq
  have hS1:=(C.sm.trans t1).seq hS
  have ml:(0:Int) < (((hs.map V.int).length:Nat):Int):=by rw [List.length_map]; omega
  have j0:=Int.emod_nonneg xs[0] (show (((hs.map V.int).length:Nat):Int)≠0 by omega)
  have j1:=Int.emod_lt_of_pos xs[0] ml
  have jl:(xs[0] % (((hs.map V.int).length:Nat):Int)).toNat < hs.length:=by rw [List.length_map] at j1 j0 ⊢; omega
  obtain ⟨h,hhs⟩:∃ h,hs[(xs[0] % (((hs.map V.int).length:Nat):Int)).toNat]?=some h:=⟨_,List.getElem?_eq_getElem jl⟩
  have hr:=ho.rg h (List.mem_of_getElem? hhs)
  have hat:atI (hs.map V.int) (xs[0] % (((hs.map V.int).length:Nat):Int))=some (V.int h):=rK j0 (by rw [List.getElem?_map,hhs]; rfl)
  clean_wf
  have gT1:=t1 _ _ C.gT
  have tl0:=C.tl
  refine ⟨.inr (.inr (.inl ⟨rfl,.inl ⟨_,gT1⟩⟩)),?_⟩
  clean_wf
  intro e A2 he t2 ge
  have t12:=t1.trans t2
  refine T4 (t2 _ _ gT1) C.nd (by omega) fun v A3 hv=>?_
  have key:∃ tm3,A3 T=some (.dK (dG tm3))/\(tm3.map (·.1)).Nodup/\tm3.length<=i + 1/\(∀ p∈tm3,Sn H A3 M T mm p.2)/\Sn H A3 M T mm v/\Same H A3/\SmB T A2 A3:=by
   have sn2:∀ p∈tm,Sn H A2 M T mm p.2:=fun p hp=>(C.sn p hp).up fun r s _ _ z=>t12 _ _ z
   rcases hv with ⟨e1,rfl⟩ | ⟨e1,rfl,rfl⟩
   ·obtain ⟨p,hp,rfl⟩:=Jw e1
    exact ⟨tm,t2 _ _ gT1,C.nd,by omega,sn2,sn2 p hp,C.sm.trans t12,SmB.refl _ _⟩
   ·obtain ⟨p1,p2⟩:=putg_new (v:=V.ref e) e1
    have neT:e≠T:=fun z=>by rw [z,gT1] at he; cases he
    have neM:e≠M:=fun z=>by rw [z,t1 _ _ C.gM] at he; cases he
    have k3:∀ b o,b≠T->A2 b=some o->(upd A2 T (.dK (dG (wR tm h (.ref e))))) b=some o:=fun b o nb z=>by rw [aF nb]; exact z
    have snE:Sn H (upd A2 T (.dK (dG (wR tm h (.ref e))))) M T mm (.ref e):=⟨e,[],rfl,neM,neT,(C.sm.trans t1).free he,k3 e _ neT ge,Td.nil,fun k=>C.ck.ct k⟩
    refine ⟨wR tm h (.ref e),az,?_,?_,?_,snE,fun b o z=>k3 b o (aD z hT0) ((C.sm.trans t12) b o z),fun b o nb z=>k3 b o nb z⟩
    ·rw [p1,List.map_append,List.nodup_append]
     refine ⟨C.nd,by simp,fun x hx y hy=>?_⟩
     have:y=h:=by simpa using hy
     rw [this]
     intro z
     exact p2 (z ▸ hx)
    ·rw [p1,List.length_append]
     exact Nat.succ_le_succ tl0
    ·intro p hp
     rw [p1] at hp
     rcases List.mem_append.mp hp with z | z
     ·exact (sn2 p z).up fun r s _ nT g=>k3 r _ nT g
     ·rw [List.mem_singleton.mp z]
      exact snE
  obtain ⟨tm3,gT3,nd3,tl3,sn3,⟨r,s0,rfl,rM,rT,hr0,gr,ts,les⟩,sm3,sb3⟩:=key
  have gs0:=gr
  clear hv
  have nqT:q≠T:=fun z=>by rw [z,C.gT] at hq; cases hq
  have gl3:=sb3 _ _ nlT (t12 _ _ C.gl)
  have gM3:=sb3 _ _ nMT (t12 _ _ C.gM)
  have gq3:=sb3 _ _ nqT (t2 _ _ gq)
  have mh3:SmH A A3:=fun b ys z=>sb3 b _ (fun w=>by rw [w,C.gT] at z; cases z) (t12 _ _ z)
  have nqr:q≠r:=jM gq3 gr (by intro z; cases z)
  have nlr:l≠r:=jM gl3 gr (by intro z; cases z)
  have hS3:=sm3.seq hS
  clean_wf
  refine ⟨_,rfl,by omega,by rw [List.length_map]; omega,?_⟩
  refine mJ (fun k σ B=>∃ v10 v11 v12 s,σ=[some (.ref b),some (.ref a),some (.int n),some (.ref l),some (.ref M),some (.ref T),some (.int c),some (.ref q),some (.int h),some (.ref r),v10,v11,v12,v13,v14,v15]/\SmB r A3 B/\B r=some (.dK (dI s))/\Td s/\∀ k,ct s k<=ct mm k) ⟨v10,v11,v12,s0,rfl,SmB.refl _ _,gr,ts,les⟩ ?_ ?_
  ·clear ts les gr
   rintro k σ B hk ⟨v10,v11,v12,s,rfl,sB,gs,tss,le⟩
   have hk5:k < hs.length:=by rw [Int.toNat_natCast,List.length_map] at hk; exact hk
   have smB:Same H B:=fun b o z=>sB b o (aD z hr0) (sm3 b o z)
   have hSB:=smB.seq hS
   have gMB:=sB _ _ rM.symm gM3
   have sqB:SqL K B q (xs.map V.int):=SqL.of (sB _ _ nqr gq3)
   have hk':atI (hs.map V.int) (0 + (k:Int))=some (V.int hs[k]):=by rw [Int.zero_add]; exact iW hk5
   have xk:atI (xs.map V.int) (1 + (0 + (k:Int)))=some (V.int xs[1 + k]):=by rw [show (1 + (0 + (k:Int)))=((1 + k:Nat):Int) by omega]; exact iW (by omega)
   have lek:=le hs[k]
   have md:0 < (lkI mm hs[k]).getD 0 - (lkI s hs[k]).getD 0 + 1:=by unfold ct at lek; omega
   have kr:=ho.rg hs[k] (List.getElem_mem _)
   have nds:=tss.nd
   have lss:=tss.toCk.len
   clean_wf
   refine fJ (fun h1=>?_) fun h1=>?_
   ·have h1:0 < (lkI s hs[k]).getD 0 + xs[1 + k] % ((lkI mm hs[k]).getD 0 - (lkI s hs[k]).getD 0 + 1):=by simpa using h1
    clean_wf
    intro B4 b4 g4
    refine ⟨_,_,_,_,rfl,sB.but b4,g4,yW tss kr.1 kr.2 h1,fun j=>?_⟩
    rw [lG]
    by_cases z:j=hs[k]
    ·rw [if_pos z,z]
     have:=Int.emod_lt_of_pos xs[1 + k] md
     unfold ct
     omega
    ·rw [if_neg z]
     exact le j
   ·exact ⟨_,_,_,s,rfl,sB,gs,tss,le⟩
  clear ts les gr
  rintro σ B ⟨v10,v11,v12,s,rfl,sB,gs,tss,le⟩
  have smB:Same H B:=fun b o z=>sB b o (aD z hr0) (sm3 b o z)
  have gMB:=sB _ _ rM.symm gM3
  have gTB:=sB _ _ rT.symm gT3
  have glB:=sB _ _ nlr gl3
  have gqB:=sB _ _ nqr gq3
  have mhB:SmH A3 B:=fun b ys z=>sB b _ (fun w=>by rw [w,gs0] at z; cases z) z
  have ndm:=C.ck.nd
  have lm:=C.ck.len
  clean_wf
  intro B1 b1 g1'
  have nqM:q≠M:=fun z=>by rw [z,C.gM] at hq; cases hq
  have glB1:=b1.at nlM glB
  have gTB1:=b1.at nMT.symm gTB
  have gs1:=b1.at rM gs
  have gqB1:=b1.at nqM gqB
  have sm1:Same H B1:=b1.same smB hM0
  have mh1:SmH A B1:=mh3.trans (mhB.trans (SmH.but b1 gMB (by intro _ z; cases z)))
  obtain ⟨kd,hkd,ekd⟩:∃ kd,atI [V.str "own",V.str "heard",V.str "one",V.str "one"] (xs[6] % 4)=some (V.str kd)/\(kd="own"∨kd="heard"∨kd="one"):=by
   have k0:=Int.emod_nonneg xs[6] (show (4:Int)≠0 by decide)
   have k1:=Int.emod_lt_of_pos xs[6] (show (0:Int) < 4 by decide)
   generalize xs[6] % 4=j at k0 k1 ⊢
   rcases (by omega:j=0∨j=1∨j=2∨j=3) with rfl | rfl | rfl | rfl
   ·exact ⟨_,rfl,.inl rfl⟩
   ·exact ⟨_,rfl,.inr (.inl rfl)⟩
   ·exact ⟨_,rfl,.inr (.inr rfl)⟩
   ·exact ⟨_,rfl,.inr (.inr rfl)⟩
  clean_wf
  intro k0 B2 hk0 t4 gk
  have sk:SqL K B2 k0 [V.str "own",V.str "heard",V.str "one",V.str "one"]:=SqL.of gk
  have sq2:SqL K B2 q (xs.map V.int):=SqL.of (t4 _ _ gqB1)
  clean_wf
  intro t0 B3 ht0 t5 gt0
  have t45:=t4.trans t5
  refine Fy (fun σ' D=>∃ t ys ps,σ'=[some (.ref b),some (.ref a),some (.int n),some (.ref l),some (.ref M),some (.ref T),some (.int c),some (.ref q),some (.int h),some (.ref r),v10,v11,v12,some (.str kd),some (.ref t),v15]/\Same B1 D/\D t=some (.tup ys)/\Prs D ys ps/\Ck ps/\(kd="own"->ps=[])) ?_ fun N rest=>?_
  ·rintro σ' D ⟨t,ys,ps,rfl,t6,gt,pr,ck,ow⟩
   have sqD:SqL K D q (xs.map V.int):=SqL.of (t6 _ _ gqB1)
   have gMD:=t6 _ _ g1'
   have glD:=t6 _ _ glB1
   have hg4:lkI (eY mm h ((lkI mm h).getD 0 + 1)) h=some ((lkI mm h).getD 0 + 1):=Gp _ _ _
   have x70:=Int.emod_nonneg xs[7] (show (2:Int)≠0 by decide)
   have x71:=Int.emod_lt_of_pos xs[7] (show (0:Int) < 2 by decide)
   have cmu:CMul (10 ^ (59:Int).toNat) (xs[7] % 2):=.inr ⟨by omega,by omega⟩
   have p60:=NZ
   have lw:ws.length=cs.length:=Paired.length C.tls
   have lc0:=C.lc
   have ls:ws.length < sizeLine:=aJ (by omega)
   clean_wf
   intro u D2 hu t7 gu
   have glD2:=t7 _ _ glD
   clean_wf
   intro D3 b8 g8
   have m23:SmH D2 D3:=SmH.but b8 glD2 (by intro _ z; cases z)
   have mAD:SmH A D3:=mh1.trans ((SmH.same (t6.trans t7)).trans m23)
   have toD3:∀ b o,b≠M->b≠l->B b=some o->D3 b=some o:=fun b o n1 n2 z=>b8.at n2 (t7 _ _ (t6 _ _ (b1.at n1 z)))
   have mono:∀ j,ct mm j<=ct (eY mm h (ct mm h + 1)) j:=fun j=>by
    rw [lG]
    by_cases z:j=h
    ·rw [if_pos z,z]; omega
    ·rw [if_neg z]; exact Int.le_refl _
   have c0h:=C.ck.ct h
   have w0:=Int.emod_nonneg c (Int.ne_of_gt p60)
   have w1:=Int.emod_lt_of_pos c p60
   have e59:(10:Int) ^ (60:Int).toNat=10 * 10 ^ (59:Int).toNat:=by decide +kernel
   have wb:(if c % 10 ^ (60:Int).toNat - 10 ^ (59:Int).toNat * (xs[7] % 2) < 0 then -(c % 10 ^ (60:Int).toNat - 10 ^ (59:Int).toNat * (xs[7] % 2)) else c % 10 ^ (60:Int).toNat - 10 ^ (59:Int).toNat * (xs[7] % 2)) < (10:Int) ^ (60:Int).toNat:=by
    generalize c % 10 ^ (60:Int).toNat=y at w0 w1 ⊢
    rw [e59] at w1 p60 ⊢
    generalize (10:Int) ^ (59:Int).toNat=z at w1 p60 ⊢
    rcases (by omega:xs[7] % 2=0∨xs[7] % 2=1) with e | e <;> rw [e] <;> (try rw [Int.mul_zero]) <;> (try rw [Int.mul_one]) <;> split <;> omega
   refine ⟨_,_,_,_,_,_,_,_,_,_,ws ++ [.ref u],cs ++ [⟨kd,n,h,ct mm h + 1,c % 10 ^ (60:Int).toNat - 10 ^ (59:Int).toNat * (xs[7] % 2),ps⟩],eY mm h (ct mm h + 1),tm3,rfl,?_⟩
   refine ⟨b8.same (sm1.trans (t6.trans t7)) hl,g8,b8.at nlM.symm (t7 _ _ gMD),b8.at nlT.symm (t7 _ _ (t6 _ _ gTB1)),C.ck.put hr.1 hr.2 (by omega),nd3,tl3,fun p hp=>?_,dJ (cJ mAD C.tls) ⟨u,t,ys,rfl,m23 _ _ gu,m23 _ _ (t7 _ _ gt),pr.mono ((SmH.same t7).trans m23)⟩,by rw [List.length_append]; exact Nat.succ_le_succ lc0,Ms C.ic fun y hy e=>?_,fun x hx=>?_⟩
   ·obtain ⟨r',s',e,h1,h2,h3,h4,h5,h6⟩:=sn3 p hp
    by_cases z:r'=r
    ·exact ⟨r,s,by rw [e,z],rM,rT,hr0,toD3 r _ rM nlr.symm gs,tss,fun j=>Int.le_trans (le j) (mono j)⟩
    ·exact ⟨r',s',e,h1,h2,h3,toD3 r' _ h1 (jM h4 gl3 (by intro z; cases z)) (sB _ _ z h4),h5,fun j=>Int.le_trans (h6 j) (mono j)⟩
   ·have e:y.c=h:=e
    have:=(C.rk y hy).2
    rw [e] at this
    show y.k < ct mm h + 1
    omega
   ·rcases List.mem_append.mp hx with z | z
    ·exact ⟨(C.rk x z).1,Int.le_trans (C.rk x z).2 (mono _)⟩
    ·rw [List.mem_singleton.mp z]
     refine ⟨⟨⟨ekd,wb,ck,ow,hr.1,hr.2⟩,by show 0 < ct mm h + 1; omega⟩,?_⟩
     show ct mm h + 1<=ct (eY mm h (ct mm h + 1)) h
     rw [lG,if_pos rfl]
     exact Int.le_refl _
  ·clean_wf
   refine fJ (fun h1=>?_) fun h1=>?_
   ·have gs3:=t45 _ _ gs1
    clean_wf
    refine ⟨r,s,rfl,.inl gs3,qJ tss.toCk,fun p Tt hp pT sT=>?_⟩
    have s3':=aH (o:=.lst (Tt.map V.int)) hp
    have g3':(upd B3 p (.lst (Tt.map V.int))) p=some (.lst (Tt.map V.int)):=az
    generalize upd B3 p (.lst (Tt.map V.int))=B4 at s3' g3' ⊢
    have lT:Tt.length < 64:=by rw [pT.length_eq,List.length_map]; exact qJ tss.toCk
    refine ⟨p,rfl,⟨_,SqL.of g3'⟩,fun E1 hE1=>?_⟩
    refine bQ (K:=K) (a:=p) (xs:=Tt.map V.int) (fun i' σ A=>∃ v zs,σ=[some (.ref r),v]/\Same B4 A/\A E1=some (.lst zs)/\zs.length<=i'/\Prs A zs (prs (Tt.take i') (ct s))) ⟨none,[],rfl,aH hE1,az,Nat.le_refl _,.nil⟩ ?_ ?_ ?_
    ·rintro i' σ A _ ⟨_,_,_,z,_⟩
     exact SqL.of (z _ _ g3')
    ·rintro i' x σ A hx' ⟨v,zs,rfl,sA,hEx,lz,pz⟩
     obtain ⟨cl,hc,rfl⟩:=jJ hx'
     have hi':=(List.getElem?_eq_some_iff.mp hc).1
     have hrA:=sA _ _ (s3' _ _ gs3)
     have hlc:lkI s cl=some (ct s cl):=SN (pT.mem_iff.mp (List.mem_of_getElem? hc))
     clean_wf
     intro u A1' hu' sA1 gA1
     have hE1':=sA1 _ _ hEx
     refine ⟨zs,hE1',aJ (by omega),_,_,rfl,fun b o z=>?_,az,by rw [List.length_append]; exact Nat.succ_le_succ lz,?_⟩
     ·rw [aF (aD z hE1)]
      exact sA1 _ _ (sA b o z)
     ·have kp:∀ a xs,A1' a=some (.tup xs)->(upd A1' E1 (.lst (zs ++ [V.ref u]))) a=some (.tup xs):=fun a xs z=>by
       rw [aF (jM z hE1' (by intro z; cases z))]
       exact z
      have e:prs (Tt.take (i' + 1)) (ct s)=prs (Tt.take i') (ct s) ++ [(cl,ct s cl)]:=by
       unfold prs
       rw [bc hc,List.map_append]
       rfl
      rw [e]
      exact Prs.snoc (pz.mono fun a xs z=>kp _ _ (sA1 _ _ z)) ⟨u,rfl,kp _ _ gA1⟩
    rintro σ A ⟨v,zs,rfl,sA,hEx,lz,pz⟩
    rw [show Tt.take (Tt.map V.int).length=Tt by rw [List.length_map,List.take_length]] at pz
    clean_wf
    intro u H4 hu4 s4 g4
    refine rest _ _ ⟨u,zs,_,rfl,t45.trans (s3'.trans (sA.trans s4)),g4,pz.mono fun a xs z=>s4 _ _ z,(prs_td tss pT).toCk,fun z=>?_⟩
    rw [z] at h1
    simp at h1
   ·exact rest _ _ ⟨t0,[],[],rfl,t45,gt0,.nil,Ck.nil,fun _=>rfl⟩
 rintro σ A ⟨v6,v7,v8,v9,v10,v11,v12,v13,v14,v15,ws,cs,mm,tm,rfl,C⟩
 clean_wf
 have lc:=C.lc
 rw [List.length_map] at lc
 exact kk A l ws cs C.sm hl C.gl C.tls C.ic (fun x hx=>(C.rk x hx).1) (by omega)
end
end K53
namespace K53
open PySem L2
abbrev ie:Stmt:=top 47
abbrev fX:Stmt:=top 46
section
variable {P:Program} {w:World} {K:PySem.W.Frag} {mg:Str->Option Value} {base:Heap}
theorem Qp {xs:List V} {a b:Option Int} {x:V} (h:x∈dz xs a b):x∈xs:=by
 unfold dz at h
 exact List.mem_of_mem_drop (List.mem_of_mem_take h)
theorem Om (xs:List V) (a b:Option Int):(dz xs a b).length<=xs.length:=by
 unfold dz
 rw [List.length_take,List.length_drop]
 omega
theorem Ih {α β:Type} {F:α->β->Prop} {l:List α} {m:List β} (h:Paired F l m) {a:α} (ha:a∈l):∃ b∈m,F a b:=by
 obtain ⟨i,hi⟩:=List.getElem?_of_mem ha
 obtain ⟨b,hb,f⟩:=bu h hi
 exact ⟨b,List.mem_of_getElem? hb,f⟩
theorem Ft {H:Hp} {xs ws:List V} {cs:List Cll} (h:Tls H xs cs) (p:ws.Perm xs):∃ ds,Tls H ws ds/\ds.length=cs.length/\∀ x∈ds,x∈cs:=by
 induction p generalizing cs with
 | nil=>exact ⟨cs,h,rfl,fun _ z=>z⟩
 | cons x p ih =>
  cases h with
  | cons r t =>
   obtain ⟨ds,a,b,c⟩:=ih t
   refine ⟨_ :: ds,.cons r a,by rw [List.length_cons,List.length_cons,b],fun y hy=>?_⟩
   rcases List.mem_cons.mp hy with z | z
   ·rw [z]; exact List.mem_cons_self
   ·exact List.mem_cons_of_mem _ (c y z)
 | swap x y l =>
  cases h with
  | cons r t =>
   cases t with
   | cons r2 t2 =>
    refine ⟨_,.cons r2 (.cons r t2),rfl,fun z hz=>?_⟩
    simp only [List.mem_cons] at hz ⊢
    rcases hz with a | a | a
    ·exact .inr (.inl a)
    ·exact .inl a
    ·exact .inr (.inr a)
 | trans p q ih1 ih2 =>
  obtain ⟨d1,a,b,c⟩:=ih2 h
  obtain ⟨d2,a2,b2,c2⟩:=ih1 a
  exact ⟨d2,a2,b2.trans b,fun x hx=>c x (c2 x hx)⟩
def nQ (K:PySem.W.Frag):Sp:=fun vs H Q _=>∃ (p:Addr) (c:Int),vs=[.ref p,.int c]/\∃ ys ns,SqL K H p ys/\Nms H ys ns/\ns.length<=16/\∀ H' q zs ms,Same H H'->SqL K H' q zs->Nms H' zs ms->ms.length<=16->Q (.ref q) H'
theorem sc__law_woven:FnScope ["_law_places","_law_cell","_law_found","_law_left","_law_caller","_law_first"] ["_law_places","_law_cell"] (au ie):=⟨rfl,rfl,rfl,by decide +kernel,rfl,by decide +kernel,by decide +kernel⟩
theorem Ab {f :Addr} {fd :FuncData} (F:Fun K "_law_woven" "_law_woven" ie f fd) (dU:mg "len"=none) (jT:mg "list"=none):FnOk P w K mg base CX0 1 f fd ["_law_places","_law_cell"] (nQ K):=by
 refine F.ok sc__law_woven (fun vs H Q E h=>?_) (fun cdv A outer s H vs Q E hr h=>?_)
 ·obtain ⟨p,c,rfl,_⟩:=h
  rfl
 obtain ⟨p,c,rfl,h⟩:=h
 have hu64:=hr.units
 have hu0:=hr.units0
 have hu:=bD hr
 refine ⟨_,(aj (dD (bh uK (aR cj (pv 1) aq) aq (bx _)) (aC (aU (pv 0))) bJ)
   (aj (aM (i:=2) sc__law_woven.nd rfl (Or.inl rfl) (dR ak))
   (aj (aM (i:=3) sc__law_woven.nd rfl (Or.inl rfl) (bT (pN (K:=K) rfl) (by rfl) jT PyProof.Rows.boot_list (aa (pv 0) ak)))
   (aj (uV PassesOwn.never (bh (By (K:=K) rfl hu64) (pv 3) (dR ak) (bx _))
   (aj (aM (i:=4) sc__law_woven.nd rfl (Or.inr rfl) (aW (aY (K:=K) rfl) (aW (bf (K:=K) rfl) (pv 3) (aR cj (aR j9 (pv 1) aq) (bw (bY (K:=K) rfl) (by rfl) dU PySem.boot_len (aa (pv 3) ak))) (fun _ _=>rfl)) aq (fun _ _=>rfl)))
   (aj (aM (i:=5) sc__law_woven.nd rfl (Or.inr rfl) (aW (bf (K:=K) rfl) (cZ ["_law_caller","_law_name"] [some 4,none] rfl rfl (by kernel_rfl) (bB (K:=K) rfl (pv 3)) (fun _ _ _ _ _ nd=>aX (i:=1) nd rfl (Or.inl rfl)) (fun _ _ _ _ _=>(jn (bh sO (aW (aY (K:=K) rfl) (pv 1) aq (fun _ _=>rfl)) (pv 0) (bx _)))) (fun _ _ _ _ _=>(pv 1))) aq (fun _ _=>rfl)))
   (aj (jy (gH (K:=K) rfl (rA PySem.F.plainAttrs_list PySem.F.slot_list_append PySem.F.type_list_append iC (pv 2) (aa (pv 5) ak))))
   (aj (CP (i:=3) ["_law_first","_law_name"] [some 5,none] sc__law_woven.nd rfl (Or.inl rfl) rfl rfl (by kernel_rfl) (bB (K:=K) rfl (pv 3)) (fun _ _ _ _ _ nd=>aX (i:=1) nd rfl (Or.inl rfl)) (fun _ _ _ _ _=>(jn (bh (By (K:=K) rfl hu64) (pv 1) (pv 0) (bx _)))) (fun _ _ _ _ _=>(pv 1)))
   (aC (aM (i:=1) sc__law_woven.nd rfl (Or.inl rfl) (aR cB (aR j9 (pv 1) aq) aq))))))))
   (aC (aU (pv 2))))))),?_⟩
 obtain ⟨ys,ns,hp,hn,ln,kk⟩:=h
 have ly:=hn.len
 clean_wf
 refine fJ (fun _=>?_) fun _=>?_
 ·clean_wf
  exact kk H p ys ns (.refl _) hp hn ln
 clean_wf
 intro F H1 hF s1 gF
 have hp1:=s1.seq hp
 clean_wf
 intro L H2 hL s2 gL
 have nFL:F≠L:=aD gF hL
 clean_wf
 refine ⟨fun M σ A=>∃ c L v4 v5 zs ms ls qs,M=qs.length/\σ=[some (.ref p),some (.int c),some (.ref F),some (.ref L),v4,v5]/\F≠L/\Same H A/\A F=some (.lst zs)/\Nms A zs ms/\A L=some (.lst ls)/\Nms A ls qs/\ms.length + qs.length<=16,⟨_,c,L,none,none,[],[],ys,ns,rfl,rfl,nFL,s1.trans s2,s2 _ _ gF,.nil,gL,hn.up (.same (s1.trans s2)),by simpa using ln⟩,?_⟩
 clear nFL gL hL L
 rintro M σ A ⟨c,L,v4,v5,zs,ms,ls,qs,rfl,rfl,nFL,sA,gF',nz,gL,nl,le⟩
 have lq:=nl.len
 have lz:=nz.len
 clean_wf
 intro n1 A1 hn1 t1 gn1
 have sA1:=sA.trans t1
 have gF1:=t1 _ _ gF'
 have gL1:=t1 _ _ gL
 have nl1:=nl.up (.same t1)
 refine Sq (SqL.of gL1) nl1.dps (xK _) (SqL.of gn1) ?_
 by_cases zq:qs=[]
 ·rw [decide_eq_true (show qs.map nmD=[] by rw [zq]; rfl)]
  clean_wf
  exact kk A1 F zs ms sA1 (SqL.of gF1) (nz.up (.same t1)) (by omega)
 rw [decide_eq_false (fun w=>zq (List.map_eq_nil_iff.mp w))]
 clean_wf
 refine ⟨_,fun _ _ z=>z,?_⟩
 have lq0:0 < qs.length:=List.length_pos_iff.mpr zq
 have sL1:SqL K A1 L ls:=SqL.of gL1
 have ml:(0:Int) < ((ls.length:Nat):Int):=by omega
 have j0:=Int.emod_nonneg (c / 3) (Int.ne_of_gt ml)
 have j1:=Int.emod_lt_of_pos (c / 3) ml
 have jl:(c / 3 % ((ls.length:Nat):Int)).toNat < ls.length:=by omega
 obtain ⟨x,hx⟩:∃ x,ls[(c / 3 % ((ls.length:Nat):Int)).toNat]?=some x:=⟨_,List.getElem?_eq_getElem jl⟩
 obtain ⟨q0,hq0,u,rfl,hu⟩:=nl1.get hx
 have hat:atI ls (c / 3 % ((ls.length:Nat):Int))=some (.ref u):=rK j0 hx
 have qm:=List.mem_of_getElem? hq0
 have su:SqT K A1 u [.int q0.1,.int q0.2.1,.int q0.2.2]:=SqT.of hu
 clean_wf
 intro E hE
 refine bQ (K:=K) (a:=L) (xs:=ls) (fun i σ B=>∃ v es,σ=[some (.int q0.2.1),v]/\Same A1 B/\B E=some (.lst es)/\Nms B es ((qs.take i).filter fun q=>decide (q.2.1=q0.2.1))) ⟨none,[],rfl,aH hE,az,.nil⟩ ?_ ?_ ?_
 ·rintro i σ B _ ⟨_,_,_,z,_⟩
  exact SqL.of (z _ _ gL1)
 ·rintro i x σ B hx ⟨v,es,rfl,sB,gE,ne⟩
  obtain ⟨q,hq,w,rfl,hw⟩:=(nl1.up (.same sB)).get hx
  have sw:SqT K B w [.int q.1,.int q.2.1,.int q.2.2]:=SqT.of hw
  have lf:=List.length_filter_le (fun q:Nm=>decide (q.2.1=q0.2.1)) (qs.take i)
  rw [List.length_take] at lf
  have le':=ne.len
  rw [bc hq,List.filter_append]
  clean_wf
  refine fJ (fun z=>?_) fun z=>?_
  ·have kp:SmH B (upd B E (.lst (es ++ [.ref w]))):=SmH.lst gE
   clean_wf
   refine ⟨es,gE,aJ (by omega),_,es ++ [.ref w],rfl,fun b o z=>?_,az,?_⟩
   ·rw [aF (aD z hE)]
    exact sB b o z
   ·rw [List.filter_cons_of_pos (by exact z)]
    exact Nms.snoc (ne.up kp) ⟨w,rfl,kp _ _ hw⟩
  ·refine ⟨_,es,rfl,sB,gE,?_⟩
   rw [List.filter_cons_of_neg (by exact z),List.filter_nil,List.append_nil]
   exact ne
 rintro σ B ⟨v,es,rfl,sB,gE,ne⟩
 rw [lq,List.take_length] at ne
 have qf:q0∈qs.filter fun q=>decide (q.2.1=q0.2.1):=List.mem_filter.mpr ⟨qm,decide_eq_true rfl⟩
 have l0:0 < es.length:=by rw [ne.len]; exact List.length_pos_of_mem qf
 obtain ⟨x1,hx1⟩:∃ x1,es[0]?=some x1:=⟨_,List.getElem?_eq_getElem l0⟩
 obtain ⟨q1,hq1,w1,rfl,hw1⟩:=ne.get hx1
 have qm1:q1∈qs:=(List.mem_filter.mp (List.mem_of_getElem? hq1)).1
 have hat1:atI es 0=some (.ref w1):=ig (j:=0) hx1
 have sE:SqL K B E es:=SqL.of gE
 have gFB:=sB _ _ gF1
 have lsz:zs.length < sizeLine:=aJ (by omega)
 clean_wf
 intro B1 b1 g1
 have gLB:=b1.at nFL.symm (sB _ _ gL1)
 have m1:SmH B B1:=SmH.but b1 gFB (by intro _ z; cases z)
 have nzB:=(nz.up (.same (t1.trans sB))).up m1
 have nlB:=(nl1.up (.same sB)).up m1
 have hwB:=m1 _ _ hw1
 have sHB:Same H B1:=b1.same (sA1.trans sB) hF
 have sLB:SqL K B1 L ls:=SqL.of gLB
 clean_wf
 intro E2 hE2
 refine bQ (K:=K) (a:=L) (xs:=ls) (fun i σ C=>∃ v es,σ=[some (.ref w1),v]/\Same B1 C/\C E2=some (.lst es)/\Nms C es ((qs.take i).filter fun q=>!decide (q1=q))) ⟨none,[],rfl,aH hE2,az,.nil⟩ ?_ ?_ ?_
 ·rintro i σ C _ ⟨_,_,_,z,_⟩
  exact SqL.of (z _ _ gLB)
 ·rintro i x σ C hx ⟨v,es,rfl,sC,gE2,ne2⟩
  obtain ⟨q,hq,w,rfl,hw⟩:=(nlB.up (.same sC)).get hx
  have lf:=List.length_filter_le (fun q=>!decide (q1=q)) (qs.take i)
  rw [List.length_take] at lf
  have le':=ne2.len
  rw [bc hq,List.filter_append]
  clean_wf
  refine ⟨nmD q,nmD q1,.inl (NmAt.dp ⟨w,rfl,hw⟩),.inl (NmAt.dp ⟨w1,rfl,sC _ _ hwB⟩),yg _,yg _,by show min 1 1<=60; decide,?_⟩
  rw [Nr]
  clean_wf
  refine fJ (fun z=>?_) fun z=>?_
  ·have kp:SmH C (upd C E2 (.lst (es ++ [.ref w]))):=SmH.lst gE2
   clean_wf
   refine ⟨es,gE2,aJ (by omega),_,es ++ [.ref w],rfl,fun b o z=>?_,az,?_⟩
   ·rw [aF (aD z hE2)]
    exact sC b o z
   ·rw [List.filter_cons_of_pos (by exact z)]
    exact Nms.snoc (ne2.up kp) ⟨w,rfl,kp _ _ hw⟩
  ·refine ⟨_,es,rfl,sC,gE2,?_⟩
   rw [List.filter_cons_of_neg (by exact z),List.filter_nil,List.append_nil]
   exact ne2
 rintro σ C ⟨v,es2,rfl,sC,gE2,ne2⟩
 rw [lq,List.take_length] at ne2
 have lt:(qs.filter fun q=>!decide (q1=q)).length < qs.length:=List.length_filter_lt_length_iff_exists.mpr ⟨q1,qm1,by simp⟩
 clean_wf
 refine ⟨_,lt,_,E2,_,_,zs ++ [.ref w1],ms ++ [q1],es2,qs.filter (fun q=>!decide (q1=q)),rfl,rfl,aD g1 hE2,sHB.trans sC,sC _ _ g1,Nms.snoc (nzB.up (.same sC)) ⟨w1,rfl,sC _ _ hwB⟩,gE2,ne2,?_⟩
 rw [List.length_append,List.length_singleton]
 omega
def mW (K:PySem.W.Frag):Sp:=fun vs H Q _=>∃ (h:Int) (l p:Addr) (c:Int),vs=[.int h,.ref l,.ref p,.int c]/\∃ ws cs ys ns,SqL K H l ws/\Tls H ws cs/\cs.length<=16/\(∀ x∈cs,Wf x/\0 < x.k)/\SqL K H p ys/\Nms H ys ns/\ns.length<=16 /\
 ∀ H' t r,Same H H'->H t=none->RpA H' (.ref t) r->r.1=h->Td r.2.1->r.2.2.1.length<=16->(∀ x∈r.2.2.2.2,x∈cs)->Q (.ref t) H'
theorem sc__law_report:FnScope ["_law_hand","_law_calls_here","_law_places","_law_cell","_law_xs","_law_floor","_law_call","_law_kept","_law_k","_law_bound","_law_some"] ["_law_hand","_law_calls_here","_law_places","_law_cell"] (au fX):=⟨rfl,rfl,rfl,by decide +kernel,rfl,by decide +kernel,by decide +kernel⟩
theorem yo {f bV kI uB:Addr} {fd bL jD sW:FuncData} (F:Fun K "_law_report" "_law_report" fX f fd)
  (dN:FnOk P w K mg base CX0 2 bV bL ["_law_cell","_law_amount"] (dW K)) (dO:Cal K mg "_law_stream" bV bL ["_law_cell","_law_amount"])
  (qN:FnOk P w K mg base CX0 1 kI jD ["_law_call"] (lW K)) (kO:Cal K mg "_law_rank" kI jD ["_law_call"])
  (Bs:FnOk P w K mg base CX0 2 uB sW ["_law_places","_law_cell"] (nQ K)) (Br:Cal K mg "_law_woven" uB sW ["_law_places","_law_cell"]) (dU:mg "len"=none) (iz:mg "range"=none) (fK:mg "sorted"=none) (gj:mg "tuple"=none):FnOk P w K mg base CX0 3 f fd ["_law_hand","_law_calls_here","_law_places","_law_cell"] (mW K):=by
 refine F.ok sc__law_report (fun vs H Q E h=>?_) (fun cdv A outer s H vs Q E hr h=>?_)
 ·obtain ⟨h,l,p,c,rfl,_⟩:=h
  rfl
 obtain ⟨h,l,p,c,rfl,h⟩:=h
 have hu64:=hr.units
 have hu0:=hr.units0
 have hu:=bD hr
 refine ⟨_,(aj (aM (i:=4) sc__law_report.nd rfl (Or.inl rfl) (bz dN dO hr (aa (pv 3) (aa aq ak))))
   (aj (aM (i:=5) sc__law_report.nd rfl (Or.inr rfl) mX)
   (aj (cP PassesOwn.never rfl (bB (K:=K) rfl (cR (kE (K:=K) rfl) (pv 1) iM (cY (aR cj (aW (bf (K:=K) rfl) (pv 4) aq (fun _ _=>rfl)) (aR cB aq (aR qG (aR cj (aW (bf (K:=K) rfl) (pv 4) aq (fun _ _=>rfl)) aq) aq)))))) (aX (i:=6) sc__law_report.nd rfl (Or.inl rfl))
   (aj (lU hu (pv 5) (aW (aY (K:=K) rfl) (pv 6) aq (fun _ _=>rfl)) (aW (aY (K:=K) rfl) (pv 6) aq (fun _ _=>rfl)) rfl)
   (aC (dD (bh sO (aR cj (aR j9 (aW (bf (K:=K) rfl) (pv 4) aq (fun _ _=>rfl)) aq) aq) aq (bx _)) (aC (lU hu (pv 5) (aW (aY (K:=K) rfl) (pv 6) aq (fun _ _=>rfl)) (aR cB aq (aR cj (aR j9 (aW (bf (K:=K) rfl) (pv 4) aq (fun _ _=>rfl)) aq) aq)) rfl)) bJ))))
   (aj (aM (i:=7) sc__law_report.nd rfl (Or.inl rfl) (dR ak))
   (aj (cP PassesOwn.never rfl (jU rfl iz (aa (bw (bY (K:=K) rfl) (by rfl) dU PySem.boot_len (aa (pv 1) ak)) ak)) (aX (i:=8) sc__law_report.nd rfl (Or.inl rfl))
   (aC (dD (PW.pt (yf (bh uK (aR cj (aR Fz (aW (bf (K:=K) rfl) (pv 4) (aR cB aq (aR cj (pv 8) aq)) (fun _ _=>rfl)) (aR cB aq (aR qG (aR j9 (pv 8) aq) aq))) aq) aq (bx _)) (vf (bh uK (aW (aY (K:=K) rfl) (aW (bf (K:=K) rfl) (pv 1) (pv 8) (fun _ _=>rfl)) aq (fun _ _=>rfl)) (gZ hu (pv 5) (aW (aY (K:=K) rfl) (aW (bf (K:=K) rfl) (pv 1) (pv 8) (fun _ _=>rfl)) aq (fun _ _=>rfl)) aq ⟨rfl,rfl,rfl,rfl⟩) (bx _))))) (aC (jy (gH (K:=K) rfl (rA PySem.F.plainAttrs_list PySem.F.slot_list_append PySem.F.type_list_append iC (pv 7) (aa (aW (bf (K:=K) rfl) (pv 1) (pv 8) (fun _ _=>rfl)) ak))))) bJ)))
   (aj (aM (i:=7) sc__law_report.nd rfl (Or.inl rfl) (wI (K:=K) rfl (aa (pv 7) ak) (by rfl) fK qN kO.mg kO.bd (by rfl) hr))
   (aj (aM (i:=9) sc__law_report.nd rfl (Or.inl rfl) (bT (jj (K:=K) rfl) (by rfl) gj PyProof.Rows.boot_tuple (aa (cZ ["_law_floor","_law_caller"] [some 5,none] rfl rfl (by kernel_rfl) (bB (K:=K) rfl (bw (u6 rfl) (by rfl) fK PyProof.Rows.boot_sorted (aa (pv 5) ak))) (fun _ _ _ _ _ nd=>aX (i:=1) nd rfl (Or.inl rfl)) (fun _ _ _ _ _=>kh) (fun _ _ _ _ _=>(fu (aa (pv 1) (aa (Bu hu (pv 0) (pv 1) (fun _ _=>rfl)) ak))))) ak)))
   (aj (aM (i:=10) sc__law_report.nd rfl (Or.inl rfl) (bz Bs Br hr (aa (pv 2) (aa (aR j9 (aW (bf (K:=K) rfl) (pv 4) aq (fun _ _=>rfl)) aq) ak))))
   (aC (aU (fu (aa (pv 0) (aa (pv 9) (aa (bT (jj (K:=K) rfl) (by rfl) gj PyProof.Rows.boot_tuple (aa (pv 7) ak)) (aa (bT (jj (K:=K) rfl) (by rfl) gj PyProof.Rows.boot_tuple (aa (cR (kE (K:=K) rfl) (pv 10) iM (cY (aR cj (aW (bf (K:=K) rfl) (pv 4) aq (fun _ _=>rfl)) (aR cB (bw (bY (K:=K) rfl) (by rfl) dU PySem.boot_len (aa (pv 10) ak)) aq)))) ak)) (aa (pC sO (aR cj (aW (bf (K:=K) rfl) (pv 4) aq (fun _ _=>rfl)) aq) aq (bx _)) ak)))))))))))))))),?_⟩
 obtain ⟨ws,cs,ys,ns,hl,hc,lc,wf,hp,hn,ln,kk⟩:=h
 have lw:ws.length=cs.length:=Paired.length hc
 have ly:=hn.len
 clean_wf
 refine ⟨c,12,rfl,by decide,by decide,fun A1 q xs t1 hq gq lx hm=>?_⟩
 have lx12:xs.length=12:=lx
 clean_wf
 intro F A2 hF t2 gF
 have t12:=t1.trans t2
 have hF0:H F=none:=t1.free hF
 have at0:=iW (xs:=xs) (i:=0) (by omega)
 have at1:=iW (xs:=xs) (i:=1) (by omega)
 have at10:=iW (xs:=xs) (i:=10) (by omega)
 have at11:=iW (xs:=xs) (i:=11) (by omega)
 have sq2:SqL K A2 q (xs.map V.int):=SqL.of (t2 _ _ gq)
 have hl2:=t12.seq hl
 have x10:=Int.emod_nonneg xs[1] (show (4:Int)≠0 by decide)
 have x11:=Int.emod_lt_of_pos xs[1] (show (0:Int) < 4 by decide)
 have c2:CMul (xs[1] % 4) 2:=.inr ⟨by decide,by decide⟩
 have md:0 < 1 + xs[1] % 4 * 2:=by omega
 have nqF:q≠F:=aD gq hF
 clean_wf
 intro L A3 hL t3 gL
 have t13:=t12.trans t3
 have ll:=Om ws none (some (xs[0] % (1 + xs[1] % 4 * 2)))
 refine ⟨_,rfl,⟨_,SqL.of gL⟩,?_⟩
 refine fL (xs:=dz ws none (some (xs[0] % (1 + xs[1] % 4 * 2)))) (fun i σ A=>∃ v6 m,σ=[some (.int h),some (.ref l),some (.ref p),some (.int c),some (.ref q),some (.ref F),v6,none,none,none,none]/\SmB F A3 A/\A F=some (.dK (dI m))/\Td m) ⟨none,[],rfl,SmB.refl _ _,t3 _ _ gF,Td.nil⟩ (fun i σ A _ z=>by obtain ⟨_,_,_,z,_⟩:=z; exact SqL.of (z _ _ (jM gL (t3 _ _ gF) (by intro z; cases z)) gL)) ?_ ?_
 ·rintro i x σ A hx ⟨v6,m,rfl,sA,gA,tm⟩
  obtain ⟨y,hy,ta,tt,us,rfl,h1,h2,h3⟩:=Ih hc (Qp (List.mem_of_getElem? hx))
  have ta3:=t13 _ _ h1
  have st:SqT K A ta [.int y.n,.int y.c,.int y.k,.str y.kd,.int y.w,.ref tt]:=SqT.of (sA _ _ (jM ta3 (t3 _ _ gF) (by intro z; cases z)) ta3)
  have nd:=tm.nd
  have lm:=tm.toCk.len
  obtain ⟨wy,ky⟩:=wf y hy
  have nqF':q≠F:=nqF
  have sqA:SqL K A q (xs.map V.int):=SqL.of (sA _ _ nqF (t3 _ _ (t2 _ _ gq)))
  clean_wf
  intro A4 b4 g4
  have t4:=yW tm wy.c0 wy.c1 ky
  have st4:SqT K A4 ta [.int y.n,.int y.c,.int y.k,.str y.kd,.int y.w,.ref tt]:=SqT.of (b4.of gA (sA _ _ (jM ta3 (t3 _ _ gF) (by intro z; cases z)) ta3) (by intro z; cases z))
  have sq4:SqL K A4 q (xs.map V.int):=SqL.of (b4.at nqF (sA _ _ nqF (t3 _ _ (t2 _ _ gq))))
  have nd4:=t4.nd
  have lm4:=t4.toCk.len
  have e0:=Int.emod_nonneg (xs[0] / 7) (show (4:Int)≠0 by decide)
  clean_wf
  refine fJ (fun _=>?_) fun _=>?_
  ·clean_wf
   intro A5 b5 g5
   exact ⟨_,_,rfl,(sA.but b4).but b5,g5,yW t4 wy.c0 wy.c1 (by omega)⟩
  ·exact ⟨_,_,rfl,sA.but b4,g4,t4⟩
 rintro σ A ⟨v6,m,rfl,sA,gA,tm⟩
 have smA:Same H A:=fun b o z=>sA b o (aD z hF0) (t13 b o z)
 have gqA:=sA _ _ nqF (t3 _ _ (t2 _ _ gq))
 clean_wf
 intro G A5 hG t5 gG
 have sm5:=smA.trans t5
 have hG0:H G=none:=smA.free hG
 have nqG:q≠G:=aD gqA hG
 have nFG:F≠G:=aD gA hG
 have hl5:=sm5.seq hl
 clean_wf
 refine ⟨_,rfl,by omega,by omega,?_⟩
 refine mJ (fun k σ B=>∃ v8 zs ks,σ=[some (.int h),some (.ref l),some (.ref p),some (.int c),some (.ref q),some (.ref F),v6,some (.ref G),v8,none,none]/\SmB G A5 B/\B G=some (.lst zs)/\Tls B zs ks/\ks.length<=k/\∀ x∈ks,x∈cs) ⟨none,[],[],rfl,SmB.refl _ _,gG,.nil,Nat.le_refl _,(fun _ z=>nomatch z)⟩ ?_ ?_
 ·rintro k σ B hk ⟨v8,zs,ks,rfl,sB,gB,tz,lk,sub⟩
  have hkw:k < ws.length:=by rw [Int.toNat_natCast] at hk; exact hk
  have smB:Same H B:=fun b o z=>sB b o (aD z hG0) (sm5 b o z)
  have hlB:=smB.seq hl
  have sqB:SqL K B q (xs.map V.int):=SqL.of (sB _ _ nqG (t5 _ _ gqA))
  have gFB:=sB _ _ nFG (t5 _ _ gA)
  obtain ⟨y,hy,ta,tt,us,ew,h1,h2,h3⟩:=bu hc (List.getElem?_eq_getElem hkw)
  have hat:atI ws (0 + (k:Int))=some (.ref ta):=by rw [Int.zero_add,← ew]; exact ig (List.getElem?_eq_getElem hkw)
  have st:SqT K B ta [.int y.n,.int y.c,.int y.k,.str y.kd,.int y.w,.ref tt]:=SqT.of (smB _ _ h1)
  have k10:=Int.emod_nonneg (0 + (k:Int)) (show (10:Int)≠0 by decide)
  have k11:=Int.emod_lt_of_pos (0 + (k:Int)) (show (0:Int) < 10 by decide)
  have xk:atI (xs.map V.int) (2 + (0 + (k:Int)) % 10)=some (V.int xs[2 + ((0 + (k:Int)) % 10).toNat]):=by
   rw [show (2 + (0 + (k:Int)) % 10)=((2 + ((0 + (k:Int)) % 10).toNat:Nat):Int) by omega]
   exact iW (by omega)
  have kd0:0<=(0 + (k:Int)) / 10/\(0 + (k:Int)) / 10<=1:=by omega
  have cm:CMul ((0 + (k:Int)) / 10) 48271:=.inr ⟨by decide,by decide⟩
  have cd:Pq xs[2 + ((0 + (k:Int)) % 10).toNat] (1 + (0 + (k:Int)) / 10 * 48271):=⟨by omega,by omega⟩
  have lz:zs.length=ks.length:=Paired.length tz
  have ls:zs.length < sizeLine:=aJ (by omega)
  clean_wf
  refine fJ (fun c1=>?_) fun c1=>?_
  ·clean_wf
   refine fJ (fun c2=>?_) fun c2=>?_
   ·clean_wf
    intro B4 b4 g4
    have m4:SmH B B4:=SmH.but b4 gB (by intro _ z; cases z)
    refine ⟨_,zs ++ [.ref ta],ks ++ [y],rfl,sB.but b4,g4,dJ (cJ m4 tz) ⟨ta,tt,us,rfl,m4 _ _ (smB _ _ h1),m4 _ _ (smB _ _ h2),h3.mono ((SmH.same smB).trans m4)⟩,by rw [List.length_append]; exact Nat.succ_le_succ lk,fun x hx=>?_⟩
    rcases List.mem_append.mp hx with z | z
    ·exact sub x z
    ·rw [List.mem_singleton.mp z]
     exact List.mem_of_getElem? hy
   ·exact ⟨_,zs,ks,rfl,sB,gB,tz,by omega,sub⟩
  ·clean_wf
   exact ⟨_,zs,ks,rfl,sB,gB,tz,by omega,sub⟩
 rintro σ B ⟨v8,zs,ks,rfl,sB,gB,tz,lk,sub⟩
 have smB:Same H B:=fun b o z=>sB b o (aD z hG0) (sm5 b o z)
 have gFB:=sB _ _ nFG (t5 _ _ gA)
 have gqB:=sB _ _ nqG (t5 _ _ gqA)
 have lz:zs.length=ks.length:=Paired.length tz
 rw [Int.toNat_natCast] at lk
 clean_wf
 refine ⟨G,zs,ks.map fun x=>[x.c,x.k],rfl,SqL.of gB,by omega,by rw [List.length_map]; exact lz,fun k hk=>?_,fun i x k H3 Q' hx hk sm3 hq=>?_,fun D zs2 B2 h0 wp _ t6 gD=>?_⟩
 ·obtain ⟨q,_,rfl⟩:=List.mem_map.mp hk
  simp
 ·obtain ⟨y,hy,ty⟩:=bu tz hx
  rw [List.getElem?_map,hy] at hk
  cases hk
  exact ⟨x,rfl,y,ty.up (.same sm3),fun H4 t s4 g4=>hq H4 t s4 (SqT.of g4)⟩
 obtain ⟨ks2,tz2,lk2,sub2⟩:=Ft tz wp
 have tz2:=cJ (.same t6) tz2
 have gF2:=t6 _ _ gFB
 have lz2:zs2.length=ks2.length:=Paired.length tz2
 clean_wf
 refine ⟨F,m,rfl,.inl gF2,qJ tm.toCk,fun p' Tt hp' pT sT=>?_⟩
 have s3':=aH (o:=.lst (Tt.map V.int)) hp'
 have g3':(upd B2 p' (.lst (Tt.map V.int))) p'=some (.lst (Tt.map V.int)):=az
 generalize upd B2 p' (.lst (Tt.map V.int))=B4 at s3' g3' ⊢
 have lT:Tt.length < 64:=by rw [pT.length_eq,List.length_map]; exact qJ tm.toCk
 refine ⟨p',rfl,⟨_,SqL.of g3'⟩,fun E1 hE1=>?_⟩
 refine bQ (K:=K) (a:=p') (xs:=Tt.map V.int) (fun i' σ A=>∃ v zs,σ=[some (.ref F),v]/\Same B4 A/\A E1=some (.lst zs)/\zs.length<=i'/\Prs A zs (prs (Tt.take i') (ct m))) ⟨none,[],rfl,aH hE1,az,Nat.le_refl _,.nil⟩ ?_ ?_ ?_
 ·rintro i' σ A _ ⟨_,_,_,z,_⟩
  exact SqL.of (z _ _ g3')
 ·rintro i' x σ A hx' ⟨v,zs,rfl,sA,hEx,lz,pz⟩
  obtain ⟨cl,hc,rfl⟩:=jJ hx'
  have hi':=(List.getElem?_eq_some_iff.mp hc).1
  have hrA:=sA _ _ (s3' _ _ gF2)
  have hlc:lkI m cl=some (ct m cl):=SN (pT.mem_iff.mp (List.mem_of_getElem? hc))
  clean_wf
  intro u A1' hu' sA1 gA1
  have hE1':=sA1 _ _ hEx
  refine ⟨zs,hE1',aJ (by omega),_,_,rfl,fun b o z=>?_,az,by rw [List.length_append]; exact Nat.succ_le_succ lz,?_⟩
  ·rw [aF (aD z hE1)]
   exact sA1 _ _ (sA b o z)
  ·have kp:∀ a xs,A1' a=some (.tup xs)->(upd A1' E1 (.lst (zs ++ [V.ref u]))) a=some (.tup xs):=fun a xs z=>by
    rw [aF (jM z hE1' (by intro z; cases z))]
    exact z
   have e:prs (Tt.take (i' + 1)) (ct m)=prs (Tt.take i') (ct m) ++ [(cl,ct m cl)]:=by
    unfold prs
    rw [bc hc,List.map_append]
    rfl
   rw [e]
   exact Prs.snoc (pz.mono fun a xs z=>kp _ _ (sA1 _ _ z)) ⟨u,rfl,kp _ _ gA1⟩
 rintro σ C ⟨v,us3,rfl,sC,hEx,lus,pz⟩
 rw [show Tt.take (Tt.map V.int).length=Tt by rw [List.length_map,List.take_length]] at pz
 rw [List.length_map] at lus
 have t4C:=s3'.trans sC
 clean_wf
 intro u C2 hu t7 gu
 have t6C:=t6.trans (t4C.trans t7)
 have smC:=smB.trans t6C
 have hpC:=smC.seq hp
 have sqC:SqL K C2 q (xs.map V.int):=SqL.of (t6C _ _ gqB)
 clean_wf
 refine ⟨p,_,rfl,ys,ns,hpC,hn.up (.same smC),ln,fun C3 qw zw mw t8 hqw nmw lmw=>?_⟩
 have lzw:=nmw.len
 have gD3:=t8 _ _ (t7 _ _ (t4C _ _ gD))
 clean_wf
 intro cc C4 hcc t9 gcc
 have hqw4:=t9.seq hqw
 have sq4:SqL K C4 q (xs.map V.int):=SqL.of (t9 _ _ (t8 _ _ (t6C _ _ gqB)))
 have mly:(0:Int) < (zw.length:Int) + 1:=by omega
 have y0:=Int.emod_nonneg xs[11] (Int.ne_of_gt mly)
 have y1:=Int.emod_lt_of_pos xs[11] mly
 clean_wf
 intro L2' C5 hL2 t10 gL2
 obtain ⟨j,ej⟩:∃ j:Nat,xs[11] % ((zw.length:Int) + 1)=(j:Int):=⟨_,(Int.toNat_of_nonneg y0).symm⟩
 rw [ej] at gL2 y1
 rw [yc _ _ (by omega)] at gL2
 clean_wf
 intro w C6 hw t11 gw
 have sq6:SqL K C6 q (xs.map V.int):=SqL.of (t11 _ _ (t10 _ _ (t9 _ _ (t8 _ _ (t6C _ _ gqB)))))
 clean_wf
 intro tt' C7 htt t12 gtt
 have t8E:=t9.trans (t10.trans (t11.trans t12))
 have t7E:=t8.trans t8E
 have tCE:=t7.trans t7E
 have tBE:=t6C.trans t7E
 refine kk C7 tt' (h,prs Tt (ct m),mw.take j,decide (xs[10] % 3=0),ks2) (smC.trans t7E) ((smC.trans (t8.trans (t9.trans (t10.trans t11)))).free htt) ⟨tt',u,cc,w,us3,_,rfl,?_,t7E _ _ gu,pz.mono (SmH.same tCE),⟨zs2,t12 _ _ (t11 _ _ (t10 _ _ gcc)),cJ (.same (t4C.trans tCE)) tz2⟩,t12 _ _ gw,oJ j (nmw.up (.same t8E))⟩ rfl (prs_td tm pT) ?_ fun x hx=>sub x (sub2 x hx)
 ·rw [gtt]
 ·show (mw.take j).length<=16
  rw [List.length_take]
  omega
end
end K53
namespace K53
open PySem L2
abbrev jg:Stmt:=top 49
section
variable {P:Program} {w:World} {K:PySem.W.Frag} {mg:Str->Option Value} {base:Heap}
theorem Vz (ns:List Int) (i j:Nat):∃ ms:List Int,dz (ns.map V.int) (some (i:Int)) (some (j:Int))=ms.map V.int/\ms.length<=j - i:=by
 obtain ⟨ms,e,_⟩:=Mr ns (some (i:Int)) (some (j:Int))
 refine ⟨ms,e,?_⟩
 have:=congrArg List.length e
 rw [List.length_map] at this
 rw [← this]
 unfold dz
 rw [List.length_take,List.length_drop]
 have e1:HT.sIx (ns.map V.int).length 0 (some (i:Int))=min i (ns.map V.int).length:=by
  show (if (i:Int) < 0 then ((i:Int) + ((ns.map V.int).length:Nat)).toNat else min (i:Int).toNat (ns.map V.int).length)=_
  rw [if_neg (by omega),Int.toNat_natCast]
 have e2:HT.sIx (ns.map V.int).length (ns.map V.int).length (some (j:Int))=min j (ns.map V.int).length:=by
  show (if (j:Int) < 0 then ((j:Int) + ((ns.map V.int).length:Nat)).toNat else min (j:Int).toNat (ns.map V.int).length)=_
  rw [if_neg (by omega),Int.toNat_natCast]
 rw [e1,e2]
 omega
theorem LR {ks hs:List Int} (o:Hs hs) (s:ks.Sublist hs):Hs ks:=⟨o.up.sublist s,fun h hh=>o.rg h (s.mem hh)⟩
def pI (K:PySem.W.Frag):Sp:=fun vs H Q _=>∃ (a:Addr),vs=[.ref a]/\∃ ns:List Int,SqL K H a (ns.map V.int) /\
 ∀ H' t lh lr hs me xs rs C0,Same H H'->H' t=some (.tup [.ref lh,.int me,.ref lr])->H' lh=some (.lst (hs.map V.int))->Hs hs->hs≠[]->H' lr=some (.lst xs)->RpV H' xs rs->Rok rs C0->Hs (rs.map (·.1))->me∈rs.map (·.1)->Q (.ref t) H'
theorem sc__law_case:FnScope ["_law_script","_law_cell","_law_hands_here","_law_calls_here","_law_places","_law_xs","_law_some","_law_reports","_law_k"] ["_law_script"] (au jg):=⟨rfl,rfl,rfl,by decide +kernel,rfl,by decide +kernel,by decide +kernel⟩
theorem Cj {f qF bV uN uE sY:Addr} {fd qe bL sZ sS rG:FuncData} (F:Fun K "_law_case" "_law_case" jg f fd)
  (qM:FnOk P w K mg base CX0 3 qF qe ["_law_script","_law_k"] (lK K)) (qO:Cal K mg "_law_cell_at" qF qe ["_law_script","_law_k"])
  (dN:FnOk P w K mg base CX0 3 bV bL ["_law_cell","_law_amount"] (dW K)) (dO:Cal K mg "_law_stream" bV bL ["_law_cell","_law_amount"])
  (Df:FnOk P w K mg base CX0 3 uN sZ ["_law_cell"] (nR K)) (Dz:Cal K mg "_law_hands" uN sZ ["_law_cell"])
  (CJ:FnOk P w K mg base CX0 3 uE sS ["_law_cells","_law_hands_here","_law_number"] (oA K)) (Dd:Cal K mg "_law_calls" uE sS ["_law_cells","_law_hands_here","_law_number"])
  (zT:FnOk P w K mg base CX0 3 sY rG ["_law_hand","_law_calls_here","_law_places","_law_cell"] (mW K)) (zV:Cal K mg "_law_report" sY rG ["_law_hand","_law_calls_here","_law_places","_law_cell"]) (dU:mg "len"=none) (iz:mg "range"=none):FnOk P w K mg base CX0 4 f fd ["_law_script"] (pI K):=by
 refine F.ok sc__law_case (fun vs H Q E h=>?_) (fun cdv A outer s H vs Q E hr h=>?_)
 ·obtain ⟨a,rfl,_⟩:=h
  rfl
 obtain ⟨a,rfl,h⟩:=h
 have hu64:=hr.units
 have hu0:=hr.units0
 have hu:=bD hr
 refine ⟨_,(aj (aM (i:=1) sc__law_case.nd rfl (Or.inl rfl) (bz qM qO hr (aa (pv 0) (aa aq ak))))
   (aj (aM (i:=2) sc__law_case.nd rfl (Or.inr rfl) (bz Df Dz hr (aa (pv 1) ak)))
   (aj (aM (i:=3) sc__law_case.nd rfl (Or.inl rfl) (bz CJ Dd hr (aa (cR (kE (K:=K) rfl) (pv 0) (cY aq) (cY aq)) (aa (pv 2) (aa (aR cj (pv 1) (aR cB (aR vY aq aq) aq)) ak)))))
   (aj (CP (i:=4) ["_law_call"] [none] sc__law_case.nd rfl (Or.inl rfl) rfl rfl (by kernel_rfl) (bB (K:=K) rfl (pv 3)) (fun _ _ _ _ _ nd=>aX (i:=0) nd rfl (Or.inl rfl)) (fun _ _ _ _ _=>(jn (bh sO (aW (aY (K:=K) rfl) (pv 0) aq (fun _ _=>rfl)) j7 (bx _)))) (fun _ _ _ _ _=>(cR (pA (K:=K) rfl) (pv 0) iM (cY aq))))
   (aj (aM (i:=5) sc__law_case.nd rfl (Or.inr rfl) (bz dN dO hr (aa (bz qM qO hr (aa (pv 0) (aa aq ak))) (aa aq ak))))
   (aj (CP (i:=6) ["_law_hands_here","_law_xs","_law_k"] [some 2,some 5,none] sc__law_case.nd rfl (Or.inl rfl) rfl rfl (by kernel_rfl) (jU rfl iz (aa (bw (bY (K:=K) rfl) (by rfl) dU PySem.boot_len (aa (pv 2) ak)) ak)) (fun _ _ _ _ _ nd=>aX (i:=2) nd rfl (Or.inl rfl)) (fun _ _ _ _ _=>(jn (bh uK (aR cj (aW (bf (K:=K) rfl) (pv 1) (pv 2) (fun _ _=>rfl)) aq) aq (bx _)))) (fun _ _ _ _ _=>(aW (bf (K:=K) rfl) (pv 0) (pv 2) (fun _ _=>rfl))))
   (aj (dD (bh (vV (K:=K) rfl hu64) (pv 6) (dR ak) (bx _)) (aC (aM (i:=6) sc__law_case.nd rfl (Or.inl rfl) (dR (aa (aW (bf (K:=K) rfl) (pv 2) (Th Uq aq) (fun _ _=>rfl)) ak)))) bJ)
   (aj (aM (i:=7) sc__law_case.nd rfl (Or.inl rfl) (dR ak))
   (aj (cP PassesOwn.never rfl (jU rfl iz (aa (bw (bY (K:=K) rfl) (by rfl) dU PySem.boot_len (aa (pv 6) ak)) ak)) (aX (i:=8) sc__law_case.nd rfl (Or.inl rfl))
   (aj (aM (i:=1) sc__law_case.nd rfl (Or.inl rfl) (aR cB (aR qG aq (aR cB (aW (bf (K:=K) rfl) (pv 5) aq (fun _ _=>rfl)) (aR qG aq (aW (bf (K:=K) rfl) (pv 6) (pv 8) (fun _ _=>rfl))))) aq))
   (aj (dD (bh uK (bw (bY (K:=K) rfl) (by rfl) dU PySem.boot_len (aa (pv 0) ak)) (aR cB aq (pv 8)) (bx _)) (aC (aM (i:=1) sc__law_case.nd rfl (Or.inl rfl) (aW (bf (K:=K) rfl) (pv 0) (aR cB aq (pv 8)) (fun _ _=>rfl)))) bJ)
   (aC (jy (gH (K:=K) rfl (rA PySem.F.plainAttrs_list PySem.F.slot_list_append PySem.F.type_list_append iC (pv 7) (aa (bz zT zV hr (aa (aW (bf (K:=K) rfl) (pv 6) (pv 8) (fun _ _=>rfl)) (aa (pv 3) (aa (pv 4) (aa (pv 1) ak))))) ak))))))))
   (aC (aU (fu (aa (pv 2) (aa (aW (bf (K:=K) rfl) (pv 6) (aR cj (aW (bf (K:=K) rfl) (pv 5) aq (fun _ _=>rfl)) (bw (bY (K:=K) rfl) (by rfl) dU PySem.boot_len (aa (pv 6) ak))) (fun _ _=>rfl)) (aa (pv 7) ak))))))))))))))),?_⟩
 obtain ⟨ns,hS,kk⟩:=h
 clean_wf
 refine ⟨a,0,rfl,ns,hS,by decide,fun c=>?_⟩
 clean_wf
 refine ⟨c,rfl,fun H1 lh hs s1 hlh gh ho hne lh5=>?_⟩
 have hS1:=s1.seq hS
 clean_wf
 intro L H2 hL s2 gL
 obtain ⟨ms,ems,lms⟩:=Vz ns 2 18
 have ems:dz (ns.map V.int) (some 2) (some 18)=ms.map V.int:=ems
 rw [ems] at gL
 have p18:=LQ
 have p19:(0:Int) < 10 ^ Int.toNat 18 + 1:=by omega
 clean_wf
 refine ⟨L,lh,_,rfl,ms,hs,SqL.of gL,by omega,SqL.of (s2 _ _ gh),ho,hne,lh5,fun H3 lc ws cs s3 hlc gc tc ic wf lcs=>?_⟩
 have lw:ws.length=cs.length:=Paired.length tc
 have s03:=s1.trans (s2.trans s3)
 have gh3:=s3 _ _ (s2 _ _ gh)
 clean_wf
 intro E hE
 refine bQ (K:=K) (a:=lc) (xs:=ws) (fun i σ A=>∃ v ys qs,σ=[v]/\Same H3 A/\A E=some (.lst ys)/\Nms A ys qs/\qs.length<=i) ⟨none,[],[],rfl,aH hE,az,.nil,Nat.le_refl _⟩ ?_ ?_ ?_
 ·rintro i σ A _ ⟨_,_,_,_,z,_⟩
  exact SqL.of (z _ _ gc)
 ·rintro i w σ A hx ⟨v,ys,qs,rfl,sA,gE,ny,lq⟩
  obtain ⟨y,hy,ta,tt,us,rfl,h1,h2,h3⟩:=bu tc hx
  have hi:=(List.getElem?_eq_some_iff.mp hy).1
  have ln:=ny.len
  have st:SqT K A ta [.int y.n,.int y.c,.int y.k,.str y.kd,.int y.w,.ref tt]:=SqT.of (sA _ _ h1)
  clean_wf
  refine fJ (fun z=>?_) fun z=>?_
  ·clean_wf
   refine ⟨ta,_,rfl,st,ue,fun u2 hu2=>?_⟩
   have s4:=aH (o:=.tup (dz [.int y.n,.int y.c,.int y.k,.str y.kd,.int y.w,.ref tt] none (some 3))) hu2
   have g4:(upd A u2 (.tup (dz [.int y.n,.int y.c,.int y.k,.str y.kd,.int y.w,.ref tt] none (some 3)))) u2=some (.tup [.int y.n,.int y.c,.int y.k]):=az
   generalize upd A u2 (.tup (dz [.int y.n,.int y.c,.int y.k,.str y.kd,.int y.w,.ref tt] none (some 3)))=A4 at s4 g4 ⊢
   have gE4:=s4 _ _ gE
   have kp:SmH A4 (upd A4 E (.lst (ys ++ [.ref u2]))):=SmH.lst gE4
   refine ⟨ys,gE4,aJ (by omega),_,ys ++ [.ref u2],qs ++ [(y.n,y.c,y.k)],rfl,fun b o z=>?_,az,Nms.snoc ((ny.up (.same s4)).up kp) ⟨u2,rfl,kp _ _ g4⟩,by rw [List.length_append]; exact Nat.succ_le_succ lq⟩
   rw [aF (aD z hE)]
   exact s4 _ _ (sA b o z)
  ·exact ⟨_,ys,qs,rfl,sA,gE,ny,by omega⟩
 rintro σ A ⟨v,ys,qs,rfl,sA,gE,ny,lq⟩
 rw [lw] at lq
 have s0A:=s03.trans sA
 clean_wf
 refine ⟨a,1,rfl,ns,s0A.seq hS,by decide,fun c1=>?_⟩
 clean_wf
 refine ⟨c1,8,rfl,by decide,by decide,fun A1 q xs t1 hq gq lx hm=>?_⟩
 have lx8:xs.length=8:=lx
 have ghA1:=t1 _ _ (sA _ _ gh3)
 have gcA1:=t1 _ _ (sA _ _ gc)
 have gEA1:=t1 _ _ gE
 have sh1:SqL K A1 lh (hs.map V.int):=SqL.of ghA1
 clean_wf
 refine ⟨_,rfl,by omega,by rw [List.length_map]; omega,fun E2 hE2=>?_⟩
 refine HQ (fun i σ B=>∃ v ks,σ=[some (.ref lh),some (.ref q),v]/\Same A1 B/\B E2=some (.lst ((ks:List Int).map V.int))/\ks.Sublist (hs.take i)) ⟨none,[],rfl,aH hE2,az,List.Sublist.refl _⟩ ?_ ?_
 ·rintro i σ B hi ⟨v,ks,rfl,sB,gB,su⟩
  have hi':i < hs.length:=by rw [Int.toNat_natCast,List.length_map] at hi; exact hi
  have shB:SqL K B lh (hs.map V.int):=SqL.of (sB _ _ ghA1)
  have sqB:SqL K B q (xs.map V.int):=SqL.of (sB _ _ gq)
  have ha:atI (hs.map V.int) (0 + (i:Int))=some (V.int hs[i]):=by rw [Int.zero_add]; exact iW hi'
  have hb:atI (xs.map V.int) (0 + (i:Int))=some (V.int xs[i]):=by rw [Int.zero_add]; exact iW (by omega)
  have lk:=su.length_le
  rw [List.length_take] at lk
  clean_wf
  refine fJ (fun z=>?_) fun z=>?_
  ·clean_wf
   refine ⟨_,gB,aJ (by rw [List.length_map]; omega),_,ks ++ [hs[i]],rfl,fun b o z=>?_,?_,?_⟩
   ·rw [aF (aD z hE2)]
    exact sB b o z
   ·rw [az,List.map_append]
    rfl
   ·rw [bc (List.getElem?_eq_getElem hi')]
    exact su.append (List.Sublist.refl _)
  ·refine ⟨_,ks,rfl,sB,gB,?_⟩
   rw [bc (List.getElem?_eq_getElem hi')]
   exact su.trans (List.sublist_append_left _ _)
 rintro σ B ⟨v,ks,rfl,sB,gB,su⟩
 rw [Int.toNat_natCast,List.length_map,List.take_length] at su
 have hat:atI (hs.map V.int) (-1)=some (V.int (hs.getLast hne)):=by
  have e:=List.dropLast_concat_getLast hne
  conv=>lhs; rw [← e,List.map_append]
  exact Ot _ _
 refine Fy (fun σ' D=>∃ S ks,σ'=[some (.ref a),some (.int c),some (.ref lh),some (.ref lc),some (.ref E),some (.ref q),some (.ref S),none,none]/\Same A1 D/\D S=some (.lst ((ks:List Int).map V.int))/\ks≠[]/\ks.Sublist hs) ?_ fun N rest=>?_
 rotate_left
 ·clean_wf
  intro n1 B1 hn1 s5 gn1
  refine Cq (SqL.of (s5 _ _ gB)) (zH ks) (lay_ints ks) (SqL.of gn1) ?_
  clean_wf
  refine fJ (fun z=>?_) fun z=>?_
  ·have shB1:SqL K B1 lh (hs.map V.int):=SqL.of (s5 _ _ (sB _ _ ghA1))
   clean_wf
   intro S B2 hS2 s6 gS2
   exact rest _ _ ⟨S,[hs.getLast hne],rfl,sB.trans (s5.trans s6),gS2,by simp,List.singleton_sublist.mpr (List.getLast_mem hne)⟩
  ·exact rest _ _ ⟨E2,ks,rfl,sB.trans s5,s5 _ _ gB,fun w=>z (by rw [w]; rfl),su⟩
 clear su gB sB ks B
 rintro σ' D ⟨S,ks,rfl,sD,gS,kne,su⟩
 have lks:=su.length_le
 clean_wf
 intro R D1 hR s4 gR
 have gS1:=s4 _ _ gS
 have nSR:S≠R:=aD gS hR
 clean_wf
 refine ⟨_,rfl,by omega,by rw [List.length_map]; omega,?_⟩
 refine mJ (fun i σ B=>∃ cc v vs rs,σ=[some (.ref a),some (.int cc),some (.ref lh),some (.ref lc),some (.ref E),some (.ref q),some (.ref S),some (.ref R),v]/\SmB R D1 B/\B R=some (.lst vs)/\RpV B vs rs/\rs.map (·.1)=ks.take i/\(∀ r∈rs,Td r.2.1/\r.2.2.1.length<=16/\∀ x∈r.2.2.2.2,x∈cs)) ⟨c,none,[],[],rfl,SmB.refl _ _,gR,.nil,rfl,(fun _ z=>nomatch z)⟩ ?_ ?_
 ·rintro i σ B hi ⟨cc,v,vs,rs,rfl,sB',gR',rv,er,ok⟩
  have hi':i < ks.length:=by rw [Int.toNat_natCast,List.length_map] at hi; exact hi
  have hh:ks[i]?=some ks[i]:=List.getElem?_eq_getElem hi'
  have hd0:=(LR ho su).rg ks[i] (List.getElem_mem _)
  have dB0:Same D B:=fun b o z=>sB' b o (aD z hR) (s4 b o z)
  have dB:Same A1 B:=sD.trans dB0
  have sqB:SqL K B q (xs.map V.int):=SqL.of (dB _ _ gq)
  have sSB:SqL K B S (ks.map V.int):=SqL.of (dB0 _ _ gS)
  have hSB:SqL K B a (ns.map V.int):=(s0A.trans (t1.trans dB)).seq hS
  have at5:=iW (xs:=xs) (i:=5) (by omega)
  have hk':atI (ks.map V.int) (0 + (i:Int))=some (V.int ks[i]):=by rw [Int.zero_add]; exact iW hi'
  have cm:CMul 7919 ks[i]:=.inl ⟨by decide,by decide⟩
  have cm2:CMul 2 (xs[5] + 7919 * ks[i]):=.inl ⟨by decide,by decide⟩
  have lr:vs.length=rs.length:=Paired.length rv
  have lrs:rs.length<=i:=by have:=congrArg List.length er; rw [List.length_map,List.length_take] at this; omega
  have h3B:Same H3 B:=sA.trans (t1.trans dB)
  clean_wf
  refine Fy (fun σ' B'=>B'=B/\∃ cc,σ'=[some (.ref a),some (.int cc),some (.ref lh),some (.ref lc),some (.ref E),some (.ref q),some (.ref S),some (.ref R),some (.int (0 + (i:Int)))]) ?_ fun N rest=>?_
  ·rintro σ' B' ⟨rfl,cc,rfl⟩
   clean_wf
   refine ⟨ks[i],lc,E,cc,rfl,ws,cs,ys,qs,SqL.of (dB _ _ gcA1),cJ (.same h3B) tc,lcs,wf,SqL.of (dB _ _ gEA1),ny.up (.same (t1.trans dB)),by omega,fun B2 t r s7 ht ra e1 e2 e3 e4=>?_⟩
   have gR2:=s7 _ _ gR'
   have ls:vs.length < sizeLine:=aJ (by omega)
   clean_wf
   intro B3 b3 g3
   have kp:SmH B2 B3:=SmH.but b3 gR2 (by intro _ z; cases z)
   refine ⟨_,_,vs ++ [.ref t],rs ++ [r],rfl,SmB.but (fun b o nb z=>s7 _ _ (sB' b o nb z)) b3,g3,dJ (nO kp (nO (.same s7) rv)) (ra.up kp),?_,fun r' hr'=>?_⟩
   ·rw [List.map_append,er,bc hh,← e1]
    rfl
   ·rcases List.mem_append.mp hr' with z | z
    ·exact ok r' z
    ·rw [List.mem_singleton.mp z]
     exact ⟨e2,e3,e4⟩
  ·clean_wf
   refine fJ (fun z=>?_) fun z=>?_
   ·have z:(18 + (0 + (i:Int))) < ((ns.map V.int).length:Nat):=by simpa using z
    rw [List.length_map] at z
    have hx18:(18 + (0 + (i:Int))).toNat < ns.length:=by omega
    have hat18:atI (ns.map V.int) (18 + (0 + (i:Int)))=some (V.int ns[(18 + (0 + (i:Int))).toNat]):=rK (by omega) (by rw [List.getElem?_map,List.getElem?_eq_getElem hx18]; rfl)
    clean_wf
    exact rest _ _ ⟨rfl,_,rfl⟩
   ·exact rest _ _ ⟨rfl,_,rfl⟩
 rintro σ B ⟨cc,v,vs,rs,rfl,sB',gE3,rv,er,ok⟩
 rw [Int.toNat_natCast,List.length_map,List.take_length] at er
 have lk0:0 < ks.length:=List.length_pos_iff.mpr kne
 have dB0:Same D B:=fun b o z=>sB' b o (aD z hR) (s4 b o z)
 have dB:Same A1 B:=sD.trans dB0
 have sqB:SqL K B q (xs.map V.int):=SqL.of (dB _ _ gq)
 have sSB:SqL K B S (ks.map V.int):=SqL.of (dB0 _ _ gS)
 have at6:=iW (xs:=xs) (i:=6) (by omega)
 have ml:(0:Int) < (((ks.map V.int).length:Nat):Int):=by rw [List.length_map]; omega
 have j0:=Int.emod_nonneg xs[6] (show (((ks.map V.int).length:Nat):Int)≠0 by omega)
 have j1:=Int.emod_lt_of_pos xs[6] ml
 have jl:(xs[6] % (((ks.map V.int).length:Nat):Int)).toNat < ks.length:=by rw [List.length_map] at j1 j0 ⊢; omega
 obtain ⟨me,hme⟩:∃ me,ks[(xs[6] % (((ks.map V.int).length:Nat):Int)).toNat]?=some me:=⟨_,List.getElem?_eq_getElem jl⟩
 have hat6:atI (ks.map V.int) (xs[6] % (((ks.map V.int).length:Nat):Int))=some (V.int me):=rK j0 (by rw [List.getElem?_map,hme]; rfl)
 have lr:rs.length=ks.length:=by have:=congrArg List.length er; rw [List.length_map] at this; exact this
 clean_wf
 intro t B5 ht s8 g8
 have hk:=LR ho su
 refine kk B5 t lh R hs me vs rs cs (s0A.trans (t1.trans (dB.trans s8))) g8 (s8 _ _ (dB _ _ ghA1)) ho hne (s8 _ _ gE3) (nO (.same s8) rv) ⟨by omega,fun r hr=>(ok r hr).1,fun r hr=>hk.rg r.1 (by rw [← er]; exact List.mem_map.mpr ⟨r,hr,rfl⟩),fun r hr=>(ok r hr).2.1,fun x hx=>?_,ic,lcs,fun x hx=>(wf x hx).1⟩ (by rw [er]; exact hk) (by rw [er]; exact List.mem_of_getElem? hme)
 obtain ⟨r,hr,hx⟩:=List.mem_flatMap.mp hx
 exact (ok r hr).2.2 x hx
end
end K53
namespace K53
open PySem L2
abbrev eX:Stmt:=top 50
abbrev jh:Stmt:=top 51
abbrev my:Stmt:=top 52
section
variable {P:Program} {w:World} {K:PySem.W.Frag} {mg:Str->Option Value} {base:Heap}
theorem O7 {m:List (Int×Int)} (t:Td m) (k:Int):0<=ct m k:=t.toCk.ct k
theorem Wb (k:Int):ct [] k=0:=rfl
theorem RZ {m:List (Int×Int)} (nd:(m.map (·.1)).Nodup) {j:Nat} {p:Int×Int} (hp:m[j]?=some p) (k:Int):ct (m.take (j + 1)) k=if k=p.1 then p.2 else ct (m.take j) k:=by
 have nd1:((m.take (j + 1)).map (·.1)).Nodup:=by
  have:=nd
  rw [← List.take_append_drop (j + 1) m,List.map_append,List.nodup_append] at this
  exact this.1
 rw [bc hp] at nd1 ⊢
 by_cases z:k=p.1
 ·rw [if_pos z,z]
  exact yN nd1 (List.mem_append_right _ (List.mem_singleton.mpr rfl))
 ·rw [if_neg z]
  by_cases w:k∈(m.take j).map (·.1)
  ·obtain ⟨q,hq,e⟩:=List.mem_map.mp w
   have nd0:((m.take j).map (·.1)).Nodup:=by
    rw [List.map_append,List.nodup_append] at nd1
    exact nd1.1
   rw [← e,yN nd1 (List.mem_append_left _ hq),yN nd0 hq]
  ·rw [n6 w,n6]
   intro u
   rw [List.map_append,List.mem_append] at u
   rcases u with u | u
   ·exact w u
   ·exact z (by simpa using u)
theorem O9 {m:List (Int×Int)} (nd:(m.map (·.1)).Nodup) {j:Nat} {p:Int×Int} (hp:m[j]?=some p):ct (m.take j) p.1=0:=by
 refine n6 fun z=>?_
 have nd1:=nd
 rw [← List.take_append_drop j m,List.map_append,List.nodup_append] at nd1
 refine nd1.2.2 _ z p.1 ?_ rfl
 have hi:=(List.getElem?_eq_some_iff.mp hp).1
 rw [List.drop_eq_getElem_cons hi,List.map_cons,(List.getElem?_eq_some_iff.mp hp).2]
 exact List.mem_cons_self
theorem put_old {A:Hp} {C0:List Cll} (u:Inc C0) {x:Cll} (hx:x∈C0) {v:V} (hv:TldA A v x):∀ {kvs:List (List Key×V)} {cs:List Cll},kvs.map (·.1)=cs.map dM->Tls A (kvs.map (·.2)) cs->(∀ y∈cs,y∈C0) ->
  (kvs.map fun kv=>if kv.1=dM x then (kv.1,v) else kv).map (·.1)=cs.map dM/\Tls A ((kvs.map fun kv=>if kv.1=dM x then (kv.1,v) else kv).map (·.2)) cs
 | [],cs,ks,tl,_=>⟨ks,tl⟩
 | kv :: kvs,[],ks,_,_=>by simp at ks
 | kv :: kvs,y :: cs,ks,tl,sub=>by
  rw [List.map_cons,List.map_cons] at ks
  injection ks with k1 k2
  rw [List.map_cons] at tl
  cases tl with
  | cons r t =>
   obtain ⟨a,b⟩:=put_old u hx hv k2 t fun z hz=>sub z (List.mem_cons_of_mem _ hz)
   by_cases e:kv.1=dM x
   ·have ey:y=x:=by
     rw [k1] at e
     simp only [dM,List.cons.injEq,Sum.inl.injEq,and_true] at e
     exact vH u (sub y List.mem_cons_self) hx e.2.1 e.2.2
    refine ⟨?_,?_⟩
    ·rw [List.map_cons,List.map_cons,a,if_pos e,List.map_cons,k1]
    ·rw [List.map_cons,List.map_cons,if_pos e]
     exact .cons (ey ▸ hv) b
   ·refine ⟨?_,?_⟩
    ·rw [List.map_cons,List.map_cons,a,if_neg e,List.map_cons,k1]
    ·rw [List.map_cons,List.map_cons,if_neg e]
     exact .cons r b
structure Fso (A B:Hp) (D:Addr) (m:List (Int×Int)) (C0:List Cll) (kvs:List (List Key×V)) (cs pr:List Cll):Prop where
 sm:SmB D A B
 gD:B D=some (.dT kvs)
 ks:kvs.map (·.1)=cs.map dM
 tl:Tls B (kvs.map (·.2)) cs
 ic:Inc cs
 sub:∀ x∈cs,x∈C0
 mem:∀ x,x∈cs↔x∈pr/\ct m x.c < x.k
def lM (K:PySem.W.Frag):Sp:=fun vs H Q _=>∃ (a e:Addr),vs=[.ref a,.ref e]/\∃ xs rs C0,H a=some (.lst xs)/\RpV H xs rs/\Rok rs C0/\H e=some (.dK (dI [])) /\
 ∀ H' D m kvs cs,SmB e H H'->H D=none->H' e=some (.dK (dI m))->Td m->(∀ k,ct m k=mxl rs k)->H' D=some (.dT kvs)->kvs.map (·.1)=cs.map dM->Tls H' (kvs.map (·.2)) cs->Inc cs->(∀ x∈cs,x∈C0)->(∀ x,x∈cs↔x∈rcs rs/\ct m x.c < x.k)->Q (.ref D) H'
theorem sc__law_offered:FnScope ["_law_reports","_law_counts","_law_found","_law_report_here","_law_caller","_law_count","_law_told"] ["_law_reports","_law_counts"] (au eX):=⟨rfl,rfl,rfl,by decide +kernel,rfl,by decide +kernel,by decide +kernel⟩
theorem xg {f :Addr} {fd :FuncData} (F:Fun K "_law_offered" "_law_offered" eX f fd) (Fj:mg "max"=none):FnOk P w K mg base CX0 1 f fd ["_law_reports","_law_counts"] (lM K):=by
 refine F.ok sc__law_offered (fun vs H Q E h=>?_) (fun cdv A outer s H vs Q E hr h=>?_)
 ·obtain ⟨a,e,rfl,_⟩:=h
  rfl
 obtain ⟨a,e,rfl,h⟩:=h
 have hu64:=hr.units
 have hu0:=hr.units0
 have hu:=bD hr
 refine ⟨_,(aj (aM (i:=2) sc__law_offered.nd rfl (Or.inl rfl) EY)
   (aj (cP PassesOwn.never rfl (bB (K:=K) rfl (pv 0)) (aX (i:=3) sc__law_offered.nd rfl (Or.inl rfl))
   (aC (cP PassesOwn.never rfl (uU (K:=K) rfl (aW (aY (K:=K) rfl) (pv 3) aq (fun _ _=>rfl))) (xH (K:=K) (n:=2) rfl rfl (jt (aX (i:=4) sc__law_offered.nd rfl (Or.inl rfl)) (jt (aX (i:=5) sc__law_offered.nd rfl (Or.inl rfl)) xJ)))
   (aC (lU hu (pv 1) (pv 4) (bw (Ad rfl) (by rfl) Fj PyProof.Rows.boot_max (aa (pv 5) (aa (gZ hu (pv 1) (pv 4) aq ⟨rfl,rfl,rfl,rfl⟩) ak))) rfl)))))
   (aj (cP PassesOwn.never rfl (bB (K:=K) rfl (pv 0)) (aX (i:=3) sc__law_offered.nd rfl (Or.inl rfl))
   (aC (cP PassesOwn.never rfl (uU (K:=K) rfl (aW (aY (K:=K) rfl) (pv 3) aq (fun _ _=>rfl))) (aX (i:=6) sc__law_offered.nd rfl (Or.inl rfl))
   (aC (dD (bh uK (aW (aY (K:=K) rfl) (pv 6) aq (fun _ _=>rfl)) (gZ hu (pv 1) (aW (aY (K:=K) rfl) (pv 6) aq (fun _ _=>rfl)) aq ⟨rfl,rfl,rfl,rfl⟩) (bx _)) (aC (lU hu (pv 2) (cR (pA (K:=K) rfl) (pv 6) iM (cY aq)) (pv 6) rfl)) bJ)))))
   (aC (aU (pv 2)))))),?_⟩
 obtain ⟨xs,rs,C0,ha,hx,R,he,kk⟩:=h
 have lx:xs.length=rs.length:=Paired.length hx
 have nae:a≠e:=jM ha he (by intro z; cases z)
 clean_wf
 intro D hD
 have s1:=aH (o:=.dT []) hD
 have g1:(upd H D (.dT [])) D=some (.dT []):=az
 generalize upd H D (.dT [])=H1 at s1 g1 ⊢
 have he1:=s1 _ _ he
 have ha1:=s1 _ _ ha
 have nDe:D≠e:=(aD he hD).symm
 have naD:a≠D:=aD ha hD
 have up1:∀ A,SmB e H1 A->SmH H A:=fun A sA b ys z=>sA b _ (fun w=>by rw [w,he] at z; cases z) (s1 _ _ z)
 clean_wf
 refine fL (xs:=xs) (fun i σ A=>∃ v3 v4 v5 n,σ=[some (.ref a),some (.ref e),some (.ref D),v3,v4,v5,none]/\SmB e H1 A/\A e=some (.dK (dI n))/\Td n/\∀ k,ct n k=mxl (rs.take i) k) ⟨none,none,none,[],rfl,SmB.refl _ _,he1,Td.nil,fun k=>rfl⟩ (fun i σ A _ z=>by obtain ⟨_,_,_,_,_,z,_⟩:=z; exact SqL.of (z _ _ nae ha1)) ?_ ?_
 ·rintro i x σ A hxi ⟨v3,v4,v5,n,rfl,sA,gA,tn,cn⟩
  obtain ⟨r,hr,t,u,c,w,ps,ys,rfl,e1,e2,e3,e4,e5,e6⟩:=bu hx hxi
  have mA:=up1 A sA
  have f1:=SqT.of (K:=K) (mA _ _ e1)
  have a1:atI [V.int r.1,.ref u,.ref c,.ref w,.bl r.2.2.2.1] 1=some (.ref u):=by kernel_rfl
  have f2:=SqT.of (K:=K) (mA _ _ e2)
  have tr:=R.td r (List.mem_of_getElem? hr)
  have lp:ps.length=r.2.1.length:=e3.len
  clean_wf
  refine uL (xs:=ps) (fun j σ B=>∃ v4 v5 n',σ=[some (.ref a),some (.ref e),some (.ref D),some (.ref t),v4,v5,none]/\SmB e H1 B/\B e=some (.dK (dI n'))/\Td n'/\∀ k,ct n' k=max (mxl (rs.take i) k) (ct (r.2.1.take j) k)) ⟨_,_,n,rfl,sA,gA,tn,fun k=>?_⟩ (fun j σ B _ z=>by obtain ⟨_,_,_,_,z,_⟩:=z; exact SqT.of (up1 B z _ _ e2)) ?_ ?_
  ·have:=O7 tn k
   rw [List.take_zero,← cn k]
   show _=max _ (ct [] k)
   rw [Wb]
   omega
  ·rintro j y σ B hyj ⟨v4,v5,n',rfl,sB,gB,tn',cn'⟩
   obtain ⟨pp,hpp,b,rfl,hb⟩:=e3.get hyj
   have st:=SqT.of (K:=K) (up1 B sB _ _ hb)
   have pr:=tr.toCk.rg pp (List.mem_of_getElem? hpp)
   have pv:=tr.ps pp (List.mem_of_getElem? hpp)
   have nd:=tn'.nd
   have lm:=tn'.toCk.len
   clean_wf
   refine ⟨_,_,rfl,?_⟩
   clean_wf
   intro B2 b2 g2
   have c0:=cn' pp.1
   rw [O9 tr.nd hpp] at c0
   have cz:=O7 tn' pp.1
   refine ⟨_,_,_,rfl,sB.but b2,g2,yW tn' pr.1 pr.2 ?_,fun k=>?_⟩
   ·split <;> omega
   ·rw [lG,RZ tr.nd hpp]
    by_cases z:k=pp.1
    ·rw [if_pos z,if_pos z,z]
     have gd:(lkI n' pp.1).getD 0=ct n' pp.1:=rfl
     split <;> omega
    ·rw [if_neg z,if_neg z]
     exact cn' k
  rintro σ B ⟨v4,v5,n',rfl,sB,gB,tn',cn'⟩
  rw [lp,List.take_length] at cn'
  exact ⟨_,_,_,n',rfl,sB,gB,tn',fun k=>by rw [bc hr,GJ]; exact cn' k⟩
 rintro σ A ⟨v3,v4,v5,m,rfl,sA,gA,tm,cm⟩
 rw [lx,List.take_length] at cm
 have gDA:=sA _ _ nDe g1
 have mA:=up1 A sA
 have hxA:=nO mA hx
 have haA:=sA _ _ nae ha1
 have upD:∀ B,SmB D A B->SmH A B:=fun B sB b ys z=>sB b _ (fun w=>by rw [w,gDA] at z; cases z) z
 clean_wf
 refine fL (xs:=xs) (fun i σ B=>∃ v3 v6 kvs cs,σ=[some (.ref a),some (.ref e),some (.ref D),v3,v4,v5,v6]/\Fso A B D m C0 kvs cs (rcs (rs.take i))) ⟨v3,none,[],[],rfl,SmB.refl _ _,gDA,rfl,.nil,List.Pairwise.nil,(fun _ z=>nomatch z),fun x=>⟨(fun z=>nomatch z),(fun z=>nomatch z.1)⟩⟩ (fun i σ B _ z=>by obtain ⟨_,_,_,_,_,z⟩:=z; exact SqL.of (z.sm _ _ naD haA)) ?_ ?_
 ·rintro i x σ B' hxi ⟨v3',v6,kvs,cs,rfl,B⟩
  obtain ⟨r,hr,t,u,c,w,ps,ys,rfl,e1,e2,e3,⟨zs,z1,z2⟩,e5,e6⟩:=bu hxA hxi
  have mB:=upD B' B.sm
  have f1:=SqT.of (K:=K) (mB _ _ e1)
  have a1:atI [V.int r.1,.ref u,.ref c,.ref w,.bl r.2.2.2.1] 2=some (.ref c):=by kernel_rfl
  have lz:zs.length=r.2.2.2.2.length:=Paired.length z2
  have f2:=SqT.of (K:=K) (mB _ _ z1)
  have rsub:∀ x∈r.2.2.2.2,x∈C0:=fun x hx=>R.sub x (List.mem_flatMap.mpr ⟨r,List.mem_of_getElem? hr,hx⟩)
  clean_wf
  refine uL (xs:=zs) (fun j σ B=>∃ v6 kvs cs,σ=[some (.ref a),some (.ref e),some (.ref D),some (.ref t),v4,v5,v6]/\Fso A B D m C0 kvs cs (rcs (rs.take i) ++ r.2.2.2.2.take j)) ⟨v6,kvs,cs,rfl,by rw [List.take_zero,List.append_nil]; exact B⟩ (fun j σ B _ z=>by obtain ⟨_,_,_,_,z⟩:=z; exact SqT.of (upD _ z.sm _ _ z1)) ?_ ?_
  ·clear B f1 f2 mB kvs cs v6 B'
   rintro j y σ B' hyj ⟨v6,kvs,cs,rfl,B⟩
   obtain ⟨x,hx2,tx⟩:=bu z2 hyj
   have xC:=rsub x (List.mem_of_getElem? hx2)
   have lcs:=pH B.ic B.sub
   have lC:=R.lc
   have lk:kvs.length=cs.length:=by have:=congrArg List.length B.ks; rw [List.length_map,List.length_map] at this; exact this
   have txA:=tx.up (upD B' B.sm)
   have gdA:=B.sm _ _ nDe.symm gA
   obtain ⟨ta,tt,us,rfl,h1,h2,h3⟩:=id txA
   have st:SqT K B' ta [.int x.n,.int x.c,.int x.k,.str x.kd,.int x.w,.ref tt]:=SqT.of h1
   rw [bc hx2,← List.append_assoc]
   have vk:=JH B.ks R.ic B.sub xC
   clean_wf
   refine fJ (fun z=>?_) fun z=>?_
   ·have z:(lkI m x.c).getD 0 < x.k:=by simpa using z
    clean_wf
    refine ⟨ta,_,rfl,st,ue,fun u2 hu2=>?_⟩
    have s4:=aH (o:=.tup (dz [.int x.n,.int x.c,.int x.k,.str x.kd,.int x.w,.ref tt] none (some 3))) hu2
    have g4:(upd B' u2 (.tup (dz [.int x.n,.int x.c,.int x.k,.str x.kd,.int x.w,.ref tt] none (some 3)))) u2=some (.tup [.int x.n,.int x.c,.int x.k]):=az
    generalize upd B' u2 (.tup (dz [.int x.n,.int x.c,.int x.k,.str x.kd,.int x.w,.ref tt] none (some 3)))=A4 at s4 g4 ⊢
    have gD4:=s4 _ _ B.gD
    refine ⟨D,_,rfl,DPut.t (k:=dM x) gD4 g4 (aJ (by omega)),?_⟩
    have b5:But D A4 (upd A4 D (.dT (putK kvs (dM x) (.ref ta)))):=fun b hb=>aF hb
    have g5:(upd A4 D (.dT (putK kvs (dM x) (.ref ta)))) D=some (.dT (putK kvs (dM x) (.ref ta))):=az
    generalize upd A4 D (.dT (putK kvs (dM x) (V.ref ta)))=A5 at b5 g5 ⊢
    have m45:SmH A4 A5:=SmH.but b5 gD4 (by intro _ z; cases z)
    have mA5:SmH B' A5:=(SmH.same s4).trans m45
    have sm5:SmB D A A5:=SmB.but (fun b o nb z=>s4 _ _ (B.sm b o nb z)) b5
    have tl5:=cJ mA5 B.tl
    have tx5:=txA.up mA5
    rcases vk with ⟨zi,zv⟩ | ⟨zi,zv⟩
    ·have ep:putK kvs (dM x) (.ref ta)=kvs.map fun kv=>if kv.1=dM x then (kv.1,.ref ta) else kv:=by
      unfold putK
      rw [oZ,if_pos zv]
     rw [ep] at g5
     obtain ⟨q1,q2⟩:=put_old R.ic xC tx5 B.ks tl5 B.sub
     refine ⟨_,_,cs,rfl,sm5,g5,q1,q2,B.ic,B.sub,fun y=>?_⟩
     rw [B.mem y]
     constructor
     ·rintro ⟨w1,w2⟩
      exact ⟨List.mem_append_left _ w1,w2⟩
     ·rintro ⟨w1,w2⟩
      rcases List.mem_append.mp w1 with w1 | w1
      ·exact ⟨w1,w2⟩
      ·rw [List.mem_singleton.mp w1]; exact (B.mem x).mp zi
    ·rw [put_new zv] at g5
     refine ⟨_,_,cs ++ [x],rfl,sm5,g5,?_,?_,JG B.ic R.ic B.sub xC zi,fun y hy=>?_,fun y=>?_⟩
     ·rw [List.map_append,List.map_append,B.ks]
      rfl
     ·rw [List.map_append]
      exact dJ tl5 tx5
     ·rcases List.mem_append.mp hy with w | w
      ·exact B.sub y w
      ·rw [List.mem_singleton.mp w]; exact xC
     ·rw [List.mem_append,List.mem_append,B.mem y,List.mem_singleton]
      constructor
      ·rintro (⟨w1,w2⟩ | w)
       ·exact ⟨.inl w1,w2⟩
       ·exact ⟨.inr w,by rw [w]; exact z⟩
      ·rintro ⟨w1 | w1,w2⟩
       ·exact .inl ⟨w1,w2⟩
       ·exact .inr w1
   ·have z:¬ (lkI m x.c).getD 0 < x.k:=fun w=>z (by simpa using w)
    refine ⟨_,kvs,cs,rfl,B.sm,B.gD,B.ks,B.tl,B.ic,B.sub,fun y=>?_⟩
    rw [B.mem y]
    constructor
    ·rintro ⟨w1,w2⟩
     exact ⟨List.mem_append_left _ w1,w2⟩
    ·rintro ⟨w1,w2⟩
     rcases List.mem_append.mp w1 with w1 | w1
     ·exact ⟨w1,w2⟩
     ·rw [List.mem_singleton.mp w1] at w2; exact absurd w2 z
  ·rintro σ A2 ⟨v6,kvs,cs,rfl,B⟩
   rw [lz,List.take_length] at B
   refine ⟨_,v6,kvs,cs,rfl,?_⟩
   rw [bc hr,show rcs (rs.take i ++ [r])=rcs (rs.take i) ++ r.2.2.2.2 by unfold rcs; rw [List.flatMap_append]; simp]
   exact B
 rintro σ B' ⟨v3',v6,kvs,cs,rfl,B⟩
 rw [lx,List.take_length] at B
 clean_wf
 exact kk B' D m kvs cs (fun b o nb z=>B.sm b o (aD z hD) (sA b o nb (s1 b o z))) hD (B.sm _ _ nDe.symm gA) tm cm B.gD B.ks B.tl B.ic B.sub B.mem
def mj (K:PySem.W.Frag):Sp:=fun vs H Q _=>∃ (v:V) (d:Addr),vs=[v,.ref d]/\∃ x m,TldA H v x/\Wf x/\Rd H d (.dK (dI m))/\Ck m/\∀ H',Same H H'->Q (.bl (frb m x)) H'
theorem sc__law_free:FnScope ["_law_told","_law_counts","_law_hand","_law_count"] ["_law_told","_law_counts"] (au jh):=⟨rfl,rfl,rfl,by decide +kernel,rfl,by decide +kernel,by decide +kernel⟩
theorem Cv {f :Addr} {fd :FuncData} (F:Fun K "_law_free" "_law_free" jh f fd):FnOk P w K mg base CX0 1 f fd ["_law_told","_law_counts"] (mj K):=by
 refine F.ok sc__law_free (fun vs H Q E h=>?_) (fun cdv A outer s H vs Q E hr h=>?_)
 ·obtain ⟨v,d,rfl,_⟩:=h
  rfl
 obtain ⟨v,d,rfl,h⟩:=h
 have hu64:=hr.units
 have hu0:=hr.units0
 have hu:=bD hr
 refine ⟨_,(aj (dD (bh JC (aW (aY (K:=K) rfl) (pv 0) aq (fun _ _=>rfl)) (aR cB (gZ hu (pv 1) (aW (aY (K:=K) rfl) (pv 0) aq (fun _ _=>rfl)) aq ⟨rfl,rfl,rfl,rfl⟩) aq) (bx _)) (aC (aU wL)) bJ)
   (aj (cP PassesOwn.never rfl (uU (K:=K) rfl (aW (aY (K:=K) rfl) (pv 0) aq (fun _ _=>rfl))) (xH (K:=K) (n:=2) rfl rfl (jt (aX (i:=2) sc__law_free.nd rfl (Or.inl rfl)) (jt (aX (i:=3) sc__law_free.nd rfl (Or.inl rfl)) xJ)))
   (aC (dD (bh zj (gZ hu (pv 1) (pv 2) aq ⟨rfl,rfl,rfl,rfl⟩) (pv 3) (bx _)) (aC (aU wL)) bJ)))
   (aC (aU wL)))),?_⟩
 obtain ⟨x,m,⟨a,t,ys,rfl,ha,ht,hp⟩,wf,hd,cm,kk⟩:=h
 have sa:SqT K H a [.int x.n,.int x.c,.int x.k,.str x.kd,.int x.w,.ref t]:=SqT.of ha
 have ef:=RB wf cm
 have lp:=hp.len
 clean_wf
 refine fJ (fun h1=>?_) fun h1=>?_
 ·have h1:¬ ct m x.c=x.k - 1:=fun z=>by
   have z:x.k=(lkI m x.c).getD 0 + 1:=by unfold ct at z; omega
   rw [decide_eq_true z] at h1
   cases h1
  have e:frb m x=false:=by
   rw [ef,decide_eq_false h1]
   rfl
  rw [e] at kk
  clean_wf
  exact kk H (.refl _)
 have h1:ct m x.c=x.k - 1:=by
  by_cases z:x.k=(lkI m x.c).getD 0 + 1
  ·unfold ct; omega
  ·rw [decide_eq_false z] at h1
   exact absurd rfl h1
 rw [ef,decide_eq_true h1,Bool.true_and] at kk
 have st:SqT K H t ys:=SqT.of ht
 clean_wf
 refine uL (xs:=ys) (fun i σ A=>∃ v2 v3,σ=[some (.ref a),some (.ref d),v2,v3]/\Same H A/\∀ p∈x.cs.take i,p.2<=ct m p.1) ⟨none,none,rfl,.refl _,fun p z=>by simp at z⟩ (fun i σ A _ z=>by obtain ⟨_,_,_,z,_⟩:=z; exact SqT.of (z _ _ ht)) ?_ ?_
 ·rintro i y σ A hy ⟨v2,v3,rfl,sA,ok⟩
  obtain ⟨p,hp',u,rfl,hu2⟩:=hp.get hy
  have su:SqT K A u [.int p.1,.int p.2]:=SqT.of (sA _ _ hu2)
  have hdA:=cX sA hd
  clean_wf
  refine fJ (fun z=>?_) fun z=>?_
  ·have z:ct m p.1 < p.2:=of_decide_eq_true z
   have e:(x.cs.all fun p=>decide (p.2<=ct m p.1))=false:=by
    rw [Bool.eq_false_iff]
    intro w
    have:=of_decide_eq_true (List.all_eq_true.mp w p (List.mem_of_getElem? hp'))
    omega
   rw [e] at kk
   clean_wf
   exact kk A sA
  ·have z:¬ ct m p.1 < p.2:=fun w=>z (decide_eq_true w)
   refine ⟨_,_,rfl,sA,fun q hq=>?_⟩
   rw [bc hp'] at hq
   rcases List.mem_append.mp hq with w | w
   ·exact ok q w
   ·rw [List.mem_singleton.mp w]
    omega
 rintro σ A ⟨v2,v3,rfl,sA,ok⟩
 rw [lp,List.take_length] at ok
 have e:(x.cs.all fun p=>decide (p.2<=ct m p.1))=true:=List.all_eq_true.mpr fun p hp=>decide_eq_true (ok p hp)
 rw [e] at kk
 clean_wf
 exact kk A sA
def ul (K:PySem.W.Frag):Sp:=fun vs H Q _=>∃ (b d:Addr),vs=[.ref b,.ref d]/\∃ xs ns m,SqL K H b xs/\Nms H xs ns/\Rd H d (.dK (dI m))/\ns.length<=300/\∀ H' (j:Nat),Same H H'->Fo ns m j->Q (.int j) H'
theorem sc__law_at:FnScope ["_law_names","_law_counts","_law_k"] ["_law_names","_law_counts"] (au my):=⟨rfl,rfl,rfl,by decide +kernel,rfl,by decide +kernel,by decide +kernel⟩
theorem Hr {f :Addr} {fd :FuncData} (F:Fun K "_law_at" "_law_at" my f fd) (dU:mg "len"=none) (iz:mg "range"=none):FnOk P w K mg base CX0 1 f fd ["_law_names","_law_counts"] (ul K):=by
 refine F.ok sc__law_at (fun vs H Q E h=>?_) (fun cdv A outer s H vs Q E hr h=>?_)
 ·obtain ⟨b,d,rfl,_⟩:=h
  rfl
 obtain ⟨b,d,rfl,h⟩:=h
 have hu64:=hr.units
 have hu0:=hr.units0
 have hu:=bD hr
 refine ⟨_,(aj (cP PassesOwn.never rfl (jU rfl iz (aa (bw (bY (K:=K) rfl) (by rfl) dU PySem.boot_len (aa (pv 0) ak)) ak)) (aX (i:=2) sc__law_at.nd rfl (Or.inl rfl))
   (aC (dD (bh zj (gZ hu (pv 1) (aW (aY (K:=K) rfl) (aW (bf (K:=K) rfl) (pv 0) (pv 2) (fun _ _=>rfl)) aq (fun _ _=>rfl)) aq ⟨rfl,rfl,rfl,rfl⟩) (aW (aY (K:=K) rfl) (aW (bf (K:=K) rfl) (pv 0) (pv 2) (fun _ _=>rfl)) aq (fun _ _=>rfl)) (bx _)) (aC (aU (pv 2))) bJ)))
   (aC (aU (bw (bY (K:=K) rfl) (by rfl) dU PySem.boot_len (aa (pv 0) ak))))),?_⟩
 obtain ⟨xs,ns,m,hb,hn,hd,ln,kk⟩:=h
 have lx:=hn.len
 clean_wf
 refine ⟨_,rfl,by omega,by omega,?_⟩
 refine mJ (fun i σ B=>∃ v,σ=[some (.ref b),some (.ref d),v]/\Same H B/\∀ k (hk:k < ns.length),k < i->cvd m ns[k]) ⟨none,rfl,.refl _,fun k _ h=>absurd h (Nat.not_lt_zero _)⟩ ?_ ?_
 ·rintro i σ B hi ⟨v,rfl,sB,cv⟩
  have hi':i < ns.length:=by omega
  obtain ⟨x,hx,u,rfl,hu2⟩:=(hn.up (.same sB)).at hi'
  have hbB:=sB.seq hb
  have hdB:=cX sB hd
  have su:SqT K B u [.int ns[i].1,.int ns[i].2.1,.int ns[i].2.2]:=SqT.of hu2
  have hat:atI xs (0 + (i:Int))=some (.ref u):=by
   rw [Int.zero_add]
   exact ig hx
  clean_wf
  refine fJ (fun h2=>?_) fun h2=>?_
  ·have h2:ct m ns[i].2.1 < ns[i].2.2:=of_decide_eq_true h2
   clean_wf
   rw [Int.zero_add]
   exact kk B i sB ⟨by omega,cv,fun _=>by show ¬ ns[i].2.2<=ct m ns[i].2.1; omega⟩
  ·have h2:¬ ct m ns[i].2.1 < ns[i].2.2:=fun z=>h2 (decide_eq_true z)
   exact ⟨_,rfl,sB,fun k hk hl=>by
    rcases Nat.lt_or_ge k i with w | w
    ·exact cv k hk w
    ·obtain rfl:k=i:=by omega
     show ns[k].2.2<=ct m ns[k].2.1
     omega⟩
 rintro σ B ⟨v,rfl,sB,cv⟩
 have hbB:=sB.seq hb
 clean_wf
 rw [lx]
 exact kk B ns.length sB ⟨Nat.le_refl _,fun k hk h=>cv k hk (by omega),fun hj=>absurd hj (Nat.lt_irrefl _)⟩
end
end K53
namespace K53
open PySem L2
abbrev fV:Stmt:=top 53
section
variable {P:Program} {w:World} {K:PySem.W.Frag} {mg:Str->Option Value} {base:Heap}
theorem Vk {ns:List Nm} {m:List (Int×Int)} {j:Nat} (h:Fo ns m j):nxo ns m=ns[j]?:=Hw h.2.1 h.2.2 h.1
theorem Jz {xs:List V} {j:Nat} (h:j<=xs.length):dz xs (some (j:Int)) (some ((j:Int) + 1))=(xs.drop j).take 1:=by
 unfold dz
 have e1:HT.sIx xs.length 0 (some (j:Int))=j:=by
  show (if (j:Int) < 0 then ((j:Int) + (xs.length:Nat)).toNat else min (j:Int).toNat xs.length)=j
  rw [if_neg (by omega),Int.toNat_natCast]
  omega
 have e2:HT.sIx xs.length xs.length (some ((j:Int) + 1))=min (j + 1) xs.length:=by
  show (if (j:Int) + 1 < 0 then ((j:Int) + 1 + (xs.length:Nat)).toNat else min ((j:Int) + 1).toNat xs.length)=_
  rw [if_neg (by omega),show ((j:Int) + 1).toNat=j + 1 by omega]
 rw [e1,e2]
 rcases Nat.lt_or_ge j xs.length with w | w
 ·rw [show min (j + 1) xs.length - j=1 by omega]
 ·rw [List.drop_of_length_le w,List.take_nil,List.take_nil]
theorem zM {H:Hp}:∀ {xs:List V} {ns:List Nm} (k:Nat),Nms H xs ns->Nms H (xs.drop k) (ns.drop k)
 | _,_,0,h=>h
 | _,_,k + 1,.nil=>.nil
 | _,_,k + 1,.cons _ t=>zM k t
theorem Oq {ns:List Nm} {j:Nat} (q:Nm):(PyData.list (((ns.drop j).take 1).map nmD)).eqv (.list [nmD q])=decide (ns[j]?=some q):=by
 have e:(ns.drop j).take 1=(ns[j]?).toList:=by
  rcases Nat.lt_or_ge j ns.length with w | w
  ·rw [List.drop_eq_getElem_cons w,List.getElem?_eq_getElem w]
   rfl
  ·rw [List.drop_of_length_le w,List.getElem?_eq_none w]
   rfl
 rw [e]
 cases ns[j]? with
 | none=>rfl
 | some p =>
  have e2:(PyData.list ([p].map nmD)).eqv (.list [nmD q])=((nmD p).eqv (nmD q) && true):=rfl
  show (PyData.list ([p].map nmD)).eqv (.list [nmD q])=_
  rw [e2,Bool.and_true,Nr]
  by_cases w:p=q
  ·rw [w,decide_eq_true rfl,decide_eq_true rfl]
  ·rw [decide_eq_false (fun z=>w z.symm),decide_eq_false (fun z=>w (Option.some.inj z))]
theorem Lj {ks:List (List Int)} {xs ws:List V} (h:OrdW ks xs ws) (hg:∃ g:Nat->Int,∀ i j,i < xs.length->j < xs.length->ltL (ks.getD i []) (ks.getD j [])=decide (g i < g j)) (hl:0 < xs.length) :
  ∃ i0,i0 < xs.length/\ws[0]?=xs[i0]?/\∀ j,j < xs.length->ltL (ks.getD j []) (ks.getD i0 [])=false:=by
 obtain ⟨p,hp,rfl,od⟩:=h
 have hs:=rY hp
 have p0:=cL hp hl 0
 refine ⟨p.getD 0 0,p0,?_,fun j hj=>?_⟩
 ·rw [List.getElem?_map,Array.getElem?_toList,List.getElem?_eq_getElem p0,Array.getElem?_eq_getElem (by omega)]
  have e:p.getD 0 0=p[0]'(by omega):=by simp [Array.getD,hs,hl]
  show some (xs.getD (p[0]'_) V.non)=_
  rw [List.getD_eq_getElem?_getD,← e,List.getElem?_eq_getElem p0]
  rfl
 ·have jm:j∈p.toList:=hp.mem_iff.mpr (List.mem_range.mpr hj)
  obtain ⟨t,ht⟩:=List.getElem?_of_mem jm
  have tl:=(List.getElem?_eq_some_iff.mp ht).1
  rw [Array.length_toList,hs] at tl
  have e:p.getD t 0=j:=by
   rw [Array.getD_eq_getD_getElem?,← Array.getElem?_toList,ht]
   rfl
  have:=od hg 0 t (Nat.zero_le _) tl
  rw [e] at this
  exact this
abbrev ck2 (x:Cll):List Int:=[x.c,x.k]
theorem J5:∀ cs:List Cll,∃ B:Int,0 < B/\∀ y∈cs,y.k < B
 | []=>⟨1,by decide,fun _ z=>nomatch z⟩
 | x :: cs=>by
  obtain ⟨B,b0,hb⟩:=J5 cs
  refine ⟨max B (x.k + 1),by omega,fun y hy=>?_⟩
  rcases List.mem_cons.mp hy with z | z
  ·rw [z]; omega
  ·have:=hb y z; omega
theorem R5 {a b c d B:Int} (b0:0 < b) (d0:0 < d) (b1:b < B) (d1:d < B):ltL [a,b] [c,d]=decide (a * B + b < c * B + d):=by
 have e:ltL [a,b] [c,d]=if a=c then (if b=d then false else decide (b < d)) else decide (a < c):=rfl
 rw [e]
 by_cases h:a=c
 ·rw [if_pos h,h]
  by_cases h2:b=d
  ·rw [if_pos h2]
   exact (decide_eq_false (by omega)).symm
  ·rw [if_neg h2]
   exact decide_eq_decide.mpr (by omega)
 ·rw [if_neg h]
  refine decide_eq_decide.mpr ?_
  rcases Int.lt_or_gt_of_ne h with z | z
  ·have:=Int.mul_le_mul_of_nonneg_right (show a + 1<=c by omega) (show 0<=B by omega)
   rw [Int.add_mul,Int.one_mul] at this
   exact ⟨fun _=>by omega,fun _=>z⟩
  ·have:=Int.mul_le_mul_of_nonneg_right (show c + 1<=a by omega) (show 0<=B by omega)
   rw [Int.add_mul,Int.one_mul] at this
   exact ⟨fun _=>by omega,fun _=>by omega⟩
def nmk (cs:List Cll) (B:Int) (i:Nat):Int:=match cs[i]? with
 | some y=>y.c * B + y.k
 | none=>0
theorem Rq {cs:List Cll} (h:∀ y∈cs,0 < y.k):∃ g:Nat->Int,∀ i j,i < cs.length->j < cs.length->ltL ((cs.map ck2).getD i []) ((cs.map ck2).getD j [])=decide (g i < g j):=by
 obtain ⟨B,b0,hb⟩:=J5 cs
 have e:∀ i (hi:i < cs.length),nmk cs B i=cs[i].c * B + cs[i].k:=fun i hi=>by unfold nmk; rw [List.getElem?_eq_getElem hi]
 refine ⟨nmk cs B,fun i j hi hj=>?_⟩
 rw [e i hi,e j hj,List.getD_eq_getElem?_getD,List.getD_eq_getElem?_getD,List.getElem?_map,List.getElem?_map,List.getElem?_eq_getElem hi,List.getElem?_eq_getElem hj]
 exact R5 (h _ (List.getElem_mem hi)) (h _ (List.getElem_mem hj)) (hb _ (List.getElem_mem hi)) (hb _ (List.getElem_mem hj))
def mV (K:PySem.W.Frag):Sp:=fun vs H Q _=>∃ (v:V) (D b e:Addr),vs=[v,.ref D,.ref b,.ref e]/\∃ x kvs cs xs ns m j,TldA H v x/\H D=some (.dT kvs)/\Tls H (kvs.map (·.2)) cs/\cs.length<=16/\(∀ y∈cs,Wf y/\0 < y.k)/\Inc cs/\H b=some (.lst xs)/\Nms H xs ns/\ns.length<=300/\H e=some (.dK (dI m))/\Ck m/\Fo ns m j /\
 (nxo ns m=some (x.n,x.c,x.k)∨(nxo ns m≠some (x.n,x.c,x.k)/\x∈cs/\frb m x=true/\∀ y∈cs,frb m y=true->y.kd="one"/\nxo ns m≠some (y.n,y.c,y.k)/\(x.c < y.c∨(x.c=y.c/\x.k<=y.k)))) /\
 ∀ H' q zs ms,Same H H'->(q=b∨H q=none)->H' q=some (.lst zs)->Nms H' zs ms->((nxo ns m=some (x.n,x.c,x.k)/\ms=ns)∨(nxo ns m≠some (x.n,x.c,x.k)/\ms=ns.take j ++ [(x.n,x.c,x.k)]))->Q (.ref q) H'
theorem sc__law_placed:FnScope ["_law_told","_law_rest","_law_names","_law_counts","_law_at_here","_law_free_here","_law_one"] ["_law_told","_law_rest","_law_names","_law_counts"] (au fV):=⟨rfl,rfl,rfl,by decide +kernel,rfl,by decide +kernel,by decide +kernel⟩
theorem yG {f kI kJ Ay:Addr} {fd jD jo yr:FuncData} (F:Fun K "_law_placed" "_law_placed" fV f fd)
  (qN:FnOk P w K mg base CX0 1 kI jD ["_law_call"] (lW K)) (kO:Cal K mg "_law_rank" kI jD ["_law_call"])
  (nA:FnOk P w K mg base CX0 2 kJ jo ["_law_told","_law_counts"] (mj K)) (m6:Cal K mg "_law_free" kJ jo ["_law_told","_law_counts"])
  (Lr:FnOk P w K mg base CX0 2 Ay yr ["_law_names","_law_counts"] (ul K)) (KC:Cal K mg "_law_at" Ay yr ["_law_names","_law_counts"]) (fK:mg "sorted"=none):FnOk P w K mg base CX0 3 f fd ["_law_told","_law_rest","_law_names","_law_counts"] (mV K):=by
 refine F.ok sc__law_placed (fun vs H Q E h=>?_) (fun cdv A outer s H vs Q E hr h=>?_)
 ·obtain ⟨v,D,b,e,rfl,_⟩:=h
  rfl
 obtain ⟨v,D,b,e,rfl,h⟩:=h
 have hu64:=hr.units
 have hu0:=hr.units0
 have hu:=bD hr
 refine ⟨_,(aj (aM (i:=4) sc__law_placed.nd rfl (Or.inl rfl) (bz Lr KC hr (aa (pv 2) (aa (pv 3) ak))))
   (aj (dD (bh (vV (K:=K) rfl hu64) (cR (kE (K:=K) rfl) (pv 2) (cY (pv 4)) (cY (aR cB (pv 4) aq))) (dR (aa (cR (pA (K:=K) rfl) (pv 0) iM (cY aq)) ak)) (bx _)) (aC (aU (pv 2))) bJ)
   (aj (O3 (aM (i:=5) sc__law_placed.nd rfl (Or.inl rfl) (wI (K:=K) rfl (aa (cZ ["_law_counts","_law_one"] [some 3,none] rfl rfl (by kernel_rfl) (Et (pv 1)) (fun _ _ _ _ _ nd=>aX (i:=1) nd rfl (Or.inl rfl)) (fun _ _ _ _ _=>(jn (fH K rfl (bz nA m6 hr (aa (pv 1) (aa (pv 0) ak)))))) (fun _ _ _ _ _=>(pv 1))) ak) (by rfl) fK qN kO.mg kO.bd (by rfl) hr)))
   (aj (cP PassesOwn.never rfl (bB (K:=K) rfl (pv 5)) (aX (i:=6) sc__law_placed.nd rfl (Or.inl rfl))
   (aC (dD (PW.pt (Bo (bh JC (aW (aY (K:=K) rfl) (pv 6) aq (fun _ _=>rfl)) j7 (bx _)) (Cr (bh (vV (K:=K) rfl hu64) (cR (kE (K:=K) rfl) (pv 2) (cY (pv 4)) (cY (aR cB (pv 4) aq))) (dR (aa (cR (pA (K:=K) rfl) (pv 6) iM (cY aq)) ak)) (bx _))))) (aC (aU ph)) bJ)))
   (aj (dD (PW.pt (Bo (bh (vV (K:=K) rfl hu64) (pv 5) (dR ak) (bx _)) (Cr (bh (By (K:=K) rfl hu64) (aW (bf (K:=K) rfl) (pv 5) aq (fun _ _=>rfl)) (pv 0) (bx _))))) (aC (aU ph)) bJ)
   (aC (aU (aR Cp (cR (kE (K:=K) rfl) (pv 2) iM (cY (pv 4))) (dR (aa (cR (pA (K:=K) rfl) (pv 0) iM (cY aq)) ak)))))))))),?_⟩
 obtain ⟨x,kvs,cs,xs,ns,m,j,tx,gD,tl,lcs,wf,ic,gb,nb,ln,ge,cm,fo,alt,kk⟩:=h
 obtain ⟨ta,tt,us,rfl,k1,k2,k3⟩:=id tx
 have hb:SqL K H b xs:=SqL.of gb
 have lx:=nb.len
 have ej:=Vk fo
 have lk:kvs.length=cs.length:=by have:=Paired.length tl; rw [List.length_map] at this; exact this
 clean_wf
 refine ⟨b,e,rfl,xs,ns,m,hb,nb,.inl ge,ln,fun H1 j' s1 fo'=>?_⟩
 obtain rfl:j'=j:=GK fo' fo
 have hb1:=s1.seq hb
 clean_wf
 intro p1 C1 hp1 t1 gp1
 rw [Jz (by have:=fo.1; omega)] at gp1
 have k1':SqT K C1 ta [.int x.n,.int x.c,.int x.k,.str x.kd,.int x.w,.ref tt]:=SqT.of (t1 _ _ (s1 _ _ k1))
 clean_wf
 refine ⟨ta,_,rfl,k1',ue,fun u2 hu2=>?_⟩
 have s4:=aH (o:=.tup (dz [.int x.n,.int x.c,.int x.k,.str x.kd,.int x.w,.ref tt] none (some 3))) hu2
 have g4:(upd C1 u2 (.tup (dz [.int x.n,.int x.c,.int x.k,.str x.kd,.int x.w,.ref tt] none (some 3)))) u2=some (.tup [.int x.n,.int x.c,.int x.k]):=az
 generalize upd C1 u2 (.tup (dz [.int x.n,.int x.c,.int x.k,.str x.kd,.int x.w,.ref tt] none (some 3)))=C2 at s4 g4 ⊢
 clean_wf
 intro p2 C3 hp2 t3 gp2
 have s3:=s1.trans (t1.trans (s4.trans t3))
 have nb3:=nb.up (.same s3)
 have nd:Nms C3 ((xs.drop j').take 1) ((ns.drop j').take 1):=oJ 1 (zM j' nb3)
 have n1:Nms C3 [.ref u2] [(x.n,x.c,x.k)]:=.cons ⟨u2,rfl,t3 _ _ g4⟩ .nil
 refine ⟨.list (((ns.drop j').take 1).map nmD),.list [nmD (x.n,x.c,x.k)],.inr ⟨_,_,_,rfl,rfl,SqL.of (t3 _ _ (s4 _ _ gp1)),nd.dps⟩,.inr ⟨_,_,_,rfl,rfl,SqL.of gp2,n1.dps⟩,by rw [PyData.canLay0.eq_5]; exact xK _,rfl,by have:(PyData.list [nmD (x.n,x.c,x.k)]).depth=2:=rfl; omega,?_⟩
 rw [Oq,← ej]
 by_cases w:nxo ns m=some (x.n,x.c,x.k)
 ·rw [decide_eq_true w]
  clean_wf
  exact kk C3 b xs ns s3 (.inl rfl) (s3 _ _ gb) nb3 (.inl ⟨w,rfl⟩)
 rw [decide_eq_false w]
 obtain ⟨_,xm,xf,all⟩:=alt.resolve_left w
 have gD3:=s3 _ _ gD
 have tl3:=cJ (.same s3) tl
 clean_wf
 refine QX (d:=D) gD3 ?_
 clean_wf
 refine Tq gD3 fun o A3 hA3 sb=>?_
 intro E hE
 have nDe:e≠D:=jM (s3 _ _ ge) gD3 (by intro z; cases z)
 have m3:SmH C3 A3:=fun b ys z=>sb b _ (fun w=>by rw [w,gD3] at z; cases z) z
 have ge3:=sb _ _ nDe (s3 _ _ ge)
 have tl3:=cJ m3 tl3
 have wfF:∀ y∈cs.filter (frb m),Wf y/\0 < y.k:=fun y hy=>wf y (List.mem_filter.mp hy).1
 have lf:=List.length_filter_le (frb m) cs
 refine zJ (fun i σ B'=>∃ v ws,σ=[some (.ref e),v]/\Same A3 B'/\B' E=some (.lst ws)/\Tls B' ws ((cs.take i).filter (frb m))) ⟨none,[],rfl,aH hE,az,.nil⟩ ?_ ?_ ?_
 ·rintro i σ B' _ ⟨_,_,_,z,_⟩
  exact z _ _ hA3
 ·rintro i k v σ B' hkv ⟨v0,ws,rfl,sB,gE,hw⟩
  have hv:(kvs.map (·.2))[i]?=some v:=by rw [List.getElem?_map,hkv]; rfl
  obtain ⟨y,hy,ty⟩:=bu tl3 hv
  have hi:=(List.getElem?_eq_some_iff.mp hy).1
  have lw:=Paired.length hw
  have lf':=List.length_filter_le (frb m) (cs.take i)
  rw [List.length_take] at lf'
  rw [bc hy,List.filter_append]
  clean_wf
  refine ⟨v,e,rfl,y,m,ty.up (.same sB),(wf y (List.mem_of_getElem? hy)).1,.inl (sB _ _ ge3),cm,fun B2 t6=>?_⟩
  cases ef:frb m y with
  | true =>
   clean_wf
   have gE2:=t6 _ _ gE
   have kp:SmH B2 (upd B2 E (.lst (ws ++ [v]))):=SmH.lst gE2
   refine ⟨ws,gE2,aJ (by omega),_,ws ++ [v],rfl,fun b o z=>?_,az,?_⟩
   ·rw [aF (aD z hE)]
    exact t6 _ _ (sB b o z)
   ·rw [List.filter_cons_of_pos ef]
    exact dJ (cJ kp (cJ (.same t6) hw)) ((ty.up (.same (sB.trans t6))).up kp)
  | false =>
   clean_wf
   refine ⟨_,ws,rfl,sB.trans t6,t6 _ _ gE,?_⟩
   rw [List.filter_cons_of_neg (by rw [ef]; exact Bool.false_ne_true),List.filter_nil,List.append_nil]
   exact cJ (.same t6) hw
 rintro σ B' ⟨v0,ws,rfl,sB,gE,hw⟩
 rw [lk,List.take_length] at hw
 have lw:=Paired.length hw
 have xff:x∈cs.filter (frb m):=List.mem_filter.mpr ⟨xm,xf⟩
 refine ⟨E,ws,(cs.filter (frb m)).map ck2,rfl,SqL.of gE,by omega,by rw [List.length_map]; exact lw,fun k hk=>?_,fun i v k H3 Q' hx hk sm3 hq=>?_,fun F zs B2 h0 wp od t6 gF=>?_⟩
 ·obtain ⟨q,_,rfl⟩:=List.mem_map.mp hk
  simp
 ·obtain ⟨y,hy,ty⟩:=bu hw hx
  rw [List.getElem?_map,hy] at hk
  cases hk
  exact ⟨v,rfl,y,ty.up (.same sm3),fun H4 t s4 g4=>hq H4 t s4 (SqT.of g4)⟩
 have gDB:=t6 _ _ (sB _ _ hA3)
 have sb3:SmB D C3 B2:=fun b u n e=>t6 _ _ (sB _ _ (sb b u n e))
 have lw0:0 < ws.length:=by rw [lw]; exact List.length_pos_of_mem xff
 obtain ⟨i0,hi0,ez0,ord⟩:=Lj od (by rw [lw]; exact Rq fun y hy=>(wfF y hy).2) lw0
 obtain ⟨y0,hy0,ty0⟩:=bu hw (List.getElem?_eq_getElem hi0)
 have y0m:=List.mem_of_getElem? hy0
 have ex:y0=x:=by
  obtain ⟨jx,hjx⟩:=List.getElem?_of_mem xff
  have jl:=(List.getElem?_eq_some_iff.mp hjx).1
  have o1:=ord jx (by omega)
  rw [List.getD_eq_getElem?_getD,List.getD_eq_getElem?_getD,List.getElem?_map,List.getElem?_map,hjx,hy0] at o1
  have o1:ltL [x.c,x.k] [y0.c,y0.k]=false:=o1
  have e1:ltL [x.c,x.k] [y0.c,y0.k]=if x.c=y0.c then (if x.k=y0.k then false else decide (x.k < y0.k)) else decide (x.c < y0.c):=rfl
  have o2:=(all y0 (List.mem_filter.mp y0m).1 (List.mem_filter.mp y0m).2).2.2
  have o3:x.c=y0.c/\x.k=y0.k:=by
   rw [e1] at o1
   by_cases c1:x.c=y0.c
   ·rw [if_pos c1] at o1
    by_cases c2:x.k=y0.k
    ·exact ⟨c1,c2⟩
    ·rw [if_neg c2] at o1
     have:=of_decide_eq_false o1
     omega
   ·rw [if_neg c1] at o1
    have:=of_decide_eq_false o1
    omega
  exact (vH ic xm (List.mem_filter.mp y0m).1 o3.1 o3.2).symm
 subst ex
 obtain ⟨ds,tz,ld,subd⟩:=Ft (cJ (.same t6) hw) wp
 refine ⟨⟨o,gDB⟩,?_⟩
 have s5:Same C3 (upd B2 D (.dT kvs)):=Ko sb3 gD3
 have m5:SmH B2 (upd B2 D (.dT kvs)):=fun b ys z=>by rw [aF (jM z gDB (by intro z; cases z))]; exact z
 have gF5:(upd B2 D (.dT kvs)) F=some (.lst zs):=by rw [aF (jM gF gDB (by intro z; cases z))]; exact gF
 have fF5:C3 F=none:=by
  cases z:C3 F with
  | none=>rfl
  | some u =>
   exfalso
   by_cases q:F=D
   ·rw [q,sB _ _ hA3] at h0
    cases h0
   ·rw [sB _ _ (sb F u q z)] at h0
    cases h0
 generalize upd B2 D (.dT kvs)=B5 at s5 m5 gF5 ⊢
 have tz5:=cJ m5 tz
 have ty5:TldA B5 ws[i0] y0:=(ty0.up (.same t6)).up m5
 have s05:=s3.trans s5
 have lz:zs.length=ds.length:=Paired.length tz5
 dsimp only
 clean_wf
 refine fL (xs:=zs) (fun i σ A=>∃ v6,σ=[some (.ref ta),some (.ref D),some (.ref b),some (.ref e),some (.int j'),some (.ref F),v6]/\Same B5 A) ⟨none,rfl,.refl _⟩ (fun i σ A _ z=>by obtain ⟨_,_,z⟩:=z; exact SqL.of (z _ _ gF5)) ?_ ?_
 ·rintro i v σ A hx ⟨v6,rfl,sA⟩
  obtain ⟨y,hy,ty⟩:=bu tz5 hx
  have ym:=List.mem_filter.mp (subd y (List.mem_of_getElem? hy))
  obtain ⟨y1,y2,y3⟩:=all y ym.1 ym.2
  obtain ⟨tb,tu,vs',rfl,q1,q2,q3⟩:=ty.up (.same sA)
  have sy:SqT K A tb [.int y.n,.int y.c,.int y.k,.str y.kd,.int y.w,.ref tu]:=SqT.of q1
  have hbA:=(s05.trans sA).seq hb
  clean_wf
  rw [decide_eq_true y1]
  clean_wf
  intro p4 D1 hp4 t7 gp4
  rw [Jz (by have:=fo.1; omega)] at gp4
  have sy1:=Ey t7 sy
  clean_wf
  refine ⟨tb,_,rfl,sy1,ue,fun u3 hu3=>?_⟩
  have s6:=aH (o:=.tup (dz [.int y.n,.int y.c,.int y.k,.str y.kd,.int y.w,.ref tu] none (some 3))) hu3
  have g6:(upd D1 u3 (.tup (dz [.int y.n,.int y.c,.int y.k,.str y.kd,.int y.w,.ref tu] none (some 3)))) u3=some (.tup [.int y.n,.int y.c,.int y.k]):=az
  generalize upd D1 u3 (.tup (dz [.int y.n,.int y.c,.int y.k,.str y.kd,.int y.w,.ref tu] none (some 3)))=D2 at s6 g6 ⊢
  clean_wf
  intro p5 D3 hp5 t8 gp5
  have t78:=t7.trans (s6.trans t8)
  have nd':Nms D3 ((xs.drop j').take 1) ((ns.drop j').take 1):=oJ 1 (zM j' (nb.up (.same (s05.trans (sA.trans t78)))))
  have n1':Nms D3 [.ref u3] [(y.n,y.c,y.k)]:=.cons ⟨u3,rfl,t8 _ _ g6⟩ .nil
  refine ⟨.list (((ns.drop j').take 1).map nmD),.list [nmD (y.n,y.c,y.k)],.inr ⟨_,_,_,rfl,rfl,SqL.of (t8 _ _ (s6 _ _ gp4)),nd'.dps⟩,.inr ⟨_,_,_,rfl,rfl,SqL.of gp5,n1'.dps⟩,by rw [PyData.canLay0.eq_5]; exact xK _,rfl,by have:(PyData.list [nmD (y.n,y.c,y.k)]).depth=2:=rfl; omega,?_⟩
  rw [Oq,← ej,decide_eq_false y2]
  clean_wf
  exact ⟨_,rfl,sA.trans t78⟩
 rintro σ A ⟨v6,rfl,sA⟩
 have gFA:=sA _ _ gF5
 have tzA:=cJ (.same sA) tz5
 have wfd:∀ y∈ds,Wf y:=fun y hy=>(wfF y (subd y hy)).1
 have lzp:zs.length=ws.length:=wp.length_eq
 clean_wf
 intro n2 A1 hn2 t7 gn2
 refine Cq (SqL.of (t7 _ _ gFA)) (Tls.dps (cJ (.same t7) tzA)) (J0 wfd) (SqL.of gn2) ?_
 rw [decide_eq_false (fun z=>by
  have:=congrArg List.length z
  rw [List.length_map,List.length_nil] at this
  omega)]
 have z0:zs[0]?=some ws[i0]:=by rw [ez0,List.getElem?_eq_getElem hi0]
 have hat:atI zs 0=some ws[i0]:=ig (j:=0) z0
 have sF1:SqL K A1 F zs:=SqL.of (t7 _ _ gFA)
 have sA1:=sA.trans t7
 clean_wf
 refine Af (d:=tlD y0) (.inl (TldA.dp (ty5.up (.same sA1)))) (.inl (TldA.dp (tx.up (.same (s05.trans sA1))))) (HN (wfF y0 y0m).1) (PL y0) ?_
 have s0A1:=s05.trans sA1
 have hbA1:=s0A1.seq hb
 clean_wf
 intro p4 D4 hp4 t8 gp4
 rw [yc _ _ (by have:=fo.1; omega)] at gp4
 clean_wf
 refine ⟨ta,_,rfl,SqT.of (t8 _ _ (s0A1 _ _ k1)),ue,fun u3 hu3=>?_⟩
 have s6:=aH (o:=.tup (dz [.int y0.n,.int y0.c,.int y0.k,.str y0.kd,.int y0.w,.ref tt] none (some 3))) hu3
 have g6:(upd D4 u3 (.tup (dz [.int y0.n,.int y0.c,.int y0.k,.str y0.kd,.int y0.w,.ref tt] none (some 3)))) u3=some (.tup [.int y0.n,.int y0.c,.int y0.k]):=az
 generalize upd D4 u3 (.tup (dz [.int y0.n,.int y0.c,.int y0.k,.str y0.kd,.int y0.w,.ref tt] none (some 3)))=D5 at s6 g6 ⊢
 clean_wf
 intro p6 D6 hp6 t9 gp6
 have gp46:=t9 _ _ (s6 _ _ gp4)
 refine JZ gp46 gp6 (by rw [List.length_take,List.length_singleton]; omega) fun p7 D7 hp7 t10 gp7=>?_
 have t17:=t8.trans (s6.trans (t9.trans t10))
 clean_wf
 refine kk D7 p7 _ _ (s0A1.trans t17) (.inr ((s0A1.trans (t8.trans (s6.trans t9))).free hp7)) gp7 (Nms.snoc (oJ j' (nb.up (.same (s0A1.trans t17)))) ⟨u3,rfl,t10 _ _ (t9 _ _ g6)⟩) (.inr ⟨w,rfl⟩)
end
end K53
namespace K53
open PySem L2
abbrev fU:Stmt:=top 54
section
variable {P:Program} {w:World} {K:PySem.W.Frag} {mg:Str->Option Value} {base:Heap}
theorem Vq {kvs:List (List Key×V)} {cs:List Cll} (ks:kvs.map (·.1)=cs.map dM) (u:Inc cs) {x:Cll} (hx:x∈cs):∃ (i:Nat) (v:V),kvs[i]?=some (dM x,v)/\cs[i]?=some x/\fZ kvs (dM x)=some v:=by
 have hm:dM x∈kvs.map (·.1):=by rw [ks]; exact List.mem_map.mpr ⟨x,hx,rfl⟩
 cases e:kvs.find? (fun kv=>decide (kv.1=dM x)) with
 | none =>
  exfalso
  obtain ⟨p,hp,ep⟩:=List.mem_map.mp hm
  exact absurd (decide_eq_true ep) (by have:=List.find?_eq_none.mp e p hp; exact this)
 | some p =>
  have e2:p.1=dM x:=by have:=List.find?_some e; simpa using this
  obtain ⟨i,hi⟩:=List.getElem?_of_mem (List.mem_of_find?_eq_some e)
  have h1:(cs.map dM)[i]?=some (dM x):=by rw [← ks,List.getElem?_map,hi,← e2]; rfl
  rw [List.getElem?_map] at h1
  obtain ⟨y,hy,ey⟩:=Option.map_eq_some_iff.mp h1
  simp only [dM,List.cons.injEq,Sum.inl.injEq,and_true] at ey
  have exy:=vH u (List.mem_of_getElem? hy) hx ey.2.1 ey.2.2
  refine ⟨i,p.2,by rw [hi,← e2],by rw [hy,exy],?_⟩
  unfold fZ
  rw [e]
  rfl
theorem Vw {cs:List Cll} (u:Inc cs):cs.Nodup:=List.Pairwise.imp (fun {a b} h z=>by rw [z] at h; exact h rfl rfl) u
theorem Kc {cs:List Cll} (u:Inc cs) {i:Nat} {x:Cll} (hi:cs[i]?=some x) (y:Cll):y∈cs.eraseIdx i↔y∈cs/\y≠x:=by
 rw [List.mem_eraseIdx_iff_getElem?]
 have il:=(List.getElem?_eq_some_iff.mp hi).1
 constructor
 ·rintro ⟨j,nj,hj⟩
  refine ⟨List.mem_of_getElem? hj,fun z=>nj ?_⟩
  have jl:=(List.getElem?_eq_some_iff.mp hj).1
  exact (List.getElem?_inj jl (Vw u)).mp (by rw [hj,hi,z])
 ·rintro ⟨h1,h2⟩
  obtain ⟨j,hj⟩:=List.getElem?_of_mem h1
  exact ⟨j,fun z=>h2 (by rw [z,hi] at hj; exact (Option.some.inj hj).symm),hj⟩
theorem GC (x:List Nm):∀ l:List (List Nm),fl1 (l ++ [x])=if (fl1 l).length < x.length then x else fl1 l
 | []=>by
  show (if (fl1 []).length<=x.length then x else fl1 [])=_
  rw [if_pos (show (fl1 []).length<=x.length from Nat.zero_le _)]
  by_cases z:(fl1 []).length < x.length
  ·rw [if_pos z]
  ·rw [if_neg z]
   have:x.length=0:=by have e:(fl1 []).length=0:=rfl; omega
   exact List.length_eq_zero_iff.mp this
 | y :: l=>by
  have ih:=GC x l
  show (if (fl1 (l ++ [x])).length<=y.length then y else fl1 (l ++ [x]))=if (if (fl1 l).length<=y.length then y else fl1 l).length < x.length then x else (if (fl1 l).length<=y.length then y else fl1 l)
  rw [ih]
  by_cases a:(fl1 l).length < x.length
  ·rw [if_pos a]
   by_cases b:(fl1 l).length<=y.length
   ·rw [if_pos b]
    by_cases c:y.length < x.length
    ·rw [if_pos c,if_neg (by omega)]
    ·rw [if_neg c,if_pos (by omega)]
   ·rw [if_neg b,if_pos a,if_neg (by omega)]
  ·rw [if_neg a]
   by_cases b:(fl1 l).length<=y.length
   ·rw [if_pos b,if_neg (by omega)]
   ·rw [if_neg b,if_neg a]
theorem TV {zs:List (V×Cll)} {m me:List (Int×Int)} {row:List (V×Cll)} {gs gs':List Nm} {q:V×Cll} (e:∀ k,ct me k=ct (stt m row) k) (s:Stp zs m row gs q gs') :
  (gs'=gs/\q∈zs/\tkb me q.2 (nxo gs me)=true)∨(Cz zs gs me/\LaR zs me (some q)/\∃ j,Fo gs me j/\gs'=gs.take j ++ [(q.2.n,q.2.c,q.2.k)]):=by
 rcases s with ⟨a1,a2,a3,_⟩ | ⟨a1,a2,j,a3,a4⟩
 ·exact .inl ⟨a1,a2,by rw [tV e,vh e]; exact a3⟩
 ·exact .inr ⟨Tz e a1,Qv e a2,j,Tc e a3,a4⟩
theorem Xx {m:List (Int×Int)} {x:Cll} {o:Option Nm} (h:tkb m x o=true):frb m x=true:=by
 unfold tkb at h
 rw [Bool.and_eq_true] at h
 exact h.1
theorem Uc {m:List (Int×Int)} {x:Cll} (h:jL m x=true):frb m x=true:=by
 unfold jL at h
 rw [Bool.and_eq_true] at h
 exact h.2
theorem Yo {m:List (Int×Int)} {x:Cll} (h:frb m x=true):x.k=ct m x.c + 1:=by
 unfold frb at h
 rw [Bool.and_eq_true] at h
 have:=of_decide_eq_true h.1
 omega
theorem V6 {a b c d:Int} (h:HT.lexLt [c,d] [a,b]=false):a < c∨(a=c/\b<=d):=by
 rw [WN] at h
 have:=of_decide_eq_false h
 omega
theorem W3 (ns:List Nm) (m:List (Int×Int)):∃ j,Fo ns m j:=by
 induction ns with
 | nil=>exact ⟨0,Nat.le_refl _,fun k hk=>absurd hk (Nat.not_lt_zero _),fun hj=>absurd hj (Nat.not_lt_zero _)⟩
 | cons p ns ih =>
  obtain ⟨j,a,b,c⟩:=ih
  by_cases z:cvd m p
  ·refine ⟨j + 1,Nat.succ_le_succ a,fun k hk h=>?_,fun hj=>?_⟩
   ·cases k with
    | zero=>exact z
    | succ k=>exact b k (Nat.lt_of_succ_lt_succ hk) (Nat.lt_of_succ_lt_succ h)
   ·exact c (Nat.lt_of_succ_lt_succ hj)
  ·exact ⟨0,Nat.zero_le _,fun k _ h=>absurd h (Nat.not_lt_zero _),fun _=>z⟩
def mO (K:PySem.W.Frag):Sp:=fun vs H Q _=>∃ (u a:Addr),vs=[.ref u,.ref a]/\∃ ys zs xs rs C0,H u=some (.tup ys)/\Tls H ys zs/\H a=some (.lst xs)/\RpV H xs rs/\Rok rs C0/\PlR rs zs/\∀ H',Same H H'->Q (.bl true) H'
theorem sc__law_walked:FnScope ["_law_row","_law_reports","_law_counts","_law_rest","_law_names","_law_report_here","_law_told"] ["_law_row","_law_reports"] (au fU):=⟨rfl,rfl,rfl,by decide +kernel,rfl,by decide +kernel,by decide +kernel⟩
theorem zp {f qQ kJ sV:Addr} {fd pW jo qR:FuncData} (F:Fun K "_law_walked" "_law_walked" fU f fd)
  (yt:FnOk P w K mg base CX0 3 qQ pW ["_law_reports","_law_counts"] (lM K)) (xV:Cal K mg "_law_offered" qQ pW ["_law_reports","_law_counts"])
  (nA:FnOk P w K mg base CX0 3 kJ jo ["_law_told","_law_counts"] (mj K)) (m6:Cal K mg "_law_free" kJ jo ["_law_told","_law_counts"])
  (z8:FnOk P w K mg base CX0 3 sV qR ["_law_told","_law_rest","_law_names","_law_counts"] (mV K)) (zR:Cal K mg "_law_placed" sV qR ["_law_told","_law_rest","_law_names","_law_counts"]) (fB:mg "isinstance"=none) (dU:mg "len"=none) (jT:mg "list"=none) (gj:mg "tuple"=none):FnOk P w K mg base CX0 4 f fd ["_law_row","_law_reports"] (mO K):=by
 refine F.ok sc__law_walked (fun vs H Q E h=>?_) (fun cdv A outer s H vs Q E hr h=>?_)
 ·obtain ⟨u,a,rfl,_⟩:=h
  rfl
 obtain ⟨u,a,rfl,h⟩:=h
 have hu64:=hr.units
 have hu0:=hr.units0
 have hu:=bD hr
 refine ⟨_,(aj (aM (i:=2) sc__law_walked.nd rfl (Or.inr rfl) mX)
   (aj (aM (i:=3) sc__law_walked.nd rfl (Or.inl rfl) (bz yt xV hr (aa (pv 1) (aa (pv 2) ak))))
   (aj (aM (i:=4) sc__law_walked.nd rfl (Or.inl rfl) (dR ak))
   (aj (cP PassesOwn.never rfl (bB (K:=K) rfl (pv 1)) (aX (i:=5) sc__law_walked.nd rfl (Or.inl rfl))
   (aC (dD (bh uK (bw (bY (K:=K) rfl) (by rfl) dU PySem.boot_len (aa (aW (aY (K:=K) rfl) (pv 5) aq (fun _ _=>rfl)) ak)) (bw (bY (K:=K) rfl) (by rfl) dU PySem.boot_len (aa (pv 4) ak)) (bx _)) (aC (aM (i:=4) sc__law_walked.nd rfl (Or.inl rfl) (bT (pN (K:=K) rfl) (by rfl) jT PyProof.Rows.boot_list (aa (aW (aY (K:=K) rfl) (pv 5) aq (fun _ _=>rfl)) ak)))) bJ)))
   (aj (cP PassesOwn.never rfl (uU (K:=K) rfl (pv 0)) (aX (i:=6) sc__law_walked.nd rfl (Or.inl rfl))
   (aj (dD (PW.pt (Bo (tZ (fH K rfl (bw (oO (K:=K) rfl) (by rfl) fB PyProof.Rows.boot_isinstance (aa (pv 6) (aa (uH gj PyProof.Rows.boot_tuple) ak))))) (Bo (bh (By (K:=K) rfl hu64) (Gn hu (pv 3) (cR (pA (K:=K) rfl) (pv 6) iM (cY aq)) ⟨rfl,rfl,rfl,rfl⟩) (pv 6) (bx _)) (Cr (tZ (fH K rfl (bz nA m6 hr (aa (pv 6) (aa (pv 2) ak))))))))) (aC (aU wL)) bJ)
   (aj (dD (bh sO (aW (aY (K:=K) rfl) (pv 6) aq (fun _ _=>rfl)) j7 (bx _)) (aC (aM (i:=4) sc__law_walked.nd rfl (Or.inl rfl) (bz z8 zR hr (aa (pv 6) (aa (pv 3) (aa (pv 4) (aa (pv 2) ak))))))) bJ)
   (aj (dD (bh V0 (pv 4) ph (bx _)) (aC (aU wL)) bJ)
   (aj (jy (rA PySem.F.plainAttrs_dict PySem.F.slot_dict_pop PySem.F.type_dict_pop (Mp hu) (pv 3) (aa (cR (pA (K:=K) rfl) (pv 6) iM (cY aq)) ak)))
   (aC (lU hu (pv 2) (aW (aY (K:=K) rfl) (pv 6) aq (fun _ _=>rfl)) (aW (aY (K:=K) rfl) (pv 6) aq (fun _ _=>rfl)) rfl)))))))
   (aC (aU (pC (vV (K:=K) rfl hu64) (cZ ["_law_counts","_law_told"] [some 2,none] rfl rfl (by kernel_rfl) (Et (pv 3)) (fun _ _ _ _ _ nd=>aX (i:=1) nd rfl (Or.inl rfl)) (fun _ _ _ _ _=>(jn (fH K rfl (bz nA m6 hr (aa (pv 1) (aa (pv 0) ak)))))) (fun _ _ _ _ _=>(pv 1))) (dR ak) (bx _))))))))),?_⟩
 obtain ⟨ys,tzs,xs,rs,C0,hu0,htz,ha,hx,R,pl,kk⟩:=h
 obtain ⟨m,ws,cs,row,gs,m',cmx,lw,icc,memc,pw,la,rfl⟩:=pl
 have ru:=DK (ws:=ws) icc
 obtain ⟨wk,sct,cz⟩:=S8 ru lw pw
 have rz:=Tf wk
 have rlen:row.length<=cs.length:=by have:=M9 wk; omega
 have lx:xs.length=rs.length:=Paired.length hx
 have lR:=R.lc
 have csC:∀ x∈cs,x∈C0:=fun x hx=>R.sub x ((memc x).mp hx).1
 have lcs:=pH icc csC
 have pl16:(fl1 (rs.map (·.2.2.1))).length<=16:=CN fun x hx=>by
  obtain ⟨r,hr,rfl⟩:=List.mem_map.mp hx
  exact R.pl r hr
 clean_wf
 intro e H1 he s1 g1
 clean_wf
 refine ⟨a,e,rfl,xs,rs,C0,s1 _ _ ha,nO (.same s1) hx,R,g1,fun H2 D m2 kvs cs2 sb hD ge tm cm2 gD ks tl ic sub mem=>?_⟩
 have s02:Same H H2:=fun b o z=>sb b o (aD z he) (s1 b o z)
 have hD0:H D=none:=s1.free hD
 have nDe:D≠e:=fun z=>by rw [z,g1] at hD; cases hD
 have em:∀ k,ct m2 k=ct m k:=fun k=>by rw [cm2,cmx]
 have memz:∀ x,x∈cs2↔x∈cs:=fun x=>by rw [mem,memc,em]
 have inz:∀ x,x∈cs->∃ v,(v,x)∈ws.zip cs:=fun x hx=>by
  obtain ⟨i,hi⟩:=List.getElem?_of_mem hx
  have il:=(List.getElem?_eq_some_iff.mp hi).1
  exact ⟨ws[i],List.mem_of_getElem? (i:=i) (List.getElem?_zip_eq_some.mpr ⟨List.getElem?_eq_getElem (by omega),hi⟩)⟩
 clean_wf
 intro N H3 hN s3 gN
 have hN0:H N=none:=s02.free hN
 have s03:=s02.trans s3
 have ha3:=s03 _ _ ha
 have hx3:=nO (.same s03) hx
 have ge3:=s3 _ _ ge
 have gD3:=s3 _ _ gD
 have tl3:=cJ (.same s3) tl
 clean_wf
 refine fL (xs:=xs) (fun i σ A=>∃ N v5 zn ns,σ=[some (.ref u),some (.ref a),some (.ref e),some (.ref D),some (.ref N),v5,none]/\Same H3 A/\H N=none/\N≠e/\N≠D/\A N=some (.lst zn)/\Nms A zn ns/\ns=fl1 ((rs.take i).map (·.2.2.1))) ⟨N,none,[],[],rfl,.refl _,hN0,(fun z=>by rw [z,ge] at hN; cases hN),(fun z=>by rw [z,gD] at hN; cases hN),gN,.nil,rfl⟩ (fun i σ A _ z=>by obtain ⟨_,_,_,_,_,z,_⟩:=z; exact SqL.of (z _ _ ha3)) ?_ ?_
 ·clear gN hN hN0 N
  rintro i x σ A hxi ⟨N,v5,zn,ns,rfl,sA,hN,nNe,nND,gN,nn,ens⟩
  obtain ⟨r,hr,t,uu,c,w,ps,yw,rfl,e1,e2,e3,e4,e5,e6⟩:=bu hx3 hxi
  have f1:=SqT.of (K:=K) (sA _ _ e1)
  have a1:atI [V.int r.1,.ref uu,.ref c,.ref w,.bl r.2.2.2.1] 3=some (.ref w):=by kernel_rfl
  have f3:=SqT.of (K:=K) (sA _ _ e5)
  have lyw:=e6.len
  have lzn:=nn.len
  have sN:SqL K A N zn:=SqL.of gN
  have tk1:fl1 ((rs.take (i + 1)).map (·.2.2.1))=if ns.length < r.2.2.1.length then r.2.2.1 else ns:=by
   rw [bc hr,List.map_append,ens]
   exact GC _ _
  clean_wf
  refine fJ (fun z=>?_) fun z=>?_
  ·have z:(zn.length:Int) < (yw.length:Int):=by simpa using z
   clean_wf
   intro N2 A2 hN2 t2 gN2
   refine ⟨N2,_,yw,r.2.2.1,rfl,sA.trans t2,(s03.trans sA).free hN2,(fun q=>by rw [q,sA _ _ ge3] at hN2; cases hN2),(fun q=>by rw [q,sA _ _ gD3] at hN2; cases hN2),gN2,e6.up (.same (sA.trans t2)),?_⟩
   rw [tk1,if_pos (by omega)]
  ·have z:¬ (zn.length:Int) < (yw.length:Int):=fun q=>z (by simpa using q)
   refine ⟨N,_,zn,ns,rfl,sA,hN,nNe,nND,gN,nn,?_⟩
   rw [tk1,if_neg (by omega)]
 clear gN hN hN0 N
 rintro σ A ⟨N,v5,zn,ns,rfl,sA,hN,nNe,nND,gN,nn,ens⟩
 rw [lx,List.take_length] at ens
 have s0A:=s03.trans sA
 have huA:=s0A _ _ hu0
 have htzA:=cJ (.same s0A) htz
 have lys:ys.length=row.length:=by have:=Paired.length htz; rw [List.length_map] at this; exact this
 clean_wf
 refine uL (xs:=ys) (fun i σ B=>∃ N v6 kvs cs' zn gs' me,σ=[some (.ref u),some (.ref a),some (.ref e),some (.ref D),some (.ref N),v5,v6]/\Same H B/\H N=none/\N≠e/\N≠D/\B e=some (.dK (dI me))/\Ck me/\(∀ k,ct me k=ct (stt m (row.take i)) k)/\B D=some (.dT kvs)/\kvs.map (·.1)=cs'.map dM/\Tls B (kvs.map (·.2)) cs'/\Inc cs'/\(∀ x,x∈cs'↔x∈cs/\ct me x.c < x.k)/\B N=some (.lst zn)/\Nms B zn gs'/\gs'.length<=16 + i/\Wk (ws.zip cs) m (fl1 (rs.map (·.2.2.1))) (row.take i) gs')
  ⟨N,none,kvs,cs2,zn,ns,m2,rfl,s0A,hN,nNe,nND,sA _ _ ge3,tm.toCk,em,sA _ _ gD3,ks,cJ (.same sA) tl3,ic,(fun x=>by rw [memz,em]; exact ⟨fun z=>⟨z,((memc x).mp z).2⟩,fun z=>z.1⟩),gN,nn,by rw [ens]; omega,by rw [ens]; exact .start⟩ (fun i σ B _ z=>by obtain ⟨_,_,_,_,_,_,_,_,z,_⟩:=z; exact SqT.of (z _ _ hu0)) ?_ ?_
 ·clear gN nn ens nNe nND hN zn ns N sA s0A huA htzA A tl3 gD3 ge3 hx3 ha3 s03 s3 H3 gD ge ks tl ic sub mem memz em kvs
  rintro i v σ B hxv ⟨N,v6,kvs,cs',zn,gs',me,rfl,sB,hN,nNe,nND,gme,cme,ect,gD,ks,tl,ic,mem',gN,nn,lgs,wki⟩
  obtain ⟨x,hy,cx⟩:=bu htz hxv
  have hi:i < row.length:=by
   have:=(List.getElem?_eq_some_iff.mp hy).1
   rw [List.length_map] at this
   exact this
  have ex:row[i].2=x:=by
   rw [List.getElem?_map,List.getElem?_eq_getElem hi] at hy
   exact Option.some.inj hy
  have tk1:row.take (i + 1)=row.take i ++ [row[i]]:=bc (List.getElem?_eq_getElem hi)
  obtain ⟨g1',g2,p1,p2,wk2⟩:=V2 wk i hi
  obtain ⟨_,rfl⟩:=RV ru wki p1 rfl
  have xz:=rz _ (List.getElem_mem hi)
  have xcs:x∈cs:=by rw [← ex]; exact (List.of_mem_zip (show (row[i].1,row[i].2)∈ws.zip cs from xz)).2
  have wx:=R.wf x (csC x xcs)
  have st':=TV ect p2
  have fx:frb me x=true:=by
   rcases st' with ⟨_,_,a3⟩ | ⟨_,⟨_,b2,_⟩,_⟩
   ·rw [ex] at a3; exact Xx a3
   ·rw [ex] at b2; exact Uc b2
  have kx:=Yo fx
  have xc':x∈cs':=(mem' x).mpr ⟨xcs,by omega⟩
  obtain ⟨ix,vx,hk1,hk2,hk3⟩:=Vq ks ic xc'
  have c'C:∀ y∈cs',y∈C0:=fun y hy=>csC y ((mem' y).mp hy).1
  have lc':=pH ic c'C
  have lk:kvs.length=cs'.length:=by have:=congrArg List.length ks; rw [List.length_map,List.length_map] at this; exact this
  have cxB:=cx.up (.same sB)
  obtain ⟨ta,tt,us,rfl,k1,k2,k3⟩:=id cxB
  have array_get_dec:SqT K B ta [.int x.n,.int x.c,.int x.k,.str x.kd,.int x.w,.ref tt]:=SqT.of k1
  clean_wf
  refine ⟨_,_,_,true,rfl,.tup k1,(by kernel_rfl),?_⟩
  clean_wf
  refine JF ?_
  clean_wf
  refine ⟨D,rfl,.inr ⟨_,.inl gD⟩,?_⟩
  clean_wf
  refine ⟨ta,_,rfl,array_get_dec,ue,fun u2 hu2=>?_⟩
  have s4:=aH (o:=.tup (dz [.int x.n,.int x.c,.int x.k,.str x.kd,.int x.w,.ref tt] none (some 3))) hu2
  have g4:(upd B u2 (.tup (dz [.int x.n,.int x.c,.int x.k,.str x.kd,.int x.w,.ref tt] none (some 3)))) u2=some (.tup [.int x.n,.int x.c,.int x.k]):=az
  generalize upd B u2 (.tup (dz [.int x.n,.int x.c,.int x.k,.str x.kd,.int x.w,.ref tt] none (some 3)))=B1 at s4 g4 ⊢
  have gD1:=s4 _ _ gD
  refine ⟨_,DGet.t (k:=dM x) gD1 g4,?_⟩
  rw [hk3]
  have hvx:(kvs.map (·.2))[ix]?=some vx:=by rw [List.getElem?_map,hk1]; rfl
  obtain ⟨x2,hx2,tvx⟩:=bu tl hvx
  have ex2:x2=x:=by rw [hk2] at hx2; exact (Option.some.inj hx2).symm
  subst ex2
  have cxB1:=cxB.up (.same s4)
  clean_wf
  refine Af (d:=tlD x2) (.inl (TldA.dp (tvx.up (.same s4)))) (.inl (TldA.dp cxB1)) (HN wx) (PL x2) ?_
  clean_wf
  refine ⟨.ref ta,e,rfl,x2,me,cxB1,wx,.inl (s4 _ _ gme),cme,fun B2 t5=>?_⟩
  rw [fx]
  clean_wf
  have s45:=s4.trans t5
  have sB2:=sB.trans s45
  have gme2:=s45 _ _ gme
  have gD2:=s45 _ _ gD
  have tl2:=cJ (.same s45) tl
  have gN2:=s45 _ _ gN
  have nn2:=nn.up (.same s45)
  have cxB2:=cxB.up (.same s45)
  have array_mem_dec:SqT K B2 ta [.int x2.n,.int x2.c,.int x2.k,.str x2.kd,.int x2.w,.ref tt]:=SqT.of (s45 _ _ k1)
  have wf':∀ y∈cs',Wf y/\0 < y.k:=fun y hy=>⟨R.wf y (c'C y hy),by have:=((mem' y).mp hy).2; have:=cme.ct y.c; omega⟩
  refine Fy (fun σ' C=>∃ N zn,σ'=[some (.ref u),some (.ref a),some (.ref e),some (.ref D),some (.ref N),v5,some (.ref ta)]/\Same B2 C/\H N=none/\N≠e/\N≠D/\C N=some (.lst zn)/\Nms C zn g2) ?_ fun NX rest=>?_
  rotate_left
  ·clean_wf
   refine fJ (fun z=>?_) fun z=>?_
   ·have z:x2.kd="one":=of_decide_eq_true z
    obtain ⟨j,fo⟩:=W3 gs' me
    clean_wf
    refine ⟨.ref ta,D,N,e,rfl,x2,kvs,cs',zn,gs',me,j,cxB2,gD2,tl2,by omega,wf',ic,gN2,nn2,by omega,gme2,cme,fo,?_,fun C q zs ms sC hq gq nq res=>?_⟩
    ·rcases st' with ⟨_,_,a3⟩ | ⟨a1,⟨b1,b2,b3⟩,_⟩
     ·rw [ex] at a3
      unfold tkb at a3
      rw [decide_eq_true z,Bool.and_eq_true] at a3
      exact .inl (of_decide_eq_true (by simpa using a3.2))
     ·rw [ex] at b2 b3
      refine .inr ⟨fun w=>?_,xc',fx,fun y hy fy=>?_⟩
      ·have:=a1 _ b1
       rw [ex,w] at this
       rw [GR b2] at this
       cases this
      ·obtain ⟨vy,hvy⟩:=inz y ((mem' y).mp hy).1
       have ty:tkb me y (nxo gs' me)=false:=a1 _ hvy
       have ky:y.kd="one":=by
        by_cases q:y.kd="one"
        ·exact q
        ·unfold tkb at ty
         rw [fy,decide_eq_false q] at ty
         cases ty
       refine ⟨ky,fun q=>?_,V6 (b3 (vy,y) hvy (by unfold jL; rw [decide_eq_true ky,fy]; rfl))⟩
       unfold tkb at ty
       rw [fy,q,decide_eq_true rfl,Bool.or_true] at ty
       cases ty
    ·have eg:ms=g2:=by
      rcases st' with ⟨a1,_,a3⟩ | ⟨a1,⟨b1,b2,b3⟩,j2,a3,a4⟩
      ·rw [ex] at a3
       unfold tkb at a3
       rw [decide_eq_true z,Bool.and_eq_true] at a3
       have w:nxo gs' me=some (x2.n,x2.c,x2.k):=of_decide_eq_true (by simpa using a3.2)
       rcases res with ⟨_,r⟩ | ⟨r,_⟩
       ·rw [r,a1]
       ·exact absurd w r
      ·rw [ex] at b2 a4
       rcases res with ⟨r,_⟩ | ⟨_,r⟩
       ·exfalso
        have:=a1 _ b1
        rw [ex,r] at this
        rw [GR b2] at this
        cases this
       ·rw [r,a4,GK a3 fo]
     subst eg
     refine rest _ _ ⟨q,zs,rfl,sC,?_,?_,?_,gq,nq⟩
     ·rcases hq with z | z
      ·rw [z]; exact hN
      ·exact sB2.free z
     ·rcases hq with z | z
      ·rw [z]; exact nNe
      ·exact fun w=>by rw [w,gme2] at z; cases z
     ·rcases hq with z | z
      ·rw [z]; exact nND
      ·exact fun w=>by rw [w,gD2] at z; cases z
   ·have z:¬ x2.kd="one":=fun q=>z (decide_eq_true q)
    have eg:g2=gs':=by
     rcases st' with ⟨a1,_,_⟩ | ⟨_,⟨_,b2,_⟩,_⟩
     ·exact a1
     ·rw [ex] at b2
      exact absurd (vD b2).1 z
    subst eg
    exact rest _ _ ⟨N,zn,rfl,.refl _,hN,nNe,nND,gN2,nn2⟩
  clear gN2 nn2 gN nn nNe nND hN zn N
  rintro σ' C ⟨N,zn,rfl,sC,hN,nNe,nND,gN,nn⟩
  have gDC:=sC _ _ gD2
  have sxC:SqT K C ta [.int x2.n,.int x2.c,.int x2.k,.str x2.kd,.int x2.w,.ref tt]:=SqT.of (sC _ _ (s45 _ _ k1))
  clean_wf
  rw [show decide (V.ref N=V.non)=false from decide_eq_false (by intro z; cases z)]
  clean_wf
  refine ⟨.inr (.inr (.inl ⟨rfl,.inr ⟨kvs,gDC⟩⟩)),?_⟩
  clean_wf
  refine ⟨ta,_,rfl,sxC,ue,fun u3 hu3=>?_⟩
  have s6:=aH (o:=.tup (dz [.int x2.n,.int x2.c,.int x2.k,.str x2.kd,.int x2.w,.ref tt] none (some 3))) hu3
  have g6:(upd C u3 (.tup (dz [.int x2.n,.int x2.c,.int x2.k,.str x2.kd,.int x2.w,.ref tt] none (some 3)))) u3=some (.tup [.int x2.n,.int x2.c,.int x2.k]):=az
  generalize upd C u3 (.tup (dz [.int x2.n,.int x2.c,.int x2.k,.str x2.kd,.int x2.w,.ref tt] none (some 3)))=C1 at s6 g6 ⊢
  have gDC1:=s6 _ _ gDC
  refine ⟨D,u3,kvs,ix,dM x2,vx,rfl,rfl,gDC1,g6,hk1,?_⟩
  have b7:But D C1 (upd C1 D (.dT (kvs.eraseIdx ix))):=fun b hb=>aF hb
  have g7:(upd C1 D (.dT (kvs.eraseIdx ix))) D=some (.dT (kvs.eraseIdx ix)):=az
  generalize upd C1 D (.dT (kvs.eraseIdx ix))=C2 at b7 g7 ⊢
  have sC1:=sC.trans s6
  have m7:SmH C1 C2:=SmH.but b7 gDC1 (by intro _ z; cases z)
  have gme7:=b7.at nDe.symm (sC1 _ _ gme2)
  have sx7:SqT K C2 ta [.int x2.n,.int x2.c,.int x2.k,.str x2.kd,.int x2.w,.ref tt]:=SqT.of (m7 _ _ (sC1 _ _ (s45 _ _ k1)))
  have nd:=cme.nd
  have lm:=cme.len
  clean_wf
  intro C3 b8 g8
  have m8:SmH C2 C3:=SmH.but b8 gme7 (by intro _ z; cases z)
  have mB3:SmH B2 C3:=(SmH.same sC1).trans (m7.trans m8)
  have c0:=cme.ct x2.c
  refine ⟨N,_,kvs.eraseIdx ix,cs'.eraseIdx ix,zn,g2,eY me x2.c x2.k,rfl,b8.same (b7.same (sB2.trans sC1) hD0) he,hN,nNe,nND,g8,cme.put wx.c0 wx.c1 (by omega),fun k=>?_,b8.at nDe g7,?_,?_,List.Pairwise.sublist (List.eraseIdx_sublist _ _) ic,fun y=>?_,b8.at nNe (b7.at nND (s6 _ _ gN)),(nn.up (.same s6)).up (m7.trans m8),?_,wk2⟩
  ·rw [tk1,yO,lG,lG,ex,ect]
  ·rw [GX.mD,GX.mD,ks]
  ·rw [GX.mD]
   exact pG ix (cJ mB3 tl2)
  ·rw [Kc ic hk2,mem',lG]
   constructor
   ·rintro ⟨⟨w1,w2⟩,w3⟩
    refine ⟨w1,?_⟩
    by_cases z:y.c=x2.c
    ·rw [if_pos z]
     rw [z] at w2
     rcases (show x2.k < y.k∨y.k<=x2.k by omega) with q | q
     ·exact q
     ·exact absurd (vH icc w1 xcs z (by omega)) w3
    ·rw [if_neg z]
     exact w2
   ·rintro ⟨w1,w2⟩
    by_cases z:y.c=x2.c
    ·rw [if_pos z] at w2
     exact ⟨⟨w1,by rw [z]; omega⟩,fun q=>by rw [q] at w2; exact absurd w2 (Int.lt_irrefl _)⟩
    ·rw [if_neg z] at w2
     exact ⟨⟨w1,w2⟩,fun q=>z (by rw [q])⟩
  ·rcases st' with ⟨a1,_,_⟩ | ⟨_,_,j2,_,a4⟩
   ·rw [a1]; omega
   ·rw [a4,List.length_append,List.length_take,List.length_singleton]
    omega
 rintro σ B ⟨N,v6,kvs,cs',zn,gs',me,rfl,sB,hN,nNe,nND,gme,cme,ect,gD,ks,tl,ic,mem',gN,nn,lgs,wki⟩
 rw [lys,List.take_length] at ect
 have emm:∀ k,ct me k=ct m' k:=fun k=>by rw [ect,sct]
 have nf:∀ y∈cs',frb me y=false:=fun y hy=>by
  obtain ⟨vy,hvy⟩:=inz y ((mem' y).mp hy).1
  have ty:tkb m' y (nxo gs m')=false:=cz _ hvy
  have ay:jL m' y=false:=(show ∀ q∈ws.zip cs,jL m' q.2=false from la) _ hvy
  rw [← tV emm] at ty
  rw [← uP emm] at ay
  cases q:frb me y with
  | false=>rfl
  | true =>
   exfalso
   by_cases z:y.kd="one"
   ·unfold jL at ay
    rw [decide_eq_true z,q] at ay
    cases ay
   ·unfold tkb at ty
    rw [decide_eq_false z,q] at ty
    cases ty
 have lk:kvs.length=cs'.length:=by have:=congrArg List.length ks; rw [List.length_map,List.length_map] at this; exact this
 clean_wf
 refine Tq gD fun o A3 hA3 sb3=>?_
 intro E hE
 have sm3:Same H A3:=fun b o z=>sb3 b o (aD z hD0) (sB b o z)
 have m3:SmH B A3:=fun b ys z=>sb3 b _ (fun w=>by rw [w,gD] at z; cases z) z
 have gme3:=sb3 _ _ nDe.symm gme
 have tl3:=cJ m3 tl
 refine zJ (fun i σ B'=>∃ v,σ=[some (.ref e),v]/\Same A3 B'/\B' E=some (.lst [])) ⟨none,rfl,aH hE,az⟩ ?_ ?_ ?_
 ·rintro i σ B' _ ⟨_,_,z,_⟩
  exact z _ _ hA3
 ·rintro i k v σ B' hkv ⟨v0,rfl,sB',gE⟩
  have hv:(kvs.map (·.2))[i]?=some v:=by rw [List.getElem?_map,hkv]; rfl
  obtain ⟨y,hy,ty⟩:=bu tl3 hv
  have ym:=List.mem_of_getElem? hy
  clean_wf
  refine ⟨v,e,rfl,y,me,ty.up (.same sB'),R.wf y (csC y ((mem' y).mp ym).1),.inl (sB' _ _ gme3),cme,fun B2 t6=>?_⟩
  rw [nf y ym]
  clean_wf
  exact ⟨_,rfl,sB'.trans t6,t6 _ _ gE⟩
 rintro σ B' ⟨v0,rfl,sB',gE⟩
 clean_wf
 intro n1 B2 hn1 t2 gn2
 refine Cq (SqL.of (t2 _ _ gE)) .nil rfl (SqL.of gn2) ?_
 exact kk B2 (sm3.trans (sB'.trans t2))
end
end K53
namespace K53
open PySem L2
abbrev u5:Stmt:=top 55
section
variable {P:Program} {w:World} {K:PySem.W.Frag} {mg:Str->Option Value} {base:Heap}
def Dv (K:PySem.W.Frag):Sp:=fun vs H Q _=>∃ (a:Addr) (ns:List Int),vs=[.ref a]/\SqL K H a (ns.map V.int)/\ns.length<=63/\∀ H',Q (.bl true) H'
theorem sc_law:FnScope ["_law_script","_law_hands_here","_law_me","_law_reports","_law_found"] ["_law_script"] (au u5):=⟨rfl,rfl,rfl,by decide +kernel,rfl,by decide +kernel,by decide +kernel⟩
theorem VR {f uR yu wC sX:Addr} {fd tD wJ u9 qX:FuncData} (F:Fun K "law" "law" u5 f fd)
  (Dt:FnOk P w K mg base CX0 8 uR tD ["me","hands","reports","wishes"] (nU K mg)) (Dc:Cal K mg "first_plan" uR tD ["me","hands","reports","wishes"])
  (Hz:FnOk P w K mg base CX0 8 yu wJ ["_law_hands_here"] (qZ K)) (HX:Cal K mg "_law_set" yu wJ ["_law_hands_here"])
  (Ex:FnOk P w K mg base CX0 8 wC u9 ["_law_script"] (pI K)) (DR:Cal K mg "_law_case" wC u9 ["_law_script"])
  (zU:FnOk P w K mg base CX0 8 sX qX ["_law_row","_law_reports"] (mO K)) (zX:Cal K mg "_law_walked" sX qX ["_law_row","_law_reports"]) (fB:mg "isinstance"=none) (dU:mg "len"=none) (jT:mg "list"=none) (gj:mg "tuple"=none):FnOk P w K mg base CX0 9 f fd ["_law_script"] (Dv K):=by
 refine F.ok sc_law (fun vs H Q E h=>?_) (fun cdv A outer s H vs Q E hr h=>?_)
 ·obtain ⟨a,ns,rfl,_⟩:=h
  rfl
 obtain ⟨a,ns,rfl,h⟩:=h
 have hu64:=hr.units
 have hu0:=hr.units0
 have hu:=bD hr
 refine ⟨_,(aj (Um (bz Ex DR hr (aa (pv 0) ak)) (xH (K:=K) (n:=3) rfl rfl (jt (aX (i:=1) sc_law.nd rfl (Or.inl rfl)) (jt (aX (i:=2) sc_law.nd rfl (Or.inl rfl)) (jt (aX (i:=3) sc_law.nd rfl (Or.inl rfl)) xJ)))))
   (aj (aM (i:=4) sc_law.nd rfl (Or.inl rfl) (bz Dt Dc hr (aa (pv 2) (aa (bz Hz HX hr (aa (pv 1) ak)) (aa (bT (pN (K:=K) rfl) (by rfl) jT PyProof.Rows.boot_list (aa (pv 3) ak)) (aa aq ak))))))
   (aj (dD (PW.pt (Bo (tZ (fH K rfl (bw (oO (K:=K) rfl) (by rfl) fB PyProof.Rows.boot_isinstance (aa (pv 4) (aa (uH gj PyProof.Rows.boot_tuple) ak))))) (Bo (bh JC (bw (bY (K:=K) rfl) (by rfl) dU PySem.boot_len (aa (pv 4) ak)) aq (bx _)) (Cr (tZ (fH K rfl (bw (oO (K:=K) rfl) (by rfl) fB PyProof.Rows.boot_isinstance (aa (aW (aY (K:=K) rfl) (pv 4) aq (fun _ _=>rfl)) (aa (uH gj PyProof.Rows.boot_tuple) ak))))))))) (aC (aU wL)) bJ)
   (aC (aU (bz zU zX hr (aa (aW (aY (K:=K) rfl) (pv 4) aq (fun _ _=>rfl)) (aa (pv 3) ak)))))))),?_⟩
 obtain ⟨hS,ln,kk⟩:=h
 clean_wf
 refine ⟨a,rfl,ns,hS,fun H1 t lh lr hs me xs rs C0 s1 gt gh ho hne gr hx R hk hme=>?_⟩
 have lx:xs.length=rs.length:=Paired.length hx
 have st:SqT K H1 t [.ref lh,.int me,.ref lr]:=SqT.of gt
 have mr:=hk.rg me hme
 have sh:SqL K H1 lh (hs.map V.int):=SqL.of gh
 clean_wf
 refine ⟨lh,rfl,hs,sh,ho,fun A2 t2=>?_⟩
 have sr2:SqL K A2 lr xs:=SqL.of (t2 _ _ gr)
 clean_wf
 intro l2 A1 hl2 t1 g1
 have t12:=t2.trans t1
 refine ⟨me,_,l2,_,rfl,xs,rs,C0,mr.1,mr.2,SqL.of g1,nO (.same t12) hx,R,fun A3 f u zs cs t3 hf gf gu tz pl sub=>?_⟩
 have t13:=t12.trans t3
 have sf:SqT K A3 f _:=SqT.of gf
 clean_wf
 refine ⟨_,_,_,true,rfl,.tup gf,(by kernel_rfl),?_⟩
 clean_wf
 refine fJ (fun z=>by simp at z) fun _=>?_
 clean_wf
 refine ⟨_,_,_,true,rfl,.tup gu,(by kernel_rfl),?_⟩
 clean_wf
 exact ⟨u,lr,rfl,zs,cs,xs,rs,C0,gu,tz,t13 _ _ gr,nO (.same t13) hx,R,pl,fun H' _=>kk H'⟩
end
end K53
namespace K53
open PySem L2
theorem UG {l:W.OpenLaw} {w:World} {K:W.Frag} {h:Heap} {mg:Str->Option Value} {fa f_0 f_1 f_2 f_3 f_4 f_5 f_6 f_7 f_8 f_9 f_10 f_11 f_12 f_13 f_14 f_15 f_16 f_17 f_18 f_19 f_20 f_21 f_22 f_23 f_24 f_25 f_26 f_27 f_28 f_29 f_30 f_31 f_32 f_33 f_34 f_35 f_36 f_37 f_38 f_39 f_40 f_41 f_42 f_43 f_44 f_45 f_46 f_47 f_48 f_49 f_50 f_51 f_52 fG ao aB aA aK:Addr} (X:K.In h) (G:h.Ns mainGlobals mg) (hfa:mg "law"=some (.ref fa))
  {oc_0 kV_0 dc_0 pm_0 cd_0 ct_0:Value} {od_0 an_0:Option Addr} {sl_0:Array (Option Value)} {oc_1 kV_1 dc_1 pm_1 cd_1 ct_1:Value} {od_1 an_1:Option Addr} {sl_1:Array (Option Value)} {oc_2 kV_2 dc_2 pm_2 cd_2 ct_2:Value} {od_2 an_2:Option Addr} {sl_2:Array (Option Value)} {oc_3 kV_3 dc_3 pm_3 cd_3 ct_3:Value} {od_3 an_3:Option Addr} {sl_3:Array (Option Value)} {oc_4 kV_4 dc_4 pm_4 cd_4 ct_4:Value} {od_4 an_4:Option Addr} {sl_4:Array (Option Value)} {oc_5 kV_5 dc_5 pm_5 cd_5 ct_5:Value} {od_5 an_5:Option Addr} {sl_5:Array (Option Value)} {oc_6 kV_6 dc_6 pm_6 cd_6 ct_6:Value} {od_6 an_6:Option Addr} {sl_6:Array (Option Value)} {oc_7 kV_7 dc_7 pm_7 cd_7 ct_7:Value} {od_7 an_7:Option Addr} {sl_7:Array (Option Value)} {oc_8 kV_8 dc_8 pm_8 cd_8 ct_8:Value} {od_8 an_8:Option Addr} {sl_8:Array (Option Value)} {oc_9 kV_9 dc_9 pm_9 cd_9 ct_9:Value} {od_9 an_9:Option Addr} {sl_9:Array (Option Value)} {oc_10 kV_10 dc_10 pm_10 cd_10 ct_10:Value} {od_10 an_10:Option Addr} {sl_10:Array (Option Value)} {oc_11 kV_11 dc_11 pm_11 cd_11 ct_11:Value} {od_11 an_11:Option Addr} {sl_11:Array (Option Value)} {oc_12 kV_12 dc_12 pm_12 cd_12 ct_12:Value} {od_12 an_12:Option Addr} {sl_12:Array (Option Value)} {oc_13 kV_13 dc_13 pm_13 cd_13 ct_13:Value} {od_13 an_13:Option Addr} {sl_13:Array (Option Value)} {oc_14 kV_14 dc_14 pm_14 cd_14 ct_14:Value} {od_14 an_14:Option Addr} {sl_14:Array (Option Value)} {oc_15 kV_15 dc_15 pm_15 cd_15 ct_15:Value} {od_15 an_15:Option Addr} {sl_15:Array (Option Value)} {oc_16 kV_16 dc_16 pm_16 cd_16 ct_16:Value} {od_16 an_16:Option Addr} {sl_16:Array (Option Value)} {oc_17 kV_17 dc_17 pm_17 cd_17 ct_17:Value} {od_17 an_17:Option Addr} {sl_17:Array (Option Value)} {oc_18 kV_18 dc_18 pm_18 cd_18 ct_18:Value} {od_18 an_18:Option Addr} {sl_18:Array (Option Value)} {oc_19 kV_19 dc_19 pm_19 cd_19 ct_19:Value} {od_19 an_19:Option Addr} {sl_19:Array (Option Value)} {oc_20 kV_20 dc_20 pm_20 cd_20 ct_20:Value} {od_20 an_20:Option Addr} {sl_20:Array (Option Value)} {oc_21 kV_21 dc_21 pm_21 cd_21 ct_21:Value} {od_21 an_21:Option Addr} {sl_21:Array (Option Value)} {oc_22 kV_22 dc_22 pm_22 cd_22 ct_22:Value} {od_22 an_22:Option Addr} {sl_22:Array (Option Value)} {oc_23 kV_23 dc_23 pm_23 cd_23 ct_23:Value} {od_23 an_23:Option Addr} {sl_23:Array (Option Value)} {oc_24 kV_24 dc_24 pm_24 cd_24 ct_24:Value} {od_24 an_24:Option Addr} {sl_24:Array (Option Value)} {oc_25 kV_25 dc_25 pm_25 cd_25 ct_25:Value} {od_25 an_25:Option Addr} {sl_25:Array (Option Value)} {oc_26 kV_26 dc_26 pm_26 cd_26 ct_26:Value} {od_26 an_26:Option Addr} {sl_26:Array (Option Value)} {oc_27 kV_27 dc_27 pm_27 cd_27 ct_27:Value} {od_27 an_27:Option Addr} {sl_27:Array (Option Value)} {oc_28 kV_28 dc_28 pm_28 cd_28 ct_28:Value} {od_28 an_28:Option Addr} {sl_28:Array (Option Value)} {oc_29 kV_29 dc_29 pm_29 cd_29 ct_29:Value} {od_29 an_29:Option Addr} {sl_29:Array (Option Value)} {oc_30 kV_30 dc_30 pm_30 cd_30 ct_30:Value} {od_30 an_30:Option Addr} {sl_30:Array (Option Value)} {oc_31 kV_31 dc_31 pm_31 cd_31 ct_31:Value} {od_31 an_31:Option Addr} {sl_31:Array (Option Value)} {oc_32 kV_32 dc_32 pm_32 cd_32 ct_32:Value} {od_32 an_32:Option Addr} {sl_32:Array (Option Value)} {oc_33 kV_33 dc_33 pm_33 cd_33 ct_33:Value} {od_33 an_33:Option Addr} {sl_33:Array (Option Value)} {oc_34 kV_34 dc_34 pm_34 cd_34 ct_34:Value} {od_34 an_34:Option Addr} {sl_34:Array (Option Value)} {oc_35 kV_35 dc_35 pm_35 cd_35 ct_35:Value} {od_35 an_35:Option Addr} {sl_35:Array (Option Value)} {oc_36 kV_36 dc_36 pm_36 cd_36 ct_36:Value} {od_36 an_36:Option Addr} {sl_36:Array (Option Value)} {oc_37 kV_37 dc_37 pm_37 cd_37 ct_37:Value} {od_37 an_37:Option Addr} {sl_37:Array (Option Value)} {oc_38 kV_38 dc_38 pm_38 cd_38 ct_38:Value} {od_38 an_38:Option Addr} {sl_38:Array (Option Value)} {oc_39 kV_39 dc_39 pm_39 cd_39 ct_39:Value} {od_39 an_39:Option Addr} {sl_39:Array (Option Value)} {oc_40 kV_40 dc_40 pm_40 cd_40 ct_40:Value} {od_40 an_40:Option Addr} {sl_40:Array (Option Value)} {oc_41 kV_41 dc_41 pm_41 cd_41 ct_41:Value} {od_41 an_41:Option Addr} {sl_41:Array (Option Value)} {oc_42 kV_42 dc_42 pm_42 cd_42 ct_42:Value} {od_42 an_42:Option Addr} {sl_42:Array (Option Value)} {oc_43 kV_43 dc_43 pm_43 cd_43 ct_43:Value} {od_43 an_43:Option Addr} {sl_43:Array (Option Value)} {oc_44 kV_44 dc_44 pm_44 cd_44 ct_44:Value} {od_44 an_44:Option Addr} {sl_44:Array (Option Value)} {oc_45 kV_45 dc_45 pm_45 cd_45 ct_45:Value} {od_45 an_45:Option Addr} {sl_45:Array (Option Value)} {oc_46 kV_46 dc_46 pm_46 cd_46 ct_46:Value} {od_46 an_46:Option Addr} {sl_46:Array (Option Value)} {oc_47 kV_47 dc_47 pm_47 cd_47 ct_47:Value} {od_47 an_47:Option Addr} {sl_47:Array (Option Value)} {oc_48 kV_48 dc_48 pm_48 cd_48 ct_48:Value} {od_48 an_48:Option Addr} {sl_48:Array (Option Value)} {oc_49 kV_49 dc_49 pm_49 cd_49 ct_49:Value} {od_49 an_49:Option Addr} {sl_49:Array (Option Value)} {oc_50 kV_50 dc_50 pm_50 cd_50 ct_50:Value} {od_50 an_50:Option Addr} {sl_50:Array (Option Value)} {oc_51 kV_51 dc_51 pm_51 cd_51 ct_51:Value} {od_51 an_51:Option Addr} {sl_51:Array (Option Value)} {oc_52 kV_52 dc_52 pm_52 cd_52 ct_52:Value} {od_52 an_52:Option Addr} {sl_52:Array (Option Value)} {nK:Nat} {t1K t2K t3K:Tok}
  (a_0:W.nsIn K mainGlobals "count_of"=some (some (.ref f_0)))
  (a_1:W.nsIn K mainGlobals "hands_among"=some (some (.ref f_1)))
  (a_2:W.nsIn K mainGlobals "covers"=some (some (.ref f_2)))
  (a_3:W.nsIn K mainGlobals "unpacked"=some (some (.ref f_3)))
  (a_4:W.nsIn K mainGlobals "joined"=some (some (.ref f_4)))
  (a_5:W.nsIn K mainGlobals "covers_name"=some (some (.ref f_5)))
  (a_8:W.nsIn K mainGlobals "is_whole"=some (some (.ref f_8)))
  (a_9:W.nsIn K mainGlobals "is_word"=some (some (.ref f_9)))
  (a_10:W.nsIn K mainGlobals "make_call"=some (some (.ref f_10)))
  (a_14:W.nsIn K mainGlobals "first_open"=some (some (.ref f_14)))
  (a_15:W.nsIn K mainGlobals "name_at"=some (some (.ref f_15)))
  (a_20:W.nsIn K mainGlobals "rank_of"=some (some (.ref f_20)))
  (a_21:W.nsIn K mainGlobals "can_be_taken"=some (some (.ref f_21)))
  (a_22:W.nsIn K mainGlobals "first_to_take"=some (some (.ref f_22)))
  (a_23:W.nsIn K mainGlobals "callers_from"=some (some (.ref f_23)))
  (a_24:W.nsIn K mainGlobals "run"=some (some (.ref f_24)))
  (a_25:W.nsIn K mainGlobals "least_asking"=some (some (.ref f_25)))
  (a_26:W.nsIn K mainGlobals "placed"=some (some (.ref f_26)))
  (a_31:W.nsIn K mainGlobals "bit_of"=some (some (.ref f_31)))
  (a_32:W.nsIn K mainGlobals "set_of"=some (some (.ref f_32)))
  (a_33:W.nsIn K mainGlobals "call_of"=some (some (.ref f_33)))
  (a_34:W.nsIn K mainGlobals "base_of"=some (some (.ref f_34)))
  (a_35:W.nsIn K mainGlobals "places_of"=some (some (.ref f_35)))
  (a_36:W.nsIn K mainGlobals "calls_beyond"=some (some (.ref f_36)))
  (a_37:W.nsIn K mainGlobals "first_plan"=some (some (.ref f_37)))
  (a_38:W.nsIn K mainGlobals "_law_cell_at"=some (some (.ref f_38)))
  (a_39:W.nsIn K mainGlobals "_law_stream"=some (some (.ref f_39)))
  (a_40:W.nsIn K mainGlobals "_law_hands"=some (some (.ref f_40)))
  (a_41:W.nsIn K mainGlobals "_law_set"=some (some (.ref f_41)))
  (a_42:W.nsIn K mainGlobals "_law_rank"=some (some (.ref f_42)))
  (a_43:W.nsIn K mainGlobals "_law_calls"=some (some (.ref f_43)))
  (a_44:W.nsIn K mainGlobals "_law_woven"=some (some (.ref f_44)))
  (a_45:W.nsIn K mainGlobals "_law_report"=some (some (.ref f_45)))
  (a_46:W.nsIn K mainGlobals "_law_case"=some (some (.ref f_46)))
  (a_47:W.nsIn K mainGlobals "_law_offered"=some (some (.ref f_47)))
  (a_48:W.nsIn K mainGlobals "_law_free"=some (some (.ref f_48)))
  (a_49:W.nsIn K mainGlobals "_law_at"=some (some (.ref f_49)))
  (a_50:W.nsIn K mainGlobals "_law_placed"=some (some (.ref f_50)))
  (a_51:W.nsIn K mainGlobals "_law_walked"=some (some (.ref f_51)))
  (a_52:W.nsIn K mainGlobals "law"=some (some (.ref f_52)))
  (Hc:W.nsIn K mainGlobals "Call"=some (some (.ref fG)))
  (rC:W.nsIn K mainGlobals "HeardCall"=some (some (.ref ao)))
  (vp:W.nsIn K mainGlobals "OneCall"=some (some (.ref aB)))
  (vU:W.nsIn K mainGlobals "OwnCall"=some (some (.ref aA)))
  (vC:W.nsIn K mainGlobals "KINDS"=some (some (.ref aK)))
  (NB:W.nsIn K mainGlobals "abs"=some none)
  (M7:W.nsIn K mainGlobals "all"=some none)
  (Hx:W.nsIn K mainGlobals "bool"=some none)
  (HD:W.nsIn K mainGlobals "dict"=some none)
  (Pb:W.nsIn K mainGlobals "int"=some none)
  (pL:W.nsIn K mainGlobals "isinstance"=some none)
  (Oh:W.nsIn K mainGlobals "len"=some none)
  (Ia:W.nsIn K mainGlobals "list"=some none)
  (Qg:W.nsIn K mainGlobals "max"=some none)
  (Nt:W.nsIn K mainGlobals "min"=some none)
  (Dg:W.nsIn K mainGlobals "range"=some none)
  (Pz:W.nsIn K mainGlobals "set"=some none)
  (xX:W.nsIn K mainGlobals "sorted"=some none)
  (Qc:W.nsIn K mainGlobals "sum"=some none)
  (Ca:W.nsIn K mainGlobals "tuple"=some none)
  (at_HeardCall___init__:W.findIn K (.ref ao) "__init__"=some (some (.ref f_6)))
  (at_HeardCall_asks_place:W.findIn K (.ref ao) "asks_place"=some (some (.ref f_18)))
  (at_HeardCall_free:W.findIn K (.ref ao) "free"=some (some (.ref f_13)))
  (at_HeardCall_in_turn:W.findIn K (.ref ao) "in_turn"=some (some (.ref f_11)))
  (at_HeardCall_kind:W.findIn K (.ref ao) "kind"=some (some (.ref f_28)))
  (at_HeardCall_name:W.findIn K (.ref ao) "name"=some (some (.ref f_16)))
  (at_HeardCall_rank:W.findIn K (.ref ao) "rank"=some (some (.ref f_17)))
  (at_HeardCall_told:W.findIn K (.ref ao) "told"=some (some (.ref f_30)))
  (at_OneCall___init__:W.findIn K (.ref aB) "__init__"=some (some (.ref f_6)))
  (at_OneCall_asks_place:W.findIn K (.ref aB) "asks_place"=some (some (.ref f_19)))
  (at_OneCall_free:W.findIn K (.ref aB) "free"=some (some (.ref f_13)))
  (at_OneCall_in_turn:W.findIn K (.ref aB) "in_turn"=some (some (.ref f_11)))
  (at_OneCall_kind:W.findIn K (.ref aB) "kind"=some (some (.ref f_29)))
  (at_OneCall_name:W.findIn K (.ref aB) "name"=some (some (.ref f_16)))
  (at_OneCall_rank:W.findIn K (.ref aB) "rank"=some (some (.ref f_17)))
  (at_OneCall_told:W.findIn K (.ref aB) "told"=some (some (.ref f_30)))
  (at_OwnCall___init__:W.findIn K (.ref aA) "__init__"=some (some (.ref f_7)))
  (at_OwnCall_asks_place:W.findIn K (.ref aA) "asks_place"=some (some (.ref f_18)))
  (at_OwnCall_free:W.findIn K (.ref aA) "free"=some (some (.ref f_12)))
  (at_OwnCall_in_turn:W.findIn K (.ref aA) "in_turn"=some (some (.ref f_11)))
  (at_OwnCall_kind:W.findIn K (.ref aA) "kind"=some (some (.ref f_27)))
  (at_OwnCall_name:W.findIn K (.ref aA) "name"=some (some (.ref f_16)))
  (at_OwnCall_rank:W.findIn K (.ref aA) "rank"=some (some (.ref f_17)))
  (at_OwnCall_told:W.findIn K (.ref aA) "told"=some (some (.ref f_30)))
  (fc_Call___init__:W.findCls K (.ref fG) (.type "type") "__init__"=some (.val (.ref f_6)))
  (l_0:K.lookup f_0=some ⟨oc_0,od_0,.func (W.fnOf "count_of" "count_of" (aO jZ) (aN jZ) (au jZ) .none kV_0 dc_0 pm_0 an_0 cd_0 ct_0),sl_0⟩)
  (c_0:W.codeIn K cd_0 "count_of"=true)
  (k_0:W.keepIn K (.ref f_0)=true)
  (l_1:K.lookup f_1=some ⟨oc_1,od_1,.func (W.fnOf "hands_among" "hands_among" (aO fP) (aN fP) (au fP) .none kV_1 dc_1 pm_1 an_1 cd_1 ct_1),sl_1⟩)
  (c_1:W.codeIn K cd_1 "hands_among"=true)
  (k_1:W.keepIn K (.ref f_1)=true)
  (l_2:K.lookup f_2=some ⟨oc_2,od_2,.func (W.fnOf "covers" "covers" (aO oK) (aN oK) (au oK) .none kV_2 dc_2 pm_2 an_2 cd_2 ct_2),sl_2⟩)
  (c_2:W.codeIn K cd_2 "covers"=true)
  (k_2:W.keepIn K (.ref f_2)=true)
  (l_3:K.lookup f_3=some ⟨oc_3,od_3,.func (W.fnOf "unpacked" "unpacked" (aO jW) (aN jW) (au jW) .none kV_3 dc_3 pm_3 an_3 cd_3 ct_3),sl_3⟩)
  (c_3:W.codeIn K cd_3 "unpacked"=true)
  (k_3:W.keepIn K (.ref f_3)=true)
  (l_4:K.lookup f_4=some ⟨oc_4,od_4,.func (W.fnOf "joined" "joined" (aO oY) (aN oY) (au oY) .none kV_4 dc_4 pm_4 an_4 cd_4 ct_4),sl_4⟩)
  (c_4:W.codeIn K cd_4 "joined"=true)
  (k_4:W.keepIn K (.ref f_4)=true)
  (l_5:K.lookup f_5=some ⟨oc_5,od_5,.func (W.fnOf "covers_name" "covers_name" (aO fQ) (aN fQ) (au fQ) .none kV_5 dc_5 pm_5 an_5 cd_5 ct_5),sl_5⟩)
  (c_5:W.codeIn K cd_5 "covers_name"=true)
  (k_5:W.keepIn K (.ref f_5)=true)
  (l_6:K.lookup f_6=some ⟨oc_6,od_6,.func (W.fnOf "__init__" "Call.__init__" (aO dh) (aN dh) (au dh) .none kV_6 dc_6 pm_6 an_6 cd_6 ct_6),sl_6⟩)
  (c_6:W.codeIn K cd_6 "Call.__init__"=true)
  (k_6:W.keepIn K (.ref f_6)=true)
  (l_7:K.lookup f_7=some ⟨oc_7,od_7,.func (W.fnOf "__init__" "OwnCall.__init__" (aO cD) (aN cD) (au cD) .none kV_7 dc_7 pm_7 an_7 cd_7 ct_7),sl_7⟩)
  (c_7:W.codeIn K cd_7 "OwnCall.__init__"=true)
  (k_7:W.keepIn K (.ref f_7)=true)
  (l_8:K.lookup f_8=some ⟨oc_8,od_8,.func (W.fnOf "is_whole" "is_whole" (aO jX) (aN jX) (au jX) .none kV_8 dc_8 pm_8 an_8 cd_8 ct_8),sl_8⟩)
  (c_8:W.codeIn K cd_8 "is_whole"=true)
  (k_8:W.keepIn K (.ref f_8)=true)
  (l_9:K.lookup f_9=some ⟨oc_9,od_9,.func (W.fnOf "is_word" "is_word" (aO mH) (aN mH) (au mH) .none kV_9 dc_9 pm_9 an_9 cd_9 ct_9),sl_9⟩)
  (c_9:W.codeIn K cd_9 "is_word"=true)
  (k_9:W.keepIn K (.ref f_9)=true)
  (l_10:K.lookup f_10=some ⟨oc_10,od_10,.func (W.fnOf "make_call" "make_call" (aO jf) (aN jf) (au jf) .none kV_10 dc_10 pm_10 an_10 cd_10 ct_10),sl_10⟩)
  (c_10:W.codeIn K cd_10 "make_call"=true)
  (k_10:W.keepIn K (.ref f_10)=true)
  (l_11:K.lookup f_11=some ⟨oc_11,od_11,.func (W.fnOf "in_turn" "Call.in_turn" (aO eG) (aN eG) (au eG) .none kV_11 dc_11 pm_11 an_11 cd_11 ct_11),sl_11⟩)
  (c_11:W.codeIn K cd_11 "Call.in_turn"=true)
  (k_11:W.keepIn K (.ref f_11)=true)
  (l_12:K.lookup f_12=some ⟨oc_12,od_12,.func (W.fnOf "free" "Call.free" (aO jb) (aN jb) (au jb) .none kV_12 dc_12 pm_12 an_12 cd_12 ct_12),sl_12⟩)
  (c_12:W.codeIn K cd_12 "Call.free"=true)
  (k_12:W.keepIn K (.ref f_12)=true)
  (l_13:K.lookup f_13=some ⟨oc_13,od_13,.func (W.fnOf "free" "HeardCall.free" (aO cN) (aN cN) (au cN) .none kV_13 dc_13 pm_13 an_13 cd_13 ct_13),sl_13⟩)
  (c_13:W.codeIn K cd_13 "HeardCall.free"=true)
  (k_13:W.keepIn K (.ref f_13)=true)
  (l_14:K.lookup f_14=some ⟨oc_14,od_14,.func (W.fnOf "first_open" "first_open" (aO iD) (aN iD) (au iD) .none kV_14 dc_14 pm_14 an_14 cd_14 ct_14),sl_14⟩)
  (c_14:W.codeIn K cd_14 "first_open"=true)
  (k_14:W.keepIn K (.ref f_14)=true)
  (l_15:K.lookup f_15=some ⟨oc_15,od_15,.func (W.fnOf "name_at" "name_at" (aO mC) (aN mC) (au mC) .none kV_15 dc_15 pm_15 an_15 cd_15 ct_15),sl_15⟩)
  (c_15:W.codeIn K cd_15 "name_at"=true)
  (k_15:W.keepIn K (.ref f_15)=true)
  (l_16:K.lookup f_16=some ⟨oc_16,od_16,.func (W.fnOf "name" "Call.name" (aO jc) (aN jc) (au jc) .none kV_16 dc_16 pm_16 an_16 cd_16 ct_16),sl_16⟩)
  (c_16:W.codeIn K cd_16 "Call.name"=true)
  (k_16:W.keepIn K (.ref f_16)=true)
  (l_17:K.lookup f_17=some ⟨oc_17,od_17,.func (W.fnOf "rank" "Call.rank" (aO je) (aN je) (au je) .none kV_17 dc_17 pm_17 an_17 cd_17 ct_17),sl_17⟩)
  (c_17:W.codeIn K cd_17 "Call.rank"=true)
  (k_17:W.keepIn K (.ref f_17)=true)
  (l_18:K.lookup f_18=some ⟨oc_18,od_18,.func (W.fnOf "asks_place" "Call.asks_place" (aO cG) (aN cG) (au cG) .none kV_18 dc_18 pm_18 an_18 cd_18 ct_18),sl_18⟩)
  (c_18:W.codeIn K cd_18 "Call.asks_place"=true)
  (k_18:W.keepIn K (.ref f_18)=true)
  (l_19:K.lookup f_19=some ⟨oc_19,od_19,.func (W.fnOf "asks_place" "OneCall.asks_place" (aO bW) (aN bW) (au bW) .none kV_19 dc_19 pm_19 an_19 cd_19 ct_19),sl_19⟩)
  (c_19:W.codeIn K cd_19 "OneCall.asks_place"=true)
  (k_19:W.keepIn K (.ref f_19)=true)
  (l_20:K.lookup f_20=some ⟨oc_20,od_20,.func (W.fnOf "rank_of" "rank_of" (aO mF) (aN mF) (au mF) .none kV_20 dc_20 pm_20 an_20 cd_20 ct_20),sl_20⟩)
  (c_20:W.codeIn K cd_20 "rank_of"=true)
  (k_20:W.keepIn K (.ref f_20)=true)
  (l_21:K.lookup f_21=some ⟨oc_21,od_21,.func (W.fnOf "can_be_taken" "can_be_taken" (aO eE) (aN eE) (au eE) .none kV_21 dc_21 pm_21 an_21 cd_21 ct_21),sl_21⟩)
  (c_21:W.codeIn K cd_21 "can_be_taken"=true)
  (k_21:W.keepIn K (.ref f_21)=true)
  (l_22:K.lookup f_22=some ⟨oc_22,od_22,.func (W.fnOf "first_to_take" "first_to_take" (aO c7) (aN c7) (au c7) .none kV_22 dc_22 pm_22 an_22 cd_22 ct_22),sl_22⟩)
  (c_22:W.codeIn K cd_22 "first_to_take"=true)
  (k_22:W.keepIn K (.ref f_22)=true)
  (l_23:K.lookup f_23=some ⟨oc_23,od_23,.func (W.fnOf "callers_from" "callers_from" (aO dZ) (aN dZ) (au dZ) .none kV_23 dc_23 pm_23 an_23 cd_23 ct_23),sl_23⟩)
  (c_23:W.codeIn K cd_23 "callers_from"=true)
  (k_23:W.keepIn K (.ref f_23)=true)
  (l_24:K.lookup f_24=some ⟨oc_24,od_24,.func (W.fnOf "run" "run" (aO Ac) (aN Ac) (au Ac) .none kV_24 dc_24 pm_24 an_24 cd_24 ct_24),sl_24⟩)
  (c_24:W.codeIn K cd_24 "run"=true)
  (k_24:W.keepIn K (.ref f_24)=true)
  (l_25:K.lookup f_25=some ⟨oc_25,od_25,.func (W.fnOf "least_asking" "least_asking" (aO dX) (aN dX) (au dX) .none kV_25 dc_25 pm_25 an_25 cd_25 ct_25),sl_25⟩)
  (c_25:W.codeIn K cd_25 "least_asking"=true)
  (k_25:W.keepIn K (.ref f_25)=true)
  (l_26:K.lookup f_26=some ⟨oc_26,od_26,.func (W.fnOf "placed" "placed" (aO oH) (aN oH) (au oH) .none kV_26 dc_26 pm_26 an_26 cd_26 ct_26),sl_26⟩)
  (c_26:W.codeIn K cd_26 "placed"=true)
  (k_26:W.keepIn K (.ref f_26)=true)
  (l_27:K.lookup f_27=some ⟨oc_27,od_27,.func (W.fnOf "kind" "OwnCall.kind" (aO eU) (aN eU) (au eU) .none kV_27 dc_27 pm_27 an_27 cd_27 ct_27),sl_27⟩)
  (c_27:W.codeIn K cd_27 "OwnCall.kind"=true)
  (k_27:W.keepIn K (.ref f_27)=true)
  (l_28:K.lookup f_28=some ⟨oc_28,od_28,.func (W.fnOf "kind" "HeardCall.kind" (aO cO) (aN cO) (au cO) .none kV_28 dc_28 pm_28 an_28 cd_28 ct_28),sl_28⟩)
  (c_28:W.codeIn K cd_28 "HeardCall.kind"=true)
  (k_28:W.keepIn K (.ref f_28)=true)
  (l_29:K.lookup f_29=some ⟨oc_29,od_29,.func (W.fnOf "kind" "OneCall.kind" (aO dY) (aN dY) (au dY) .none kV_29 dc_29 pm_29 an_29 cd_29 ct_29),sl_29⟩)
  (c_29:W.codeIn K cd_29 "OneCall.kind"=true)
  (k_29:W.keepIn K (.ref f_29)=true)
  (l_30:K.lookup f_30=some ⟨oc_30,od_30,.func (W.fnOf "told" "Call.told" (aO ji) (aN ji) (au ji) .none kV_30 dc_30 pm_30 an_30 cd_30 ct_30),sl_30⟩)
  (c_30:W.codeIn K cd_30 "Call.told"=true)
  (k_30:W.keepIn K (.ref f_30)=true)
  (l_31:K.lookup f_31=some ⟨oc_31,od_31,.func (W.fnOf "bit_of" "bit_of" (aO oX) (aN oX) (au oX) .none kV_31 dc_31 pm_31 an_31 cd_31 ct_31),sl_31⟩)
  (c_31:W.codeIn K cd_31 "bit_of"=true)
  (k_31:W.keepIn K (.ref f_31)=true)
  (l_32:K.lookup f_32=some ⟨oc_32,od_32,.func (W.fnOf "set_of" "set_of" (aO oW) (aN oW) (au oW) .none kV_32 dc_32 pm_32 an_32 cd_32 ct_32),sl_32⟩)
  (c_32:W.codeIn K cd_32 "set_of"=true)
  (k_32:W.keepIn K (.ref f_32)=true)
  (l_33:K.lookup f_33=some ⟨oc_33,od_33,.func (W.fnOf "call_of" "call_of" (aO mK) (aN mK) (au mK) .none kV_33 dc_33 pm_33 an_33 cd_33 ct_33),sl_33⟩)
  (c_33:W.codeIn K cd_33 "call_of"=true)
  (k_33:W.keepIn K (.ref f_33)=true)
  (l_34:K.lookup f_34=some ⟨oc_34,od_34,.func (W.fnOf "base_of" "base_of" (aO mG) (aN mG) (au mG) .none kV_34 dc_34 pm_34 an_34 cd_34 ct_34),sl_34⟩)
  (c_34:W.codeIn K cd_34 "base_of"=true)
  (k_34:W.keepIn K (.ref f_34)=true)
  (l_35:K.lookup f_35=some ⟨oc_35,od_35,.func (W.fnOf "places_of" "places_of" (aO jd) (aN jd) (au jd) .none kV_35 dc_35 pm_35 an_35 cd_35 ct_35),sl_35⟩)
  (c_35:W.codeIn K cd_35 "places_of"=true)
  (k_35:W.keepIn K (.ref f_35)=true)
  (l_36:K.lookup f_36=some ⟨oc_36,od_36,.func (W.fnOf "calls_beyond" "calls_beyond" (aO d8) (aN d8) (au d8) .none kV_36 dc_36 pm_36 an_36 cd_36 ct_36),sl_36⟩)
  (c_36:W.codeIn K cd_36 "calls_beyond"=true)
  (k_36:W.keepIn K (.ref f_36)=true)
  (l_37:K.lookup f_37=some ⟨oc_37,od_37,.func (W.fnOf "first_plan" "first_plan" (aO iu) (aN iu) (au iu) .none kV_37 dc_37 pm_37 an_37 cd_37 ct_37),sl_37⟩)
  (c_37:W.codeIn K cd_37 "first_plan"=true)
  (k_37:W.keepIn K (.ref f_37)=true)
  (l_38:K.lookup f_38=some ⟨oc_38,od_38,.func (W.fnOf "_law_cell_at" "_law_cell_at" (aO eF) (aN eF) (au eF) .none kV_38 dc_38 pm_38 an_38 cd_38 ct_38),sl_38⟩)
  (c_38:W.codeIn K cd_38 "_law_cell_at"=true)
  (k_38:W.keepIn K (.ref f_38)=true)
  (l_39:K.lookup f_39=some ⟨oc_39,od_39,.func (W.fnOf "_law_stream" "_law_stream" (aO fW) (aN fW) (au fW) .none kV_39 dc_39 pm_39 an_39 cd_39 ct_39),sl_39⟩)
  (c_39:W.codeIn K cd_39 "_law_stream"=true)
  (k_39:W.keepIn K (.ref f_39)=true)
  (l_40:K.lookup f_40=some ⟨oc_40,od_40,.func (W.fnOf "_law_hands" "_law_hands" (aO iy) (aN iy) (au iy) .none kV_40 dc_40 pm_40 an_40 cd_40 ct_40),sl_40⟩)
  (c_40:W.codeIn K cd_40 "_law_hands"=true)
  (k_40:W.keepIn K (.ref f_40)=true)
  (l_41:K.lookup f_41=some ⟨oc_41,od_41,.func (W.fnOf "_law_set" "_law_set" (aO jV) (aN jV) (au jV) .none kV_41 dc_41 pm_41 an_41 cd_41 ct_41),sl_41⟩)
  (c_41:W.codeIn K cd_41 "_law_set"=true)
  (k_41:W.keepIn K (.ref f_41)=true)
  (l_42:K.lookup f_42=some ⟨oc_42,od_42,.func (W.fnOf "_law_rank" "_law_rank" (aO jk) (aN jk) (au jk) .none kV_42 dc_42 pm_42 an_42 cd_42 ct_42),sl_42⟩)
  (c_42:W.codeIn K cd_42 "_law_rank"=true)
  (k_42:W.keepIn K (.ref f_42)=true)
  (l_43:K.lookup f_43=some ⟨oc_43,od_43,.func (W.fnOf "_law_calls" "_law_calls" (aO iw) (aN iw) (au iw) .none kV_43 dc_43 pm_43 an_43 cd_43 ct_43),sl_43⟩)
  (c_43:W.codeIn K cd_43 "_law_calls"=true)
  (k_43:W.keepIn K (.ref f_43)=true)
  (l_44:K.lookup f_44=some ⟨oc_44,od_44,.func (W.fnOf "_law_woven" "_law_woven" (aO ie) (aN ie) (au ie) .none kV_44 dc_44 pm_44 an_44 cd_44 ct_44),sl_44⟩)
  (c_44:W.codeIn K cd_44 "_law_woven"=true)
  (k_44:W.keepIn K (.ref f_44)=true)
  (l_45:K.lookup f_45=some ⟨oc_45,od_45,.func (W.fnOf "_law_report" "_law_report" (aO fX) (aN fX) (au fX) .none kV_45 dc_45 pm_45 an_45 cd_45 ct_45),sl_45⟩)
  (c_45:W.codeIn K cd_45 "_law_report"=true)
  (k_45:W.keepIn K (.ref f_45)=true)
  (l_46:K.lookup f_46=some ⟨oc_46,od_46,.func (W.fnOf "_law_case" "_law_case" (aO jg) (aN jg) (au jg) .none kV_46 dc_46 pm_46 an_46 cd_46 ct_46),sl_46⟩)
  (c_46:W.codeIn K cd_46 "_law_case"=true)
  (k_46:W.keepIn K (.ref f_46)=true)
  (l_47:K.lookup f_47=some ⟨oc_47,od_47,.func (W.fnOf "_law_offered" "_law_offered" (aO eX) (aN eX) (au eX) .none kV_47 dc_47 pm_47 an_47 cd_47 ct_47),sl_47⟩)
  (c_47:W.codeIn K cd_47 "_law_offered"=true)
  (k_47:W.keepIn K (.ref f_47)=true)
  (l_48:K.lookup f_48=some ⟨oc_48,od_48,.func (W.fnOf "_law_free" "_law_free" (aO jh) (aN jh) (au jh) .none kV_48 dc_48 pm_48 an_48 cd_48 ct_48),sl_48⟩)
  (c_48:W.codeIn K cd_48 "_law_free"=true)
  (k_48:W.keepIn K (.ref f_48)=true)
  (l_49:K.lookup f_49=some ⟨oc_49,od_49,.func (W.fnOf "_law_at" "_law_at" (aO my) (aN my) (au my) .none kV_49 dc_49 pm_49 an_49 cd_49 ct_49),sl_49⟩)
  (c_49:W.codeIn K cd_49 "_law_at"=true)
  (k_49:W.keepIn K (.ref f_49)=true)
  (l_50:K.lookup f_50=some ⟨oc_50,od_50,.func (W.fnOf "_law_placed" "_law_placed" (aO fV) (aN fV) (au fV) .none kV_50 dc_50 pm_50 an_50 cd_50 ct_50),sl_50⟩)
  (c_50:W.codeIn K cd_50 "_law_placed"=true)
  (k_50:W.keepIn K (.ref f_50)=true)
  (l_51:K.lookup f_51=some ⟨oc_51,od_51,.func (W.fnOf "_law_walked" "_law_walked" (aO fU) (aN fU) (au fU) .none kV_51 dc_51 pm_51 an_51 cd_51 ct_51),sl_51⟩)
  (c_51:W.codeIn K cd_51 "_law_walked"=true)
  (k_51:W.keepIn K (.ref f_51)=true)
  (l_52:K.lookup f_52=some ⟨oc_52,od_52,.func (W.fnOf "law" "law" (aO u5) (aN u5) (au u5) .none kV_52 dc_52 pm_52 an_52 cd_52 ct_52),sl_52⟩)
  (c_52:W.codeIn K cd_52 "law"=true)
  (k_52:W.keepIn K (.ref f_52)=true)
  (i_6:W.isFn K (.ref f_6)=true)
  (i_18:W.isFn K (.ref f_18)=true)
  (i_12:W.isFn K (.ref f_12)=true)
  (i_11:W.isFn K (.ref f_11)=true)
  (i_16:W.isFn K (.ref f_16)=true)
  (i_17:W.isFn K (.ref f_17)=true)
  (i_30:W.isFn K (.ref f_30)=true)
  (i_13:W.isFn K (.ref f_13)=true)
  (i_28:W.isFn K (.ref f_28)=true)
  (i_19:W.isFn K (.ref f_19)=true)
  (i_29:W.isFn K (.ref f_29)=true)
  (i_7:W.isFn K (.ref f_7)=true)
  (i_27:W.isFn K (.ref f_27)=true)
  (Cm:W.plainGet K fG Str.empty=true)
  (Dh:W.hasDictIn K fG=true)
  (Ce:W.plainOver K fG=true)
  (De:W.findIn K (.ref fG) "__setattr__"=some (some (.builtin "object.__setattr__")))
  (oF:W.findIn K (.ref fG) "number"=some none)
  (nM:W.findIn K (.ref fG) "caller"=some none)
  (pK:W.findIn K (.ref fG) "count"=some none)
  (qP:W.findIn K (.ref fG) "word"=some none)
  (nZ:W.findIn K (.ref fG) "causes"=some none)
  (pJ:W.plainGet K ao Str.empty=true)
  (pF:W.hasDictIn K ao=true)
  (pP:W.plainOver K ao=true)
  (pB:W.findIn K (.ref ao) "__setattr__"=some (some (.builtin "object.__setattr__")))
  (iY:W.findIn K (.ref ao) "number"=some none)
  (iT:W.findIn K (.ref ao) "caller"=some none)
  (jG:W.findIn K (.ref ao) "count"=some none)
  (j6:W.findIn K (.ref ao) "word"=some none)
  (iU:W.findIn K (.ref ao) "causes"=some none)
  (ur:W.plainGet K aB Str.empty=true)
  (tR:W.hasDictIn K aB=true)
  (tH:W.plainOver K aB=true)
  (tL:W.findIn K (.ref aB) "__setattr__"=some (some (.builtin "object.__setattr__")))
  (j4:W.findIn K (.ref aB) "number"=some none)
  (j5:W.findIn K (.ref aB) "caller"=some none)
  (lL:W.findIn K (.ref aB) "count"=some none)
  (mZ:W.findIn K (.ref aB) "word"=some none)
  (jY:W.findIn K (.ref aB) "causes"=some none)
  (ug:W.plainGet K aA Str.empty=true)
  (tM:W.hasDictIn K aA=true)
  (uo:W.plainOver K aA=true)
  (tY:W.findIn K (.ref aA) "__setattr__"=some (some (.builtin "object.__setattr__")))
  (jO:W.findIn K (.ref aA) "number"=some none)
  (j8:W.findIn K (.ref aA) "caller"=some none)
  (lu:W.findIn K (.ref aA) "count"=some none)
  (mY:W.findIn K (.ref aA) "word"=some none)
  (jP:W.findIn K (.ref aA) "causes"=some none)
  (pO:W.makesIn K ao=true)
  (pQ:W.keepIn K (.ref ao)=true)
  (tX:W.makesIn K aB=true)
  (tO:W.keepIn K (.ref aB)=true)
  (tU:W.makesIn K aA=true)
  (um:W.keepIn K (.ref aA)=true)
  (Ci:W.specialIn K (.ref fG) "__getattribute__"=some (some (.builtin "type.__getattribute__")))
  (BR:W.readsIn K fG (.type "type")=true)
  (yZ:K.lookup aK=some ⟨.type "tuple",none,.seq #[.str "own" t1K,.str "heard" t2K,.str "one" t3K] nK,#[]⟩)
 :∃ fd:FuncData,(∀ (s:Shared) (v:Value),BindsTo s fd ⟨[v],[]⟩ [("_law_script",v)])/\∀ base:Heap,K.In base->base.Ns mainGlobals mg->FnOk l.prog w K mg base CX0 9 fa fd ["_law_script"] (Dv K):=by
 have e:=hfa.symm.trans (W.mg_of X G a_52)
 cases e
 have F_0:=bj (st:=jZ) l_0 c_0 k_0
 have CA_0:Cal K mg "count_of" f_0 _ ["counts","hand"]:=⟨W.mg_of X G a_0,k_0,F_0.binds (ps:=["counts","hand"]) fun _ _ _ _ _ _ us hl=>match us,hl with | [_,_],_=>rfl⟩
 have F_1:=bj (st:=fP) l_1 c_1 k_1
 have CA_1:Cal K mg "hands_among" f_1 _ ["some"]:=⟨W.mg_of X G a_1,k_1,F_1.binds (ps:=["some"]) fun _ _ _ _ _ _ us hl=>match us,hl with | [_],_=>rfl⟩
 have F_2:=bj (st:=oK) l_2 c_2 k_2
 have CA_2:Cal K mg "covers" f_2 _ ["one","other"]:=⟨W.mg_of X G a_2,k_2,F_2.binds (ps:=["one","other"]) fun _ _ _ _ _ _ us hl=>match us,hl with | [_,_],_=>rfl⟩
 have F_3:=bj (st:=jW) l_3 c_3 k_3
 have CA_3:Cal K mg "unpacked" f_3 _ ["pairs"]:=⟨W.mg_of X G a_3,k_3,F_3.binds (ps:=["pairs"]) fun _ _ _ _ _ _ us hl=>match us,hl with | [_],_=>rfl⟩
 have F_4:=bj (st:=oY) l_4 c_4 k_4
 have CA_4:Cal K mg "joined" f_4 _ ["one","other"]:=⟨W.mg_of X G a_4,k_4,F_4.binds (ps:=["one","other"]) fun _ _ _ _ _ _ us hl=>match us,hl with | [_,_],_=>rfl⟩
 have F_5:=bj (st:=fQ) l_5 c_5 k_5
 have CA_5:Cal K mg "covers_name" f_5 _ ["counts","name"]:=⟨W.mg_of X G a_5,k_5,F_5.binds (ps:=["counts","name"]) fun _ _ _ _ _ _ us hl=>match us,hl with | [_,_],_=>rfl⟩
 have F_6:=bj (st:=dh) l_6 c_6 k_6
 have B_6:Binds K _ ["self","number","caller","count","word","causes"] []:=F_6.binds (ps:=["self","number","caller","count","word","causes"]) fun _ _ _ _ _ _ us hl=>match us,hl with | [_,_,_,_,_,_],_=>rfl
 have F_7:=bj (st:=cD) l_7 c_7 k_7
 have B_7:Binds K _ ["self","number","caller","count","word","causes"] []:=F_7.binds (ps:=["self","number","caller","count","word","causes"]) fun _ _ _ _ _ _ us hl=>match us,hl with | [_,_,_,_,_,_],_=>rfl
 have F_8:=bj (st:=jX) l_8 c_8 k_8
 have CA_8:Cal K mg "is_whole" f_8 _ ["value"]:=⟨W.mg_of X G a_8,k_8,F_8.binds (ps:=["value"]) fun _ _ _ _ _ _ us hl=>match us,hl with | [_],_=>rfl⟩
 have F_9:=bj (st:=mH) l_9 c_9 k_9
 have CA_9:Cal K mg "is_word" f_9 _ ["word"]:=⟨W.mg_of X G a_9,k_9,F_9.binds (ps:=["word"]) fun _ _ _ _ _ _ us hl=>match us,hl with | [_],_=>rfl⟩
 have F_10:=bj (st:=jf) l_10 c_10 k_10
 have CA_10:Cal K mg "make_call" f_10 _ ["number","caller","count","kind","word","causes"]:=⟨W.mg_of X G a_10,k_10,F_10.binds (ps:=["number","caller","count","kind","word","causes"]) fun _ _ _ _ _ _ us hl=>match us,hl with | [_,_,_,_,_,_],_=>rfl⟩
 have F_11:=bj (st:=eG) l_11 c_11 k_11
 have B_11:Binds K _ ["self","counts"] []:=F_11.binds (ps:=["self","counts"]) fun _ _ _ _ _ _ us hl=>match us,hl with | [_,_],_=>rfl
 have F_12:=bj (st:=jb) l_12 c_12 k_12
 have B_12:Binds K _ ["self","counts"] []:=F_12.binds (ps:=["self","counts"]) fun _ _ _ _ _ _ us hl=>match us,hl with | [_,_],_=>rfl
 have F_13:=bj (st:=cN) l_13 c_13 k_13
 have B_13:Binds K _ ["self","counts"] []:=F_13.binds (ps:=["self","counts"]) fun _ _ _ _ _ _ us hl=>match us,hl with | [_,_],_=>rfl
 have F_14:=bj (st:=iD) l_14 c_14 k_14
 have CA_14:Cal K mg "first_open" f_14 _ ["places","counts","start"]:=⟨W.mg_of X G a_14,k_14,F_14.binds (ps:=["places","counts","start"]) fun _ _ _ _ _ _ us hl=>match us,hl with | [_,_,_],_=>rfl⟩
 have F_15:=bj (st:=mC) l_15 c_15 k_15
 have CA_15:Cal K mg "name_at" f_15 _ ["places","at"]:=⟨W.mg_of X G a_15,k_15,F_15.binds (ps:=["places","at"]) fun _ _ _ _ _ _ us hl=>match us,hl with | [_,_],_=>rfl⟩
 have F_16:=bj (st:=jc) l_16 c_16 k_16
 have B_16:Binds K _ ["self"] []:=F_16.binds (ps:=["self"]) fun _ _ _ _ _ _ us hl=>match us,hl with | [_],_=>rfl
 have F_17:=bj (st:=je) l_17 c_17 k_17
 have B_17:Binds K _ ["self"] []:=F_17.binds (ps:=["self"]) fun _ _ _ _ _ _ us hl=>match us,hl with | [_],_=>rfl
 have F_18:=bj (st:=cG) l_18 c_18 k_18
 have B_18:Binds K _ ["self"] []:=F_18.binds (ps:=["self"]) fun _ _ _ _ _ _ us hl=>match us,hl with | [_],_=>rfl
 have F_19:=bj (st:=bW) l_19 c_19 k_19
 have B_19:Binds K _ ["self"] []:=F_19.binds (ps:=["self"]) fun _ _ _ _ _ _ us hl=>match us,hl with | [_],_=>rfl
 have F_20:=bj (st:=mF) l_20 c_20 k_20
 have CA_20:Cal K mg "rank_of" f_20 _ ["call"]:=⟨W.mg_of X G a_20,k_20,F_20.binds (ps:=["call"]) fun _ _ _ _ _ _ us hl=>match us,hl with | [_],_=>rfl⟩
 have F_21:=bj (st:=eE) l_21 c_21 k_21
 have CA_21:Cal K mg "can_be_taken" f_21 _ ["call","counts","name"]:=⟨W.mg_of X G a_21,k_21,F_21.binds (ps:=["call","counts","name"]) fun _ _ _ _ _ _ us hl=>match us,hl with | [_,_,_],_=>rfl⟩
 have F_22:=bj (st:=c7) l_22 c_22 k_22
 have CA_22:Cal K mg "first_to_take" f_22 _ ["callers","ranked","counts","name"]:=⟨W.mg_of X G a_22,k_22,F_22.binds (ps:=["callers","ranked","counts","name"]) fun _ _ _ _ _ _ us hl=>match us,hl with | [_,_,_,_],_=>rfl⟩
 have F_23:=bj (st:=dZ) l_23 c_23 k_23
 have CA_23:Cal K mg "callers_from" f_23 _ ["callers","last"]:=⟨W.mg_of X G a_23,k_23,F_23.binds (ps:=["callers","last"]) fun _ _ _ _ _ _ us hl=>match us,hl with | [_,_],_=>rfl⟩
 have F_24:=bj (st:=Ac) l_24 c_24 k_24
 have CA_24:Cal K mg "run" f_24 _ ["counts","calls","places"]:=⟨W.mg_of X G a_24,k_24,F_24.binds (ps:=["counts","calls","places"]) fun _ _ _ _ _ _ us hl=>match us,hl with | [_,_,_],_=>rfl⟩
 have F_25:=bj (st:=dX) l_25 c_25 k_25
 have CA_25:Cal K mg "least_asking" f_25 _ ["calls","counts"]:=⟨W.mg_of X G a_25,k_25,F_25.binds (ps:=["calls","counts"]) fun _ _ _ _ _ _ us hl=>match us,hl with | [_,_],_=>rfl⟩
 have F_26:=bj (st:=oH) l_26 c_26 k_26
 have CA_26:Cal K mg "placed" f_26 _ ["counts","calls","places"]:=⟨W.mg_of X G a_26,k_26,F_26.binds (ps:=["counts","calls","places"]) fun _ _ _ _ _ _ us hl=>match us,hl with | [_,_,_],_=>rfl⟩
 have F_27:=bj (st:=eU) l_27 c_27 k_27
 have B_27:Binds K _ ["self"] []:=F_27.binds (ps:=["self"]) fun _ _ _ _ _ _ us hl=>match us,hl with | [_],_=>rfl
 have F_28:=bj (st:=cO) l_28 c_28 k_28
 have B_28:Binds K _ ["self"] []:=F_28.binds (ps:=["self"]) fun _ _ _ _ _ _ us hl=>match us,hl with | [_],_=>rfl
 have F_29:=bj (st:=dY) l_29 c_29 k_29
 have B_29:Binds K _ ["self"] []:=F_29.binds (ps:=["self"]) fun _ _ _ _ _ _ us hl=>match us,hl with | [_],_=>rfl
 have F_30:=bj (st:=ji) l_30 c_30 k_30
 have B_30:Binds K _ ["self"] []:=F_30.binds (ps:=["self"]) fun _ _ _ _ _ _ us hl=>match us,hl with | [_],_=>rfl
 have F_31:=bj (st:=oX) l_31 c_31 k_31
 have CA_31:Cal K mg "bit_of" f_31 _ ["hand"]:=⟨W.mg_of X G a_31,k_31,F_31.binds (ps:=["hand"]) fun _ _ _ _ _ _ us hl=>match us,hl with | [_],_=>rfl⟩
 have F_32:=bj (st:=oW) l_32 c_32 k_32
 have CA_32:Cal K mg "set_of" f_32 _ ["some"]:=⟨W.mg_of X G a_32,k_32,F_32.binds (ps:=["some"]) fun _ _ _ _ _ _ us hl=>match us,hl with | [_],_=>rfl⟩
 have F_33:=bj (st:=mK) l_33 c_33 k_33
 have CA_33:Cal K mg "call_of" f_33 _ ["told"]:=⟨W.mg_of X G a_33,k_33,F_33.binds (ps:=["told"]) fun _ _ _ _ _ _ us hl=>match us,hl with | [_],_=>rfl⟩
 have F_34:=bj (st:=mG) l_34 c_34 k_34
 have CA_34:Cal K mg "base_of" f_34 _ ["reports"]:=⟨W.mg_of X G a_34,k_34,F_34.binds (ps:=["reports"]) fun _ _ _ _ _ _ us hl=>match us,hl with | [_],_=>rfl⟩
 have F_35:=bj (st:=jd) l_35 c_35 k_35
 have CA_35:Cal K mg "places_of" f_35 _ ["reports"]:=⟨W.mg_of X G a_35,k_35,F_35.binds (ps:=["reports"]) fun _ _ _ _ _ _ us hl=>match us,hl with | [_],_=>rfl⟩
 have F_36:=bj (st:=d8) l_36 c_36 k_36
 have CA_36:Cal K mg "calls_beyond" f_36 _ ["base","reports"]:=⟨W.mg_of X G a_36,k_36,F_36.binds (ps:=["base","reports"]) fun _ _ _ _ _ _ us hl=>match us,hl with | [_,_],_=>rfl⟩
 have F_37:=bj (st:=iu) l_37 c_37 k_37
 have CA_37:Cal K mg "first_plan" f_37 _ ["me","hands","reports","wishes"]:=⟨W.mg_of X G a_37,k_37,F_37.binds (ps:=["me","hands","reports","wishes"]) fun _ _ _ _ _ _ us hl=>match us,hl with | [_,_,_,_],_=>rfl⟩
 have F_38:=bj (st:=eF) l_38 c_38 k_38
 have CA_38:Cal K mg "_law_cell_at" f_38 _ ["_law_script","_law_k"]:=⟨W.mg_of X G a_38,k_38,F_38.binds (ps:=["_law_script","_law_k"]) fun _ _ _ _ _ _ us hl=>match us,hl with | [_,_],_=>rfl⟩
 have F_39:=bj (st:=fW) l_39 c_39 k_39
 have CA_39:Cal K mg "_law_stream" f_39 _ ["_law_cell","_law_amount"]:=⟨W.mg_of X G a_39,k_39,F_39.binds (ps:=["_law_cell","_law_amount"]) fun _ _ _ _ _ _ us hl=>match us,hl with | [_,_],_=>rfl⟩
 have F_40:=bj (st:=iy) l_40 c_40 k_40
 have CA_40:Cal K mg "_law_hands" f_40 _ ["_law_cell"]:=⟨W.mg_of X G a_40,k_40,F_40.binds (ps:=["_law_cell"]) fun _ _ _ _ _ _ us hl=>match us,hl with | [_],_=>rfl⟩
 have F_41:=bj (st:=jV) l_41 c_41 k_41
 have CA_41:Cal K mg "_law_set" f_41 _ ["_law_hands_here"]:=⟨W.mg_of X G a_41,k_41,F_41.binds (ps:=["_law_hands_here"]) fun _ _ _ _ _ _ us hl=>match us,hl with | [_],_=>rfl⟩
 have F_42:=bj (st:=jk) l_42 c_42 k_42
 have CA_42:Cal K mg "_law_rank" f_42 _ ["_law_call"]:=⟨W.mg_of X G a_42,k_42,F_42.binds (ps:=["_law_call"]) fun _ _ _ _ _ _ us hl=>match us,hl with | [_],_=>rfl⟩
 have F_43:=bj (st:=iw) l_43 c_43 k_43
 have CA_43:Cal K mg "_law_calls" f_43 _ ["_law_cells","_law_hands_here","_law_number"]:=⟨W.mg_of X G a_43,k_43,F_43.binds (ps:=["_law_cells","_law_hands_here","_law_number"]) fun _ _ _ _ _ _ us hl=>match us,hl with | [_,_,_],_=>rfl⟩
 have F_44:=bj (st:=ie) l_44 c_44 k_44
 have CA_44:Cal K mg "_law_woven" f_44 _ ["_law_places","_law_cell"]:=⟨W.mg_of X G a_44,k_44,F_44.binds (ps:=["_law_places","_law_cell"]) fun _ _ _ _ _ _ us hl=>match us,hl with | [_,_],_=>rfl⟩
 have F_45:=bj (st:=fX) l_45 c_45 k_45
 have CA_45:Cal K mg "_law_report" f_45 _ ["_law_hand","_law_calls_here","_law_places","_law_cell"]:=⟨W.mg_of X G a_45,k_45,F_45.binds (ps:=["_law_hand","_law_calls_here","_law_places","_law_cell"]) fun _ _ _ _ _ _ us hl=>match us,hl with | [_,_,_,_],_=>rfl⟩
 have F_46:=bj (st:=jg) l_46 c_46 k_46
 have CA_46:Cal K mg "_law_case" f_46 _ ["_law_script"]:=⟨W.mg_of X G a_46,k_46,F_46.binds (ps:=["_law_script"]) fun _ _ _ _ _ _ us hl=>match us,hl with | [_],_=>rfl⟩
 have F_47:=bj (st:=eX) l_47 c_47 k_47
 have CA_47:Cal K mg "_law_offered" f_47 _ ["_law_reports","_law_counts"]:=⟨W.mg_of X G a_47,k_47,F_47.binds (ps:=["_law_reports","_law_counts"]) fun _ _ _ _ _ _ us hl=>match us,hl with | [_,_],_=>rfl⟩
 have F_48:=bj (st:=jh) l_48 c_48 k_48
 have CA_48:Cal K mg "_law_free" f_48 _ ["_law_told","_law_counts"]:=⟨W.mg_of X G a_48,k_48,F_48.binds (ps:=["_law_told","_law_counts"]) fun _ _ _ _ _ _ us hl=>match us,hl with | [_,_],_=>rfl⟩
 have F_49:=bj (st:=my) l_49 c_49 k_49
 have CA_49:Cal K mg "_law_at" f_49 _ ["_law_names","_law_counts"]:=⟨W.mg_of X G a_49,k_49,F_49.binds (ps:=["_law_names","_law_counts"]) fun _ _ _ _ _ _ us hl=>match us,hl with | [_,_],_=>rfl⟩
 have F_50:=bj (st:=fV) l_50 c_50 k_50
 have CA_50:Cal K mg "_law_placed" f_50 _ ["_law_told","_law_rest","_law_names","_law_counts"]:=⟨W.mg_of X G a_50,k_50,F_50.binds (ps:=["_law_told","_law_rest","_law_names","_law_counts"]) fun _ _ _ _ _ _ us hl=>match us,hl with | [_,_,_,_],_=>rfl⟩
 have F_51:=bj (st:=fU) l_51 c_51 k_51
 have CA_51:Cal K mg "_law_walked" f_51 _ ["_law_row","_law_reports"]:=⟨W.mg_of X G a_51,k_51,F_51.binds (ps:=["_law_row","_law_reports"]) fun _ _ _ _ _ _ us hl=>match us,hl with | [_,_],_=>rfl⟩
 have F_52:=bj (st:=u5) l_52 c_52 k_52
 have G7:=W.mg_of X G Hc
 have PJ:TCall K fG:=⟨⟨Cm,Dh,Ce,De⟩,oF,nM,pK,qP,nZ⟩
 have aL:=W.mg_of X G rC
 have aG:TCall K ao:=⟨⟨pJ,pF,pP,pB⟩,iY,iT,jG,j6,iU⟩
 have aV:=W.mg_of X G vp
 have aQ:TCall K aB:=⟨⟨ur,tR,tH,tL⟩,j4,j5,lL,mZ,jY⟩
 have aZ:=W.mg_of X G vU
 have aP:TCall K aA:=⟨⟨ug,tM,uo,tY⟩,jO,j8,lu,mY,jP⟩
 have bK:Meth K ao "asks_place" f_18:=⟨at_HeardCall_asks_place,i_18,k_18⟩
 have cH:Meth K ao "free" f_13:=⟨at_HeardCall_free,i_13,k_13⟩
 have gY:Meth K ao "in_turn" f_11:=⟨at_HeardCall_in_turn,i_11,k_11⟩
 have jw:Meth K ao "kind" f_28:=⟨at_HeardCall_kind,i_28,k_28⟩
 have bA:Meth K ao "name" f_16:=⟨at_HeardCall_name,i_16,k_16⟩
 have jC:Meth K ao "rank" f_17:=⟨at_HeardCall_rank,i_17,k_17⟩
 have jz:Meth K ao "told" f_30:=⟨at_HeardCall_told,i_30,k_30⟩
 have bO:Meth K aB "asks_place" f_19:=⟨at_OneCall_asks_place,i_19,k_19⟩
 have dq:Meth K aB "free" f_13:=⟨at_OneCall_free,i_13,k_13⟩
 have iR:Meth K aB "in_turn" f_11:=⟨at_OneCall_in_turn,i_11,k_11⟩
 have kY:Meth K aB "kind" f_29:=⟨at_OneCall_kind,i_29,k_29⟩
 have bH:Meth K aB "name" f_16:=⟨at_OneCall_name,i_16,k_16⟩
 have kZ:Meth K aB "rank" f_17:=⟨at_OneCall_rank,i_17,k_17⟩
 have lJ:Meth K aB "told" f_30:=⟨at_OneCall_told,i_30,k_30⟩
 have bR:Meth K aA "asks_place" f_18:=⟨at_OwnCall_asks_place,i_18,k_18⟩
 have dg:Meth K aA "free" f_12:=⟨at_OwnCall_free,i_12,k_12⟩
 have iZ:Meth K aA "in_turn" f_11:=⟨at_OwnCall_in_turn,i_11,k_11⟩
 have lD:Meth K aA "kind" f_27:=⟨at_OwnCall_kind,i_27,k_27⟩
 have bG:Meth K aA "name" f_16:=⟨at_OwnCall_name,i_16,k_16⟩
 have lA:Meth K aA "rank" f_17:=⟨at_OwnCall_rank,i_17,k_17⟩
 have lE:Meth K aA "told" f_30:=⟨at_OwnCall_told,i_30,k_30⟩
 have M_HeardCall:Mk K ao f_6:=⟨pO,at_HeardCall___init__,i_6,pQ⟩
 have M_OneCall:Mk K aB f_6:=⟨tX,at_OneCall___init__,i_6,tO⟩
 have M_OwnCall:Mk K aA f_7:=⟨tU,at_OwnCall___init__,i_7,um⟩
 have jN:ClsFn K fG "__init__" f_6:=⟨Ci,BR,fc_Call___init__,rfl,k_6⟩
 have gm_KINDS:=W.mg_of X G vC
 have gr_KINDS:RelV (.ref aK) (.ref aK):=rfl
 have gv_KINDS:Ed K (.ref aK):=⟨aK,rfl,fun H=>.inr ⟨_,_,_,yZ,rfl,rfl,(by show 3<=sizeLine; decide),.cons ⟨_,rfl⟩ (.cons ⟨_,rfl⟩ (.cons ⟨_,rfl⟩ .nil))⟩⟩
 have Z_abs:mg "abs"=none:=W.mg_none_of X G NB
 have Z_all:mg "all"=none:=W.mg_none_of X G M7
 have Z_bool:mg "bool"=none:=W.mg_none_of X G Hx
 have Z_dict:mg "dict"=none:=W.mg_none_of X G HD
 have Z_int:mg "int"=none:=W.mg_none_of X G Pb
 have Z_isinstance:mg "isinstance"=none:=W.mg_none_of X G pL
 have Z_len:mg "len"=none:=W.mg_none_of X G Oh
 have Z_list:mg "list"=none:=W.mg_none_of X G Ia
 have Z_max:mg "max"=none:=W.mg_none_of X G Qg
 have Z_min:mg "min"=none:=W.mg_none_of X G Nt
 have Z_range:mg "range"=none:=W.mg_none_of X G Dg
 have Z_set:mg "set"=none:=W.mg_none_of X G Pz
 have Z_sorted:mg "sorted"=none:=W.mg_none_of X G xX
 have Z_sum:mg "sum"=none:=W.mg_none_of X G Qc
 have Z_tuple:mg "tuple"=none:=W.mg_none_of X G Ca
 refine ⟨W.fnOf "law" "law" (aO u5) (aN u5) (au u5) .none kV_52 dc_52 pm_52 an_52 cd_52 ct_52,fun s v=>.of_eq rfl,fun base _ _=>?_⟩
 have G_0:FnOk l.prog w K mg base CX0 1 f_0 _ ["counts","hand"] (gJ K):=Ep F_0
 have G_1:FnOk l.prog w K mg base CX0 1 f_1 _ ["some"] (jE K):=yJ F_1 Z_list Z_set Z_sorted
 have G_2:FnOk l.prog w K mg base CX0 2 f_2 _ ["one","other"] (rQ K):=K1 F_2 (G_0.mono (by decide)) CA_0 (G_1.mono (by decide)) CA_1 Z_all
 have G_3:FnOk l.prog w K mg base CX0 1 f_3 _ ["pairs"] (km K):=Gz F_3 Z_dict
 have G_4:FnOk l.prog w K mg base CX0 2 f_4 _ ["one","other"] (rW K):=K7 F_4 (G_0.mono (by decide)) CA_0 (G_1.mono (by decide)) CA_1 (G_3.mono (by decide)) CA_3 Z_max
 have G_5:FnOk l.prog w K mg base CX0 2 f_5 _ ["counts","name"] (jK K):=zE F_5 (G_0.mono (by decide)) CA_0
 have G_6:FnOk l.prog w K mg base CX0 1 f_6 _ ["self","number","caller","count","word","causes"] (ik K):=vI F_6
 have G_7:FnOk l.prog w K mg base CX0 2 f_7 _ ["self","number","caller","count","word","causes"] (iG K):=sJ F_7 (G_6.mono (by decide)) B_6 PJ G7 jN
 have G_8:FnOk l.prog w K mg base CX0 1 f_8 _ ["value"] (rD K):=Fp F_8 Z_bool Z_int Z_isinstance
 have G_9:FnOk l.prog w K mg base CX0 2 f_9 _ ["word"] (tE K):=Hq F_9 (G_8.mono (by decide)) CA_8 Z_abs
 have G_10:FnOk l.prog w K mg base CX0 4 f_10 _ ["number","caller","count","kind","word","causes"] (o8 K mg):=Cw F_10 (G_6.mono (by decide)) B_6 (G_7.mono (by decide)) B_7 (G_9.mono (by decide)) CA_9 aG aQ aP aL aV aZ M_HeardCall M_OneCall M_OwnCall gm_KINDS gr_KINDS gv_KINDS
 have G_11:FnOk l.prog w K mg base CX0 2 f_11 _ ["self","counts"] (fM K):=wW F_11 (G_0.mono (by decide)) CA_0
 have G_12:FnOk l.prog w K mg base CX0 3 f_12 _ ["self","counts"] (lZ K mg):=BX F_12 (G_11.mono (by decide)) B_11 aP aZ iZ
 have G_13:FnOk l.prog w K mg base CX0 3 f_13 _ ["self","counts"] (f9 K mg):=vg F_13 (G_2.mono (by decide)) CA_2 (G_3.mono (by decide)) CA_3 (G_11.mono (by decide)) B_11 aG aQ aL aV gY iR
 have G_14:FnOk l.prog w K mg base CX0 3 f_14 _ ["places","counts","start"] (kj K):=zY F_14 (G_5.mono (by decide)) CA_5 Z_len
 have G_15:FnOk l.prog w K mg base CX0 1 f_15 _ ["places","at"] (pM K):=Ir F_15 Z_len
 have G_16:FnOk l.prog w K mg base CX0 1 f_16 _ ["self"] (jq K):=Cy F_16
 have G_17:FnOk l.prog w K mg base CX0 1 f_17 _ ["self"] (o5 K):=CT F_17
 have G_18:FnOk l.prog w K mg base CX0 1 f_18 _ ["self"] (fj K):=tK F_18
 have G_19:FnOk l.prog w K mg base CX0 1 f_19 _ ["self"] (cW K):=qj F_19
 have G_20:FnOk l.prog w K mg base CX0 2 f_20 _ ["call"] (pq K mg):=HR F_20 (G_17.mono (by decide)) B_17 aG aQ aP aL aV aZ jC kZ lA
 have G_21:FnOk l.prog w K mg base CX0 4 f_21 _ ["call","counts","name"] (lH K mg):=w5 F_21 (G_12.mono (by decide)) B_12 (G_13.mono (by decide)) B_13 (G_16.mono (by decide)) B_16 (G_18.mono (by decide)) B_18 (G_19.mono (by decide)) B_19 aG aQ aP aL aV aZ bK cH bA bO dq bH bR dg bG
 have G_22:FnOk l.prog w K mg base CX0 5 f_22 _ ["callers","ranked","counts","name"] (jR K mg):=vR F_22 (G_0.mono (by decide)) CA_0 (G_21.mono (by decide)) CA_21 aG aQ aP aL aV aZ
 have G_23:FnOk l.prog w K mg base CX0 1 f_23 _ ["callers","last"] (lg K):=wU F_23
 have G_24:FnOk l.prog w K mg base CX0 6 f_24 _ ["counts","calls","places"] (G3 K mg):=VP F_24 (G_4.mono (by decide)) CA_4 (G_14.mono (by decide)) CA_14 (G_15.mono (by decide)) CA_15 (G_20.mono (by decide)) CA_20 (G_22.mono (by decide)) CA_22 (G_23.mono (by decide)) CA_23 Z_dict Z_set Z_sorted aG aQ aP aL aV aZ
 have G_25:FnOk l.prog w K mg base CX0 4 f_25 _ ["calls","counts"] (lO K mg):=xu F_25 (G_12.mono (by decide)) B_12 (G_13.mono (by decide)) B_13 (G_18.mono (by decide)) B_18 (G_19.mono (by decide)) B_19 (G_20.mono (by decide)) CA_20 Z_min aG aQ aP aL aV aZ bK cH bO dq bR dg
 have G_26:FnOk l.prog w K mg base CX0 7 f_26 _ ["counts","calls","places"] (vK K mg):=J9 F_26 (G_14.mono (by decide)) CA_14 (G_16.mono (by decide)) B_16 (G_24.mono (by decide)) CA_24 (G_25.mono (by decide)) CA_25 Z_list aG aQ aP aL aV aZ bA bH bG
 have G_27:FnOk l.prog w K mg base CX0 1 f_27 _ ["self"] (lN K):=xx F_27
 have G_28:FnOk l.prog w K mg base CX0 1 f_28 _ ["self"] (ju K):=u0 F_28
 have G_29:FnOk l.prog w K mg base CX0 1 f_29 _ ["self"] (lF K):=xF F_29
 have G_30:FnOk l.prog w K mg base CX0 2 f_30 _ ["self"] (o9 K mg):=Du F_30 (G_27.mono (by decide)) B_27 (G_28.mono (by decide)) B_28 (G_29.mono (by decide)) B_29 aG aQ aP aL aV aZ jw kY lD
 have G_31:FnOk l.prog w K mg base CX0 1 f_31 _ ["hand"] (rZ K):=KH F_31
 have G_32:FnOk l.prog w K mg base CX0 2 f_32 _ ["some"] (vm K):=Kw F_32 (G_31.mono (by decide)) CA_31
 have G_33:FnOk l.prog w K mg base CX0 5 f_33 _ ["told"] (uh K mg):=Ib F_33 (G_10.mono (by decide)) CA_10 aG aQ aP aL aV aZ
 have G_34:FnOk l.prog w K mg base CX0 3 f_34 _ ["reports"] (ud K):=Ie F_34 (G_3.mono (by decide)) CA_3 (G_4.mono (by decide)) CA_4
 have G_35:FnOk l.prog w K mg base CX0 1 f_35 _ ["reports"] (o6 K):=CV F_35 Z_len Z_max Z_tuple
 have G_36:FnOk l.prog w K mg base CX0 6 f_36 _ ["base","reports"] (lB K mg):=wX F_36 (G_5.mono (by decide)) CA_5 (G_16.mono (by decide)) B_16 (G_33.mono (by decide)) CA_33 Z_list aG aQ aP aL aV aZ bA bH bG
 have G_37:FnOk l.prog w K mg base CX0 8 f_37 _ ["me","hands","reports","wishes"] (nU K mg):=zQ F_37 (G_26.mono (by decide)) CA_26 (G_30.mono (by decide)) B_30 (G_31.mono (by decide)) CA_31 (G_32.mono (by decide)) CA_32 (G_34.mono (by decide)) CA_34 (G_35.mono (by decide)) CA_35 (G_36.mono (by decide)) CA_36 Z_tuple aG aQ aP aL aV aZ jz lJ lE
 have G_38:FnOk l.prog w K mg base CX0 1 f_38 _ ["_law_script","_law_k"] (lK K):=wQ F_38 Z_len
 have G_39:FnOk l.prog w K mg base CX0 1 f_39 _ ["_law_cell","_law_amount"] (dW K):=zy F_39 Z_range
 have G_40:FnOk l.prog w K mg base CX0 2 f_40 _ ["_law_cell"] (nR K):=z9 F_40 (G_39.mono (by decide)) CA_39 Z_list Z_range Z_sorted
 have G_41:FnOk l.prog w K mg base CX0 1 f_41 _ ["_law_hands_here"] (qZ K):=Gg F_41 Z_sum
 have G_42:FnOk l.prog w K mg base CX0 1 f_42 _ ["_law_call"] (lW K):=BJ F_42
 have G_43:FnOk l.prog w K mg base CX0 2 f_43 _ ["_law_cells","_law_hands_here","_law_number"] (oA K):=Aa F_43 (G_39.mono (by decide)) CA_39 Z_len Z_range Z_sorted Z_tuple
 have G_44:FnOk l.prog w K mg base CX0 1 f_44 _ ["_law_places","_law_cell"] (nQ K):=Ab F_44 Z_len Z_list
 have G_45:FnOk l.prog w K mg base CX0 3 f_45 _ ["_law_hand","_law_calls_here","_law_places","_law_cell"] (mW K):=yo F_45 (G_39.mono (by decide)) CA_39 (G_42.mono (by decide)) CA_42 (G_44.mono (by decide)) CA_44 Z_len Z_range Z_sorted Z_tuple
 have G_46:FnOk l.prog w K mg base CX0 4 f_46 _ ["_law_script"] (pI K):=Cj F_46 (G_38.mono (by decide)) CA_38 (G_39.mono (by decide)) CA_39 (G_40.mono (by decide)) CA_40 (G_43.mono (by decide)) CA_43 (G_45.mono (by decide)) CA_45 Z_len Z_range
 have G_47:FnOk l.prog w K mg base CX0 1 f_47 _ ["_law_reports","_law_counts"] (lM K):=xg F_47 Z_max
 have G_48:FnOk l.prog w K mg base CX0 1 f_48 _ ["_law_told","_law_counts"] (mj K):=Cv F_48
 have G_49:FnOk l.prog w K mg base CX0 1 f_49 _ ["_law_names","_law_counts"] (ul K):=Hr F_49 Z_len Z_range
 have G_50:FnOk l.prog w K mg base CX0 3 f_50 _ ["_law_told","_law_rest","_law_names","_law_counts"] (mV K):=yG F_50 (G_42.mono (by decide)) CA_42 (G_48.mono (by decide)) CA_48 (G_49.mono (by decide)) CA_49 Z_sorted
 have G_51:FnOk l.prog w K mg base CX0 4 f_51 _ ["_law_row","_law_reports"] (mO K):=zp F_51 (G_47.mono (by decide)) CA_47 (G_48.mono (by decide)) CA_48 (G_50.mono (by decide)) CA_50 Z_isinstance Z_len Z_list Z_tuple
 exact VR F_52 (G_37.mono (by decide)) CA_37 (G_41.mono (by decide)) CA_41 (G_46.mono (by decide)) CA_46 (G_51.mono (by decide)) CA_51 Z_isinstance Z_len Z_list Z_tuple
theorem walk {l:PySem.W.OpenLaw} {q:Program} {loose:List Str} {XP:(Str->Option Value)->Heap->Prop} {YP:World->Heap->Prop} {d:DefRec} {K:Params->PySem.W.Frag} (hn:l.most=some 63) (hdf:d.params.defaults=[])
  (hY:∀ (w:World) (h:Heap),YP w h->(K w.params).In h)
  (F:∀ (w:World) (mg:Str->Option Value) (fa:Addr) (h:Heap),(K w.params).In h->h.Ns mainGlobals mg->mg d.name=some (.ref fa) ->
   ∃ fd:FuncData,(∀ (s:Shared) (u:Value),BindsTo s fd ⟨[u],[]⟩ [("_law_script",u)])/\∀ base:Heap,(K w.params).In base->base.Ns mainGlobals mg->FnOk l.prog w (K w.params) mg base CX0 9 fa fd ["_law_script"] (Dv (K w.params))) :
  PySem.W.WalkO q loose XP YP l.row.toRowW d [] (fun f vs=>PySem.call f vs) :=
 L2.QT (n:=63) (k:=9) (x:="_law_script") (CX:=fun _=>CX0) (sp:=fun w=>Dv (K w.params)) hn (by decide) hdf ⟨rfl,by decide,by decide⟩ hY F (fun _ _ a ns hl _ hS=>⟨a,ns,rfl,hS,hl,fun _=>rfl⟩) fun _ _ _ _ _ z=>z
end K53
def PySem.W.Fast.tw17557635727683506008:Unit:=()
def PySem.W.Fast.tw1824269857268049018:Unit:=()
def PySem.W.Fast.tw10870170849793724538:Unit:=()
def PySem.W.Fast.tw15667316323456094602:Unit:=()
def PySem.W.Fast.tw5588072391288985182:Unit:=()
def PySem.W.Fast.tw11589943985329134175:Unit:=()
def PySem.W.Fast.tw2644449515266825462:Unit:=()
def PySem.W.Fast.tw11175622257486996661:Unit:=()
def PySem.W.Fast.tw5783894118707425585:Unit:=()
def PySem.W.Fast.tw8299505900582283116:Unit:=()
def PySem.W.Fast.tw18022409005672145874:Unit:=()
def PySem.W.Fast.tw2229816566869329735:Unit:=()
def PySem.W.Fast.tw11621748054873238508:Unit:=()
def PySem.W.Fast.tw10156163700222414126:Unit:=()
def PySem.W.Fast.tw6807357010033424706:Unit:=()
def PySem.W.Fast.tw12613147639854738987:Unit:=()
def PySem.W.Fast.tw13431565272696197503:Unit:=()
def PySem.W.Fast.tw15667769052191507370:Unit:=()
def PySem.W.Fast.tw18114502709061990006:Unit:=()
def PySem.W.Fast.tw6961682823545678745:Unit:=()
def PySem.W.Fast.tw11549297816213973130:Unit:=()
def PySem.W.Fast.tw12195510873461471359:Unit:=()
def PySem.W.Fast.tw3422941150150374755:Unit:=()
def PySem.W.Fast.tw15649592312003236352:Unit:=()
def PySem.W.Fast.tw10371925518102919787:Unit:=()
def PySem.W.Fast.tw12045961845737251314:Unit:=()
def PySem.W.Fast.tw10231749019260513767:Unit:=()
def PySem.W.Fast.tw5215947053766042404:Unit:=()
def PySem.W.Fast.tw17429871740981583137:Unit:=()
def PySem.W.Fast.tw6877936399364452312:Unit:=()
def PySem.W.Fast.tw3702944866403251962:Unit:=()
def PySem.W.Fast.tw5731229053430342351:Unit:=()
def PySem.W.Fast.tw9496204038170936008:Unit:=()
def PySem.W.Fast.tw399318816271139429:Unit:=()
def PySem.W.Fast.tw15660094973231133022:Unit:=()
def PySem.W.Fast.tw4912128933867773787:Unit:=()
def PySem.W.Fast.tw129043218378098298:Unit:=()
def PySem.W.Fast.tw7517109913667440905:Unit:=()
def PySem.W.Fast.tw700643267273889420:Unit:=()
def PySem.W.Fast.tw4912030832244254995:Unit:=()
def PySem.W.Fast.tw8470552430909800099:Unit:=()
def PySem.W.Fast.tw14246130067919841236:Unit:=()
def PySem.W.Fast.tw18080022493618307370:Unit:=()
def PySem.W.Fast.tw8735044459592854191:Unit:=()
def PySem.W.Fast.tw10905978309441658077:Unit:=()
def PySem.W.Fast.tw14008331832288836773:Unit:=()
def PySem.W.Fast.tw9395203095046436976:Unit:=()
def PySem.W.Fast.tw14965744380879153512:Unit:=()
def PySem.W.Fast.tw10826838403503899459:Unit:=()
def PySem.W.Fast.tw12987091744754375543:Unit:=()
def PySem.W.Fast.tw6221546166388413340:Unit:=()
def PySem.W.Fast.tw6420056192852894567:Unit:=()
def PySem.W.Fast.tw17778635173999512887:Unit:=()
def PySem.W.Fast.tw5870373000259266103:Unit:=()
def PySem.W.Fast.tw8348091908389677794:Unit:=()
def PySem.W.Fast.tw17466514779773899741:Unit:=()
def PySem.W.Fast.tw6974764799289149844:Unit:=()
def PySem.W.Fast.tw13420003251039964197:Unit:=()
def PySem.W.Fast.tw10118582776497086115:Unit:=()
def PySem.W.Fast.tw11095162668927269377:Unit:=()
def PySem.W.Fast.tw13083714883040105726:Unit:=()
def PySem.W.Fast.tw13872095984107506683:Unit:=()
def PySem.W.Fast.tw11105029359523523886:Unit:=()
def PySem.W.Fast.tw9058194905996297894:Unit:=()
def PySem.W.Fast.tw7856108559297638185:Unit:=()
def PySem.W.Fast.tw11634267685937915680:Unit:=()
def PySem.W.Fast.tw13181275487963184659:Unit:=()
def PySem.W.Fast.tw17493639863479851706:Unit:=()
def PySem.W.Fast.tw14630687573034517636:Unit:=()
def PySem.W.Fast.tw13646596528839209585:Unit:=()
def PySem.W.Fast.tw635729659834786501:Unit:=()
def PySem.W.Fast.tw13318096656022857287:Unit:=()
def PySem.W.Fast.tw15256317688798758812:Unit:=()
def PySem.W.Fast.tw3675350696449520996:Unit:=()
def PySem.W.Fast.tw7863516696906490755:Unit:=()
def PySem.W.Fast.tw2153227012390584025:Unit:=()
def PySem.W.Fast.tw7602947768117051537:Unit:=()
def PySem.W.Fast.tw16862929717360571518:Unit:=()
def PySem.W.Fast.tw6378628014319059928:Unit:=()
def PySem.W.Fast.tw12761028719999825679:Unit:=()
def PySem.W.Fast.tw4694418680743224026:Unit:=()
def PySem.W.Fast.tw6393019516914231898:Unit:=()
def PySem.W.Fast.tw4184156820103363607:Unit:=()
def PySem.W.Fast.tw10087507404385113926:Unit:=()
def PySem.W.Fast.tw11177294005260042611:Unit:=()
def PySem.W.Fast.tw6893999949980077738:Unit:=()
def PySem.W.Fast.tw8648959726618808462:Unit:=()
def PySem.W.Fast.tw8861060742907466031:Unit:=()
def PySem.W.Fast.tw17731899227671959481:Unit:=()
def PySem.W.Fast.tw12581579842838788430:Unit:=()
def PySem.W.Fast.tw7160109034129642368:Unit:=()
def PySem.W.Fast.tw8546283138077444412:Unit:=()
def PySem.W.Fast.tw8294855957745540455:Unit:=()
def PySem.W.Fast.tw16521082714760674659:Unit:=()
def PySem.W.Fast.tw12011728864475699928:Unit:=()
def PySem.W.Fast.tw15984084939847285885:Unit:=()
def PySem.W.Fast.tw6355712492356267490:Unit:=()
def PySem.W.Fast.tw11553564098445241266:Unit:=()
def PySem.W.Fast.tw17271179105225791046:Unit:=()
def PySem.W.Fast.tw10925511946570017799:Unit:=()
def PySem.W.Fast.tw17897067561101963298:Unit:=()
def PySem.W.Fast.tw6422436403483916455:Unit:=()
def PySem.W.Fast.tw15258484175529464834:Unit:=()
def PySem.W.Fast.tw6617106382452935695:Unit:=()
def PySem.W.Fast.tw1070445563403558366:Unit:=()
def PySem.W.Fast.tw6041932584179641608:Unit:=()
def PySem.W.Fast.tw4532648101050838554:Unit:=()
def PySem.W.Fast.tw2754216939112264937:Unit:=()
def PySem.W.Fast.tw1355209698876269742:Unit:=()
def PySem.W.Fast.tw11842936170139051370:Unit:=()
def PySem.W.Fast.tw16234627792650600063:Unit:=()
def PySem.W.Fast.tw14270765300419202881:Unit:=()
def PySem.W.Fast.tw18435265979166032736:Unit:=()
def PySem.W.Fast.tw17871677326613783037:Unit:=()
def PySem.W.Fast.tw16437197433677246627:Unit:=()
def PySem.W.Fast.tw11224440218200578458:Unit:=()
def PySem.W.Fast.tw2772712390007498296:Unit:=()
def PySem.W.Fast.tw856412314656390935:Unit:=()
def PySem.W.Fast.tw2624461479450563753:Unit:=()
def PySem.W.Fast.tw2460119710589504824:Unit:=()
def PySem.W.Fast.tw2006751572378470321:Unit:=()
def PySem.W.Fast.tw8619749420855389540:Unit:=()
def PySem.W.Fast.tw12626460399442262766:Unit:=()
def PySem.W.Fast.tw15847605148352858422:Unit:=()
def PySem.W.Fast.tw13823157263373728157:Unit:=()
def PySem.W.Fast.tw9737110840255651292:Unit:=()
def PySem.W.Fast.tw16368038252096101243:Unit:=()
def PySem.W.Fast.tw9120187006560264711:Unit:=()
def PySem.W.Fast.tw861957695229961834:Unit:=()
def PySem.W.Fast.tw959903876453015644:Unit:=()
def PySem.W.Fast.tw1339617860079047442:Unit:=()
def PySem.W.Fast.tw8623132841665566640:Unit:=()
open PySem PySem.W PyProof.Rows
set_option maxRecDepth 100000 in
set_option maxHeartbeats 0 in
theorem PySem.Challenge.cw_groupcall_k53_whole_row_walked_holds : PySem.Challenge.rw_groupcall_k53_whole_row_walked.Holds := by
 w_on; o_law; k_head; (case hw=>w_witness2)
 k_fill
 refine K53.walk (l:=PySem.Challenge.rw_groupcall_k53_whole_row_walked) rfl rfl (fun w h Y=>PySem.W.kIn_of Y) ?F
 case F =>
  intro w mg fa h KX G hmg
  refine' K53.UG KX G hmg ?a_0 ?a_1 ?a_2 ?a_3 ?a_4 ?a_5 ?a_8 ?a_9 ?a_10 ?a_14 ?a_15 ?a_20 ?a_21 ?a_22 ?a_23 ?a_24 ?a_25 ?a_26 ?a_31 ?a_32 ?a_33 ?a_34 ?a_35 ?a_36 ?a_37 ?a_38 ?a_39 ?a_40 ?a_41 ?a_42 ?a_43 ?a_44 ?a_45 ?a_46 ?a_47 ?a_48 ?a_49 ?a_50 ?a_51 ?a_52 ?Hc ?rC ?vp ?vU ?vC ?NB ?M7 ?Hx ?HD ?Pb ?pL ?Oh ?Ia ?Qg ?Nt ?Dg ?Pz ?xX ?Qc ?Ca ?at_HeardCall___init__ ?at_HeardCall_asks_place ?at_HeardCall_free ?at_HeardCall_in_turn ?at_HeardCall_kind ?at_HeardCall_name ?at_HeardCall_rank ?at_HeardCall_told ?at_OneCall___init__ ?at_OneCall_asks_place ?at_OneCall_free ?at_OneCall_in_turn ?at_OneCall_kind ?at_OneCall_name ?at_OneCall_rank ?at_OneCall_told ?at_OwnCall___init__ ?at_OwnCall_asks_place ?at_OwnCall_free ?at_OwnCall_in_turn ?at_OwnCall_kind ?at_OwnCall_name ?at_OwnCall_rank ?at_OwnCall_told ?fc_Call___init__ ?l_0 ?c_0 ?k_0 ?l_1 ?c_1 ?k_1 ?l_2 ?c_2 ?k_2 ?l_3 ?c_3 ?k_3 ?l_4 ?c_4 ?k_4 ?l_5 ?c_5 ?k_5 ?l_6 ?c_6 ?k_6 ?l_7 ?c_7 ?k_7 ?l_8 ?c_8 ?k_8 ?l_9 ?c_9 ?k_9 ?l_10 ?c_10 ?k_10 ?l_11 ?c_11 ?k_11 ?l_12 ?c_12 ?k_12 ?l_13 ?c_13 ?k_13 ?l_14 ?c_14 ?k_14 ?l_15 ?c_15 ?k_15 ?l_16 ?c_16 ?k_16 ?l_17 ?c_17 ?k_17 ?l_18 ?c_18 ?k_18 ?l_19 ?c_19 ?k_19 ?l_20 ?c_20 ?k_20 ?l_21 ?c_21 ?k_21 ?l_22 ?c_22 ?k_22 ?l_23 ?c_23 ?k_23 ?l_24 ?c_24 ?k_24 ?l_25 ?c_25 ?k_25 ?l_26 ?c_26 ?k_26 ?l_27 ?c_27 ?k_27 ?l_28 ?c_28 ?k_28 ?l_29 ?c_29 ?k_29 ?l_30 ?c_30 ?k_30 ?l_31 ?c_31 ?k_31 ?l_32 ?c_32 ?k_32 ?l_33 ?c_33 ?k_33 ?l_34 ?c_34 ?k_34 ?l_35 ?c_35 ?k_35 ?l_36 ?c_36 ?k_36 ?l_37 ?c_37 ?k_37 ?l_38 ?c_38 ?k_38 ?l_39 ?c_39 ?k_39 ?l_40 ?c_40 ?k_40 ?l_41 ?c_41 ?k_41 ?l_42 ?c_42 ?k_42 ?l_43 ?c_43 ?k_43 ?l_44 ?c_44 ?k_44 ?l_45 ?c_45 ?k_45 ?l_46 ?c_46 ?k_46 ?l_47 ?c_47 ?k_47 ?l_48 ?c_48 ?k_48 ?l_49 ?c_49 ?k_49 ?l_50 ?c_50 ?k_50 ?l_51 ?c_51 ?k_51 ?l_52 ?c_52 ?k_52 ?i_6 ?i_18 ?i_12 ?i_11 ?i_16 ?i_17 ?i_30 ?i_13 ?i_28 ?i_19 ?i_29 ?i_7 ?i_27 ?Cm ?Dh ?Ce ?De ?oF ?nM ?pK ?qP ?nZ ?pJ ?pF ?pP ?pB ?iY ?iT ?jG ?j6 ?iU ?ur ?tR ?tH ?tL ?j4 ?j5 ?lL ?mZ ?jY ?ug ?tM ?uo ?tY ?jO ?j8 ?lu ?mY ?jP ?pO ?pQ ?tX ?tO ?tU ?um ?Ci ?BR ?yZ
  (case a_0 | a_1 | a_2 | a_3 | a_4 | a_5 | a_8 | a_9 | a_10 | a_14 | a_15 | a_20 | a_21 | a_22 | a_23 | a_24 | a_25 | a_26 | a_31 | a_32 | a_33 | a_34 | a_35 | a_36 | a_37 | a_38 | a_39 | a_40 | a_41 | a_42 | a_43 | a_44 | a_45 | a_46 | a_47 | a_48 | a_49 | a_50 | a_51 | a_52 | Hc | rC | vp | vU | vC | NB | M7 | Hx | HD | Pb | pL | Oh | Ia | Qg | Nt | Dg | Pz | xX | Qc | Ca | at_HeardCall___init__ | at_HeardCall_asks_place | at_HeardCall_free | at_HeardCall_in_turn | at_HeardCall_kind | at_HeardCall_name | at_HeardCall_rank | at_HeardCall_told | at_OneCall___init__ | at_OneCall_asks_place | at_OneCall_free | at_OneCall_in_turn | at_OneCall_kind | at_OneCall_name | at_OneCall_rank | at_OneCall_told | at_OwnCall___init__ | at_OwnCall_asks_place | at_OwnCall_free | at_OwnCall_in_turn | at_OwnCall_kind | at_OwnCall_name | at_OwnCall_rank | at_OwnCall_told | fc_Call___init__ | l_0 | c_0 | k_0 | l_1 | c_1 | k_1 | l_2 | c_2 | k_2 | l_3 | c_3 | k_3 | l_4 | c_4 | k_4 | l_5 | c_5 | k_5 | l_6 | c_6 | k_6 | l_7 | c_7 | k_7 | l_8 | c_8 | k_8 | l_9 | c_9 | k_9 | l_10 | c_10 | k_10 | l_11 | c_11 | k_11 | l_12 | c_12 | k_12 | l_13 | c_13 | k_13 | l_14 | c_14 | k_14 | l_15 | c_15 | k_15 | l_16 | c_16 | k_16 | l_17 | c_17 | k_17 | l_18 | c_18 | k_18 | l_19 | c_19 | k_19 | l_20 | c_20 | k_20 | l_21 | c_21 | k_21 | l_22 | c_22 | k_22 | l_23 | c_23 | k_23 | l_24 | c_24 | k_24 | l_25 | c_25 | k_25 | l_26 | c_26 | k_26 | l_27 | c_27 | k_27 | l_28 | c_28 | k_28 | l_29 | c_29 | k_29 | l_30 | c_30 | k_30 | l_31 | c_31 | k_31 | l_32 | c_32 | k_32 | l_33 | c_33 | k_33 | l_34 | c_34 | k_34 | l_35 | c_35 | k_35 | l_36 | c_36 | k_36 | l_37 | c_37 | k_37 | l_38 | c_38 | k_38 | l_39 | c_39 | k_39 | l_40 | c_40 | k_40 | l_41 | c_41 | k_41 | l_42 | c_42 | k_42 | l_43 | c_43 | k_43 | l_44 | c_44 | k_44 | l_45 | c_45 | k_45 | l_46 | c_46 | k_46 | l_47 | c_47 | k_47 | l_48 | c_48 | k_48 | l_49 | c_49 | k_49 | l_50 | c_50 | k_50 | l_51 | c_51 | k_51 | l_52 | c_52 | k_52 | i_6 | i_18 | i_12 | i_11 | i_16 | i_17 | i_30 | i_13 | i_28 | i_19 | i_29 | i_7 | i_27 | Cm | Dh | Ce | De | oF | nM | pK | qP | nZ | pJ | pF | pP | pB | iY | iT | jG | j6 | iU | ur | tR | tH | tL | j4 | j5 | lL | mZ | jY | ug | tM | uo | tY | jO | j8 | lu | mY | jP | pO | pQ | tX | tO | tU | um | Ci | BR | yZ=>first | k_is | rfl | decide)
