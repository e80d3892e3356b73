import PyProof.Rows.All
import Wide.All
import OpenK.AllK
import Wide.FinOn
import Lean
import PyProof.EqAt
import PyProof.EqKinds
import PyProof.TupleCall
import KE.KSortTup
import KE.KDictList
import PySem.Challenge.RW_groupcall_k52_first_plan_told
set_option Elab.async false
set_option linter.all false
set_option maxRecDepth 100000
set_option maxHeartbeats 16000000
namespace L2
open PySem PySem.Spec PyProof.Rows
abbrev Key := Sum Int Str
def xW : Key -> Value -> Bool
 | .inl k, v => Value.isInt k v
 | .inr x, v => Value.isStrOf x v
def WY (w : World) : Key -> Int
 | .inl k => hashInt k
 | .inr x => hashStr w x
theorem cL : ∀ {k : Key} {v : Value}, xW k v = true -> (∃ i t, k = Sum.inl i /\ v = Value.int i t) ∨ (∃ x t, k = Sum.inr x /\ v = Value.str x t)
 | .inl i, v, h => by
  obtain ⟨t, e⟩ := Value.isInt_shape (k := i) (v := v) h
  exact .inl ⟨i, t, rfl, e⟩
 | .inr x, v, h => by
  obtain ⟨t, e⟩ := Value.isStrOf_shape (x := x) (v := v) h
  exact .inr ⟨x, t, rfl, e⟩
theorem JP (i : Int) (t : Tok) : xW (.inl i) (.int i t) = true := by simp [xW, Value.isInt]
theorem Jd (x : Str) (t : Tok) : xW (.inr x) (.str x t) = true := by simp [xW, Value.isStrOf]
theorem T9 (a b : Int) : decide ((Sum.inl a : Key) = Sum.inl b) = (a == b) := by
 by_cases e : a = b
 ·subst e; simp
 ·have h : ¬ (Sum.inl a : Key) = Sum.inl b := fun q => e (Sum.inl.inj q)
  rw [decide_eq_false h]
  exact (beq_eq_false_iff_ne.mpr e).symm
theorem Ro (a b : Str) : decide ((Sum.inr a : Key) = Sum.inr b) = decide (a = b) := by
 by_cases e : a = b
 ·subst e; simp
 ·have h : ¬ (Sum.inr a : Key) = Sum.inr b := fun q => e (Sum.inr.inj q)
  rw [decide_eq_false h, decide_eq_false e]
theorem Tc (a : Int) (b : Str) : decide ((Sum.inl a : Key) = Sum.inr b) = false := decide_eq_false (fun q => nomatch q)
theorem Rx (a : Str) (b : Int) : decide ((Sum.inr a : Key) = Sum.inl b) = false := decide_eq_false (fun q => nomatch q)
def bL (prog : Program) (w : World) : PySem.KeyKind prog w Key where
 is := xW
 hash := WY w
 inj := fun v a b ha hb => by
  rcases cL ha with ⟨i, t, rfl, rfl⟩ | ⟨x, t, rfl, rfl⟩
  ·rcases cL hb with ⟨j, u, rfl, e⟩ | ⟨y, u, rfl, e⟩
   ·injection e with e1 _; rw [e1]
   ·exact nomatch e
  ·rcases cL hb with ⟨j, u, rfl, e⟩ | ⟨y, u, rfl, e⟩
   ·exact nomatch e
   ·injection e with e1 _; rw [e1]
 byValue := fun k v h => by
  rcases cL h with ⟨i, t, rfl, rfl⟩ | ⟨x, t, rfl, rfl⟩ <;> rfl
 pyHash := fun hv h => by
  rcases cL hv with ⟨i, t, rfl, rfl⟩ | ⟨x, t, rfl, rfl⟩
  ·exact wpAny_pyHash_int h
  ·exact wpAny_pyHash_str h
 eqBool := fun hu hv h => by
  rcases cL hu with ⟨i, t, rfl, rfl⟩ | ⟨x, t, rfl, rfl⟩
  ·rcases cL hv with ⟨j, u, rfl, rfl⟩ | ⟨y, u, rfl, rfl⟩
   ·rw [T9] at h; exact wpAny_eqBool_int h
   ·rw [Tc] at h; exact SeqAt.EqAt.int_str i t y u _ _ _ _ h
  ·rcases cL hv with ⟨j, u, rfl, rfl⟩ | ⟨y, u, rfl, rfl⟩
   ·rw [Rx] at h; exact SeqAt.EqAt.str_int x t j u _ _ _ _ h
   ·rw [Ro] at h; exact wpAny_eqBool_str h
 «strs» := fun k x t v h => by
  rcases cL h with ⟨i, u, rfl, e⟩ | ⟨y, u, rfl, e⟩
  ·exact nomatch e
  ·injection e with e1 _
   subst e1
   cases v <;> rfl
theorem qt (prog : Program) (w : World) (i : Int) (t : Tok) : (bL prog w).is (.inl i) (.int i t) = true := JP i t
theorem Ek (prog : Program) (w : World) (x : Str) (t : Tok) : (bL prog w).is (.inr x) (.str x t) = true := Jd x t
end L2
namespace L2
open PySem PySem.Spec PyProof.Rows
inductive V where
 | non | bl (b : Bool) | int (i : Int) | str (x : Str) | byt (b : Array UInt8) | flt (b : UInt64) | ref (a : Addr) | ty (n : String)
 deriving DecidableEq
def RelV : V -> Value -> Prop
 | .non, u => u = Value.none
 | .bl b, u => u = Value.bool b
 | .int i, u => ∃ t, u = Value.int i t
 | .str x, u => ∃ t, u = Value.str x t
 | .byt b, u => ∃ t, u = Value.bytes b t
 | .flt b, u => ∃ t, u = Value.float b t
 | .ref a, u => u = Value.ref a
 | .ty n, u => u = Value.type n
abbrev Vals : List V -> List Value -> Prop := Paired RelV
theorem Vals.length {xs : List V} {us : List Value} (r : Vals xs us) : xs.length = us.length := Paired.length r
theorem Vals.get : ∀ {xs : List V} {us : List Value} {i : Nat} {x : V}, Vals xs us -> xs[i]? = some x -> ∃ u, us[i]? = some u /\ RelV x u
 | _, _, _, _, .nil, e => by simp at e
 | _, _, 0, _, .cons r _, e => by simp at e; subst e; exact ⟨_, rfl, r⟩
 | _, _, i + 1, x, .cons _ t, e => by
  obtain ⟨u, h1, h2⟩ := Vals.get (i := i) (x := x) t (by simpa using e)
  exact ⟨u, by simpa using h1, h2⟩
theorem Vals.append : ∀ {xs ys : List V} {us ws : List Value}, Vals xs us -> Vals ys ws -> Vals (xs ++ ys) (us ++ ws)
 | _, _, _, _, .nil, s => s
 | _, _, _, _, .cons r t, s => .cons r (Vals.append t s)
theorem Vals.take : ∀ {xs : List V} {us : List Value} (n : Nat), Vals xs us -> Vals (xs.take n) (us.take n)
 | _, _, 0, _ => .nil
 | _, _, _ + 1, .nil => .nil
 | _, _, n + 1, .cons r t => .cons r (Vals.take n t)
theorem Vals.drop : ∀ {xs : List V} {us : List Value} (n : Nat), Vals xs us -> Vals (xs.drop n) (us.drop n)
 | _, _, 0, r => r
 | _, _, _ + 1, .nil => .nil
 | _, _, n + 1, .cons _ t => Vals.drop n t
def RelO : Option V -> Option Value -> Prop
 | some v, some u => RelV v u
 | none, none => True
 | _, _ => False
def KV {κ : Type} : List (κ × V) -> List (κ × Value) -> Prop := Paired fun (p : κ × V) (q : κ × Value) => p.1 = q.1 /\ RelV p.2 q.2
def kV : Key -> V
 | .inl i => .int i
 | .inr x => .str x
inductive HO where
 | lst (xs : List V)
 | tup (xs : List V)
 | dK (kvs : List (Key × V)) | dT (kvs : List (List Key × V))
 | set (S : Int -> Bool) (n : Nat)
 | ins (C dx : Addr) (fs : List (Str × V))
 | own (x : Addr)
 | xd (fs : List (Str × V))
 | met (f x : Addr)
 | rng (lo hi : Int)
 | frz (o : Obj) (u : HO)
 | tbl (ps : Array Value)
 | ext (φ : Heap -> Prop)
abbrev Hp := Addr -> Option HO
def upd (H : Hp) (a : Addr) (o : HO) : Hp := fun b => if b = a then some o else H b
theorem aB {H : Hp} {a : Addr} {o : HO} : upd H a o a = some o := by unfold upd; rw [if_pos rfl]
theorem aL {H : Hp} {a b : Addr} {o : HO} (h : b ≠ a) : upd H a o b = H b := by unfold upd; rw [if_neg h]
theorem nP {H : Hp} {a b : Addr} {o u : HO} (h : H a = some o) (h' : H b = some u) (d : o ≠ u) : a ≠ b := by
 intro e; subst e; rw [h] at h'; exact d (Option.some.inj h')
theorem aC {H : Hp} {a b : Addr} {o : HO} (h : H a = some o) (h' : H b = none) : a ≠ b := by
 intro e; subst e; rw [h] at h'; cases h'
def IsTpl (h : Heap) (a : Addr) (items : Array Value) : Prop := ∃ o, h.get? a = some o /\ o.cls = .type "tuple" /\ ∃ n, o.data = .seq items n /\ o.dict = none /\ o.slots = #[]
theorem IsTpl.tup {h : Heap} {a : Addr} {items : Array Value} (x : IsTpl h a items) : IsTup h a items := let ⟨o, e, c, n, d, _⟩ := x; ⟨o, e, c, n, d⟩
theorem IsTpl.lt {h : Heap} {a : Addr} {items : Array Value} (x : IsTpl h a items) : a < h.objs.size := x.tup.lt
theorem IsTpl.new (h : Heap) (items : Array Value) : IsTpl (h.push { cls := .type "tuple", data := .seq items }) h.objs.size items := ⟨_, Heap.get?_push_size _ rfl, rfl, _, rfl, rfl, rfl⟩
section
variable (P : Program) (w : World)
def ObjOk (H : Hp) (h : Heap) (a : Addr) : HO -> Prop
 | .lst xs => xs.length <= sizeLine /\ ∃ (its : List Value) (n : Nat), Vals xs its /\ h.get? a = some { cls := .type "list", data := .seq its.toArray n }
 | .tup xs => xs.length <= sizeLine /\ ∃ its : List Value, Vals xs its /\ IsTpl h a its.toArray
 | .dK kvs => kvs.length <= sizeLine /\ (a == sysModules) = false /\ ∃ vs, KV kvs vs /\ h.DictOf (bL P w) a vs
 | .dT kvs => kvs.length <= sizeLine /\ (a == sysModules) = false /\ ∃ xs : List (List Key × Addr × Value),
   Paired (fun (p : List Key × V) (q : List Key × Addr × Value) => p.1 = q.1 /\ H q.2.1 = some (.tup (p.1.map kV)) /\ RelV p.2 q.2.2) kvs xs /\
   ∃ o es ep, h.get? a = some o /\ o.ExactDict /\ o.data = .dict es ep /\ es.toList = xs.map (entryOfKey (tupleKind (bL P w))) /\ (xs.map (·.1)).Nodup
 | .set S n => h.SetOf (intKind P w) a S n
 | .ins C dx fs => H dx = some (.own a) /\ fs.length <= 1000 /\ dx ≠ a /\ h.get? a = some (PySem.W.instObj C dx) /\
   ∃ mA, h.Ns1 dx mA /\ (∀ f, RelO (fs.lookup f) (mA f)) /\ PySem.Within mA (fs.map (·.1))
 | .own _ => ∃ o, h.get? a = some o
 | .xd fs => ∃ mA, h.Ns1 a mA /\ ∀ f, RelO (fs.lookup f) (mA f)
 | .rng lo hi => ∃ t u v, h.get? a = some { cls := .type "range", data := .fields #[.int lo t, .int hi u, .int 1 v] }
 | .frz o u => h.get? a = some o /\ ObjOk H h a u
 | .tbl ps => h.get? a = some { cls := .none, data := .fields ps }
 | .met f x => h.get? a = some (PySem.W.methodObj (.ref f) (.ref x))
 | .ext φ => φ h /\ (∃ o, h.get? a = some o) /\ ∀ h1 h2 : Heap, φ h1 -> (∀ o, h1.get? a = some o -> h2.get? a = some o) -> φ h2
def HOk (H : Hp) (h : Heap) : Prop := ∀ a o, H a = some o -> ObjOk P w H h a o
end
section
variable {P : Program} {w : World} {H H' : Hp} {h h' : Heap} {a : Addr} {o : HO}
theorem ObjOk.lt (x : ObjOk P w H h a o) : a < h.objs.size := by
 cases o with
 | lst xs => obtain ⟨_, _, _, _, e⟩ := x; exact Heap.lt_size e
 | tup xs => obtain ⟨_, _, _, p⟩ := x; exact p.lt
 | dK kvs => obtain ⟨_, _, _, _, o, _, _, e, _⟩ := x; exact Heap.lt_size e
 | dT kvs => obtain ⟨_, _, _, _, o, _, _, e, _⟩ := x; exact Heap.lt_size e
 | set S n => obtain ⟨o, _, _, _, e, _⟩ := x; exact Heap.lt_size e
 | ins C dx fs => obtain ⟨_, _, _, e, _⟩ := x; exact Heap.lt_size e
 | own y => obtain ⟨_, e⟩ := x; exact Heap.lt_size e
 | xd fs => obtain ⟨_, ⟨_, _, _, e, _⟩, _⟩ := x; exact Heap.lt_size e
 | rng lo hi => obtain ⟨_, _, _, e⟩ := x; exact Heap.lt_size e
 | frz ob u => obtain ⟨e, _⟩ := x; exact Heap.lt_size e
 | tbl ps => exact Heap.lt_size (show h.get? a = some _ from x)
 | met f y => exact Heap.lt_size (show h.get? a = some _ from x)
 | ext φ => obtain ⟨_, ⟨_, e⟩, _⟩ := x; exact Heap.lt_size e
theorem Paired.mapP {α β : Type} {F G : α -> β -> Prop} : ∀ {l₁ : List α} {l₂ : List β}, Paired F l₁ l₂ -> (∀ a b, F a b -> G a b) -> Paired G l₁ l₂
 | _, _, .nil, _ => .nil
 | _, _, .cons r t, f => .cons (f _ _ r) (Paired.mapP t f)
theorem ObjOk.stay (x : ObjOk P w H h a o) (k : ∀ b u, (b = a ∨ H b = some (.own a)) -> h.get? b = some u -> h'.get? b = some u)
  (ho : ∀ b, H b = some (.own a) -> H' b = some (.own a)) (ht : ∀ b xs, H b = some (.tup xs) -> H' b = some (.tup xs)) : ObjOk P w H' h' a o := by
 induction o with
 | lst xs => obtain ⟨z, its, n, r, e⟩ := x; exact ⟨z, its, n, r, k _ _ (.inl rfl) e⟩
 | tup xs => obtain ⟨z, its, r, ob, e, c⟩ := x; exact ⟨z, its, r, ob, k _ _ (.inl rfl) e, c⟩
 | dK kvs => obtain ⟨z, y, vs, r, ob, es, ep, e, c⟩ := x; exact ⟨z, y, vs, r, ob, es, ep, k _ _ (.inl rfl) e, c⟩
 | dT kvs =>
  obtain ⟨z, y, xs, r, ob, es, ep, e, c⟩ := x
  exact ⟨z, y, xs, Paired.mapP r fun p q z => ⟨z.1, ht _ _ z.2.1, z.2.2⟩, ob, es, ep, k _ _ (.inl rfl) e, c⟩
 | set S n => obtain ⟨ob, es, ep, t, e, c⟩ := x; exact ⟨ob, es, ep, t, k _ _ (.inl rfl) e, c⟩
 | ins C dx fs =>
  obtain ⟨d, z, ne, e, mA, ⟨od, es, ep, e2, c⟩, r⟩ := x
  exact ⟨ho _ d, z, ne, k _ _ (.inl rfl) e, mA, ⟨od, es, ep, k _ _ (.inr d) e2, c⟩, r⟩
 | own y => obtain ⟨ob, e⟩ := x; exact ⟨ob, k _ _ (.inl rfl) e⟩
 | xd fs => obtain ⟨mA, ⟨od, es, ep, e, c⟩, r⟩ := x; exact ⟨mA, ⟨od, es, ep, k _ _ (.inl rfl) e, c⟩, r⟩
 | rng lo hi => obtain ⟨t, u, v, e⟩ := x; exact ⟨t, u, v, k _ _ (.inl rfl) e⟩
 | frz ob u ih => obtain ⟨e, q⟩ := x; exact ⟨k _ _ (.inl rfl) e, ih q⟩
 | tbl ps =>
  have e : h.get? a = some { cls := .none, data := .fields ps } := x
  show h'.get? a = some { cls := .none, data := .fields ps }
  exact k a _ (.inl rfl) e
 | met f y =>
  have e : h.get? a = some (PySem.W.methodObj (.ref f) (.ref y)) := x
  show h'.get? a = some (PySem.W.methodObj (.ref f) (.ref y))
  exact k a _ (.inl rfl) e
 | ext φ => obtain ⟨p, ⟨o, e⟩, st⟩ := x; exact ⟨st _ _ p fun o q => k _ _ (.inl rfl) q, ⟨o, k _ _ (.inl rfl) e⟩, st⟩
theorem HOk.lt (x : HOk P w H h) (e : H a = some o) : a < h.objs.size := (x a o e).lt
theorem HOk.fresh (x : HOk P w H h) (e : h.objs.size <= a) : H a = none := by
 cases q : H a with
 | none => rfl
 | some u => exact absurd (Nat.lt_of_lt_of_le (x.lt q) e) (Nat.lt_irrefl _)
theorem HOk.kept (x : HOk P w H h) (k : ∀ b u, h.get? b = some u -> h'.get? b = some u) : HOk P w H h' := fun a o e =>
 (x a o e).stay (fun b u _ q => k b u q) (fun _ q => q) fun _ _ q => q
theorem HOk.laid (x : HOk P w H h) (k : ∀ b u, h.get? b = some u -> h'.get? b = some u) (hp : h.objs.size <= a) (new : ObjOk P w (upd H a o) h' a o) : HOk P w (upd H a o) h' := fun b u e => by
 have hn := x.fresh hp
 by_cases hb : b = a
 ·subst hb; rw [aB] at e; cases e; exact new
 ·rw [aL hb] at e
  exact (x b u e).stay (fun c v _ q => k c v q) (fun c q => by rw [aL (aC q hn)]; exact q) fun c xs q => by rw [aL (aC q hn)]; exact q
end
def Rd (H : Hp) (a : Addr) (u : HO) : Prop := H a = some u ∨ ∃ o, H a = some (.frz o u)
theorem Rd.ok {P : Program} {w : World} {H : Hp} {h : Heap} {a : Addr} {u : HO} (r : Rd H a u) (x : HOk P w H h) : ObjOk P w H h a u := by
 rcases r with r | ⟨o, r⟩
 ·exact x a u r
 ·obtain ⟨_, q⟩ := x a _ r
  exact q
def Mut : Option HO -> Prop
 | some (.lst _) => True
 | some (.dK _) => True
 | some (.dT _) => True
 | some (.set _ _) => True
 | some (.ins _ _ _) => True
 | some (.ext _) => True
 | _ => False
section
variable {P : Program} {w : World} {H : Hp} {h h' : Heap} {x e : Addr} {o' : HO}
theorem HOk.write (ok : HOk P w H h) (mu : Mut (H x)) (he : e = x ∨ H e = some (.own x)) (k : ∀ b u, b ≠ e -> h.get? b = some u -> h'.get? b = some u) (heo : ∃ u, h'.get? e = some u)
  (new : ObjOk P w (upd H x o') h' x o') : HOk P w (upd H x o') h' := fun b u q => by
 have nown : ∀ c y, H c = some (.own y) -> c ≠ x := fun c y r z => by subst z; rw [r] at mu; exact mu
 have ntup : ∀ c xs, H c = some (.tup xs) -> c ≠ x := fun c xs r z => by subst z; rw [r] at mu; exact mu
 by_cases hb : b = x
 ·subst hb; rw [aB] at q; cases q; exact new
 ·rw [aL hb] at q
  by_cases hbe : b = e
  ·have q' : H b = some (.own x) := by
    rcases he with z | z
    ·exact absurd (hbe.trans z) hb
    ·rw [hbe]; exact z
   rw [q] at q'; cases q'
   obtain ⟨v, hv⟩ := heo
   exact ⟨v, by rw [hbe]; exact hv⟩
  ·refine (ok b u q).stay (fun c v hc r => k c v ?_ r) (fun c r => by rw [aL (nown c b r)]; exact r) fun c xs r => by rw [aL (ntup c xs r)]; exact r
   rcases hc with rfl | hc
   ·exact hbe
   ·rintro rfl
    rcases he with z | z
    ·exact nown c b hc z
    ·rw [hc] at z; cases z; exact hb rfl
end
structure Un (fs ex : List Addr) (H H' : Hp) (h h' : Heap) : Prop where
 keep : ∀ b o, h.get? b = some o -> H b = none -> b ∉ fs -> b ∉ ex -> h'.get? b = some o
 slot : ∀ b o, h.get? b = some o -> H b = none -> b ∈ fs -> b ∉ ex -> ∃ sl, h'.get? b = some { o with slots := sl }
 free : ∀ b o, h.get? b = some o -> H b = none -> b ∉ ex -> H' b = none
 there : ∀ b o, h.get? b = some o -> b ∉ ex -> ∃ o', h'.get? b = some o'
 tups : ∀ b xs, H b = some (.tup xs) -> H' b = some (.tup xs)
 frzs : ∀ b o u, H b = some (.frz o u) -> H' b = some (.frz o u)
 tbls : ∀ b ps, H b = some (.tbl ps) -> ∃ more, H' b = some (.tbl (ps ++ more))
section
variable {fs fs' ex ex' : List Addr} {H H1 H2 : Hp} {h h1 h2 h' : Heap} {a x e : Addr} {o : HO}
theorem Un.any (u : Un fs ex H H1 h h1) {b : Addr} {ob : Obj} (q : h.get? b = some ob) (n : H b = none) (hx : b ∉ ex) : ∃ sl, h1.get? b = some { ob with slots := sl } := by
 by_cases hb : b ∈ fs
 ·exact u.slot b ob q n hb hx
 ·exact ⟨ob.slots, u.keep b ob q n hb hx⟩
theorem Un.kept (k : ∀ b u, h.get? b = some u -> h'.get? b = some u) : Un fs ex H H h h' :=
 ⟨fun b ob q _ _ _ => k b ob q, fun b ob q _ _ _ => ⟨ob.slots, k b ob q⟩, fun _ _ _ n _ => n, fun b ob q _ => ⟨ob, k b ob q⟩, fun _ _ q => q, fun _ _ _ q => q, fun _ ps q => ⟨#[], by rw [q]; simp⟩⟩
theorem Un.refl : Un fs ex H H h h := Un.kept fun _ _ q => q
theorem Un.laid (k : ∀ b u, h.get? b = some u -> h'.get? b = some u) (hp : h.objs.size <= a) (hn : H a = none) : Un fs ex H (upd H a o) h h' where
 keep := fun b u q _ _ _ => k b u q
 slot := fun b u q _ _ _ => ⟨u.slots, k b u q⟩
 free := fun b u q n _ => by rw [aL (Nat.ne_of_lt (Nat.lt_of_lt_of_le (Heap.lt_size q) hp))]; exact n
 there := fun b u q _ => ⟨u, k b u q⟩
 tups := fun b xs q => by rw [aL (aC q hn)]; exact q
 frzs := fun b u xs q => by rw [aL (aC q hn)]; exact q
 tbls := fun b ps q => ⟨#[], by rw [aL (aC q hn), q]; simp⟩
theorem Un.write (mu : Mut (H x)) (he : e = x ∨ H e = some (.own x)) (k : ∀ b u, b ≠ e -> h.get? b = some u -> h'.get? b = some u) (heo : ∃ u, h'.get? e = some u) : Un fs ex H (upd H x o) h h' := by
 have hx : ∀ b, H b = none -> b ≠ x := fun b n z => by subst z; rw [n] at mu; exact mu
 have hb : ∀ b, H b = none -> b ≠ e := fun b n z => by
  subst z
  rcases he with r | r
  ·exact hx b n r
  ·rw [n] at r; cases r
 have hm : ∀ b u, H b = some u -> ¬ Mut (some u) -> b ≠ x := fun b u q nm z => by subst z; rw [q] at mu; exact nm mu
 refine ⟨fun b u q n _ _ => k b u (hb b n) q, fun b u q n _ _ => ⟨u.slots, k b u (hb b n) q⟩, fun b u q n _ => by rw [aL (hx b n)]; exact n, fun b u q _ => ?_,
  fun b xs q => by rw [aL (hm b _ q fun z => z)]; exact q, fun b u xs q => by rw [aL (hm b _ q fun z => z)]; exact q, fun b ps q => ⟨#[], by rw [aL (hm b _ q fun z => z), q]; simp⟩⟩
 by_cases hbe : b = e
 ·subst hbe; exact heo
 ·exact ⟨u, k b u hbe q⟩
end
def trk (h : Heap) (H : Hp) : List Addr := (List.range h.objs.size).filter fun a => (H a).isSome
def Bg (h : Heap) (H : Hp) : Heap := PySem.W.hideAll h (trk h H)
theorem Iz (h : Heap) (H : Hp) : (Bg h H).objs.size = h.objs.size := PySem.W.hideAll_size _ _
theorem Lk {h : Heap} {H : Hp} {b : Addr} {o : Obj} (e : h.get? b = some o) (n : H b = none) : (Bg h H).get? b = some o :=
 PySem.W.hideAll_get _ e fun hm => by
  have q : (H b).isSome = true := (List.mem_filter.mp hm).2
  rw [n] at q; simp at q
theorem Qk {h : Heap} {H : Hp} {b : Addr} {o : Obj} (e : (Bg h H).get? b = some o) : h.get? b = some o /\ H b = none := by
 have e' : h.get? b = some o := PySem.W.of_hideAll (trk h H) e
 refine ⟨e', ?_⟩
 cases q : H b with
 | none => rfl
 | some x =>
  have hm : b ∈ trk h H := List.mem_filter.mpr ⟨List.mem_range.mpr (Heap.lt_size e'), by simp [q]⟩
  have z : (Bg h H).get? b = none := PySem.W.hideAll_none (trk h H) hm
  rw [z] at e; cases e
end L2
namespace L2
open PySem PySem.Spec PyProof.Rows
structure Mod (K : PySem.W.Frag) (mg : Str -> Option Value) (base : Heap) : Prop where
 kin : K.In base
 glob : base.Ns mainGlobals mg
 blt : ∃ mb, base.Ns builtinsNs mb /\ ∀ x : Str, x ≠ "__name__" -> mb x = bootBuiltins x
 nolimit : base.NoLimit
structure Cx where
 prog : Program
 w : World
 K : PySem.W.Frag
 mg : Str -> Option Value
 base : Heap
 A : Around
 N : List Str
 s₀ : Shared
 H₀ : Hp
 env : Env
 outer : List Env
 stack : List Env
 ex : List Addr
 fn : Str -> Bool
 calm : Bool
 pn : List (Addr × Obj)
 xe : Value -> Shared -> Prop
def frs (l : List Env) : List Addr := l.filterMap (·.frame)
abbrev Cx.fs (X : Cx) : List Addr := frs X.outer
def Vis (sc : Scope) (x : Str) : Prop := sc.names.lookup x = some .local ∨ sc.names.lookup x = some .cell ∨ sc.names.lookup x = some .free
def Loc (sc : Scope) (x : Str) : Prop := sc.names.lookup x = some .local ∨ sc.names.lookup x = some .cell
def Look (env : Env) (h : Heap) (m : Str -> Option Value) (x : Str) (u : Value) : Prop :=
 (env.kindOf x = some .local /\ m x = some u) ∨ ((env.kindOf x = some .cell ∨ env.kindOf x = some .free) /\ ∃ c, env.cells.lookup x = some c /\ h.IsCell c (some u))
structure Cx.Ok (X : Cx) : Prop where
 mod : Mod X.K X.mg X.base
 kind : X.env.scope.kind = .function
 glob : X.env.globals = mainGlobals
 blt : X.env.builtins = builtinsNs
 above : X.s₀.heap.objs.size <= X.env.locals
 inj : ∀ x y c, X.env.cells.lookup x = some c -> X.env.cells.lookup y = some c -> x = y
 has : ∀ x, (X.env.kindOf x = some .cell ∨ X.env.kindOf x = some .free) -> ∃ c, X.env.cells.lookup x = some c
 cab : ∀ x c, X.fn x = true -> X.env.cells.lookup x = some c -> X.s₀.heap.objs.size <= c
 hd : X.calm = true -> X.A.handled = none
 frames : X.A.frames = some X.stack
 stk : X.stack = X.outer ∨ (X.stack = X.env :: X.outer /\ X.env.frame = some X.env.locals)
 exf : ∀ b ∈ X.ex, b ≠ X.env.locals /\ ∀ x c, X.env.cells.lookup x = some c -> c ≠ b
 bs : ∀ b o, X.base.get? b = some o -> X.s₀.heap.get? b = some o /\ X.H₀ b = none
 bsz : X.base.objs.size <= X.s₀.heap.objs.size
 noex : ∀ b o, X.base.get? b = some o -> b ∉ X.ex
 exfs : ∀ b ∈ X.ex, b ∉ X.fs
 funs : X.s₀.heap.FunFrames X.base X.outer
 frf : ∀ b ∈ X.fs, X.H₀ b = none
structure Inv (X : Cx) (pins : List (Addr × Obj)) (σ : List (Option V)) (H : Hp) (s : Shared) : Prop where
 ok : X.Ok
 os : s.os = X.s₀.os
 bare : AllBare s.gens
 base : Un X.fs X.ex X.H₀ H X.s₀.heap s.heap
 loc : ∃ m, s.heap.Ns X.env.locals m /\ ∀ (i : Nat) (x : Str) (v : V), X.N[i]? = some x -> σ[i]? = some (some v) -> Vis X.env.scope x -> ∃ u, RelV v u /\ Look X.env s.heap m x u
 cell : ∀ x c, X.env.cells.lookup x = some c -> ∃ v, s.heap.IsCell c v
 free : H X.env.locals = none
 freeC : ∀ x c, X.env.cells.lookup x = some c -> H c = none
 pin : ∀ p ∈ X.pn ++ pins, s.heap.get? p.1 = some p.2 /\ H p.1 = none /\ p.1 ≠ X.env.locals /\ p.1 ∉ X.fs /\ ∀ v, p.2.data ≠ .cell v
 hok : HOk X.prog X.w H s.heap
 len : σ.length = X.N.length
section
variable {X : Cx} {pins : List (Addr × Obj)} {σ : List (Option V)} {H H' : Hp} {s : Shared} {h' : Heap}
theorem Cx.Ok.nofr (ok : X.Ok) {b : Addr} {o : Obj} (e : X.base.get? b = some o) : b ∉ X.fs := fun hb => by
 have := (ok.funs.mem hb).1
 rw [e] at this; cases this
theorem Inv.bs (I : Inv X pins σ H s) : ∀ b o, X.base.get? b = some o -> s.heap.get? b = some o /\ H b = none := fun b o e =>
 ⟨I.base.keep b o (I.ok.bs b o e).1 (I.ok.bs b o e).2 (I.ok.nofr e) (I.ok.noex b o e), I.base.free b o (I.ok.bs b o e).1 (I.ok.bs b o e).2 (I.ok.noex b o e)⟩
theorem Inv.bk (I : Inv X pins σ H s) : ∀ b o, X.base.get? b = some o -> s.heap.get? b = some o := fun b o e => (I.bs b o e).1
theorem Inv.mod (I : Inv X pins σ H s) : Mod X.K X.mg X.base := I.ok.mod
theorem Inv.kIn (I : Inv X pins σ H s) : X.K.In s.heap := I.ok.mod.kin.keeps I.bk
theorem Inv.lt (I : Inv X pins σ H s) : X.env.locals < s.heap.objs.size := let ⟨_, hn, _⟩ := I.loc; hn.lt
theorem Inv.sz (I : Inv X pins σ H s) : X.s₀.heap.objs.size <= s.heap.objs.size := Nat.le_trans I.ok.above (Nat.le_of_lt I.lt)
theorem Inv.nofs (I : Inv X pins σ H s) {a : Addr} (h : s.heap.objs.size <= a) : a ∉ X.fs := fun hb => by
 obtain ⟨_, o, ho, _⟩ := I.ok.funs.mem hb
 exact absurd (Nat.lt_of_lt_of_le (Heap.lt_size ho) (Nat.le_trans I.sz h)) (Nat.lt_irrefl _)
theorem Inv.cne (I : Inv X pins σ H s) : ∀ x c, X.env.cells.lookup x = some c -> c ≠ X.env.locals := fun x c e z => by
 obtain ⟨v, o, ho, hd⟩ := I.cell x c e
 obtain ⟨m, ⟨o', es, ep, ho', hd', _⟩, _⟩ := I.loc
 rw [z, ho'] at ho; cases ho; rw [hd'] at hd; cases hd
theorem Inv.funs (I : Inv X pins σ H s) : s.heap.FunFrames X.base X.outer := by
 have all : ∀ (l : List Env), (∀ b ∈ frs l, b ∈ X.fs) -> X.s₀.heap.FunFrames X.base l -> s.heap.FunFrames X.base l := by
  intro l
  induction l with
  | nil => intro _ _; trivial
  | cons env r ih =>
   intro hs hl
   obtain ⟨hk, ⟨L, o, hf, hn, ho, hd⟩, hr⟩ := hl
   have hL : L ∈ X.fs := hs L (by unfold frs; rw [List.filterMap_cons, hf]; exact List.mem_cons_self)
   obtain ⟨sl, e⟩ := I.base.slot L o ho (I.ok.frf L hL) hL fun z => I.ok.exfs L z hL
   exact ⟨hk, ⟨L, _, hf, hn, e, hd⟩, ih (fun b hb => hs b (by unfold frs; rw [List.filterMap_cons, hf]; exact List.mem_cons_of_mem _ hb)) hr⟩
 exact all X.outer (fun _ hb => hb) I.ok.funs
theorem Inv.stack (I : Inv X pins σ H s) : s.heap.FunFrames X.base X.stack := by
 rcases I.ok.stk with e | ⟨e, hf⟩
 ·rw [e]; exact I.funs
 ·rw [e]
  obtain ⟨m, hn, _⟩ := I.loc
  refine .cons (by rw [I.ok.kind]; decide) hf hn ?_ I.funs
  exact Heap.get?_none_of_le (Nat.le_trans I.ok.bsz I.ok.above)
theorem Inv.stkSub (I : Inv X pins σ H s) : ∀ b ∈ frs X.stack, b ∈ X.env.locals :: X.fs := fun b hb => by
 rcases I.ok.stk with e | ⟨e, hf⟩
 ·rw [e] at hb; exact List.mem_cons_of_mem _ hb
 ·rw [e] at hb
  unfold frs at hb
  rw [List.filterMap_cons, hf] at hb
  exact hb
theorem Inv.stkFree (I : Inv X pins σ H s) : ∀ b ∈ frs X.stack, H b = none := fun b hb => by
 rcases List.mem_cons.mp (I.stkSub b hb) with e | hb
 ·rw [e]; exact I.free
 ·obtain ⟨_, o, ho, _⟩ := I.ok.funs.mem hb
  exact I.base.free b o ho (I.ok.frf b hb) fun z => I.ok.exfs b z hb
theorem Inv.step {g' : Array GenState} {t' : Nat} {d' : Drawn} {ch : List Addr} (I : Inv X pins σ H s)
  (hch : ∀ b ∈ ch, (b ∈ X.ex ∨ X.s₀.heap.objs.size <= b) /\ b ≠ X.env.locals /\ (∀ x c, X.env.cells.lookup x = some c -> c ≠ b) /\ ∀ p ∈ X.pn ++ pins, p.1 ≠ b)
  (keep : ∀ b o, b ≠ X.env.locals -> b ∉ X.fs -> b ∉ ch -> s.heap.get? b = some o -> H b = none -> h'.get? b = some o)
  (slot : ∀ b o, b ≠ X.env.locals -> b ∈ X.fs -> b ∉ ch -> s.heap.get? b = some o -> H b = none -> ∃ sl, h'.get? b = some { o with slots := sl }) (free : ∀ b o, b ∉ ch -> s.heap.get? b = some o -> H b = none -> H' b = none)
  (there : ∀ b o, b ∉ ch -> s.heap.get? b = some o -> ∃ o', h'.get? b = some o')
  (tups : ∀ b xs, H b = some (.tup xs) -> H' b = some (.tup xs)) (frzs : ∀ b o u, H b = some (.frz o u) -> H' b = some (.frz o u)) (tbls : ∀ b ps, H b = some (.tbl ps) -> ∃ more, H' b = some (.tbl (ps ++ more)))
  (ns : ∀ m, s.heap.Ns X.env.locals m -> h'.Ns X.env.locals m) (hok : HOk X.prog X.w H' h') (hg : AllBare g') :
  Inv X pins σ H' { s with heap := h', gens := g', drawn := d', toks := t' } := by
 have neL : ∀ b o, X.s₀.heap.get? b = some o -> b ≠ X.env.locals := fun b o e => Nat.ne_of_lt (Nat.lt_of_lt_of_le (Heap.lt_size e) I.ok.above)
 have neC : ∀ b o, X.s₀.heap.get? b = some o -> b ∉ X.ex -> b ∉ ch := fun b o e hx hb => by
  rcases (hch b hb).1 with z | z
  ·exact hx z
  ·exact absurd (Nat.lt_of_lt_of_le (Heap.lt_size e) z) (Nat.lt_irrefl _)
 have cellK : ∀ x c, X.env.cells.lookup x = some c -> ∀ v, s.heap.IsCell c v -> h'.IsCell c v := fun x c e v ⟨o, ho, hd⟩ => by
  have nch : c ∉ ch := fun z => (hch c z).2.2.1 x c e rfl
  by_cases hc : c ∈ X.fs
  ·obtain ⟨sl, q⟩ := slot c o (I.cne x c e) hc nch ho (I.freeC x c e)
   exact ⟨_, q, hd⟩
  ·exact ⟨o, keep c o (I.cne x c e) hc nch ho (I.freeC x c e), hd⟩
 refine ⟨I.ok, I.os, hg, ⟨fun b o e n hb hx => ?_, fun b o e n hb hx => ?_, fun b o e n hx => ?_, fun b o e hx => ?_, fun b xs e => tups b xs (I.base.tups b xs e), fun b o xs e => frzs b o xs (I.base.frzs b o xs e), fun b ps e => ?_⟩, ?_, fun x c e => ?_, ?_, fun x c e => ?_, fun p hp => ?_, hok, I.len⟩
 ·exact keep b o (neL b o e) hb (neC b o e hx) (I.base.keep b o e n hb hx) (I.base.free b o e n hx)
 ·obtain ⟨sl, e1⟩ := I.base.slot b o e n hb hx
  obtain ⟨sl', e2⟩ := slot b _ (neL b o e) hb (neC b o e hx) e1 (I.base.free b o e n hx)
  exact ⟨sl', e2⟩
 ·obtain ⟨o', e1⟩ := I.base.there b o e hx
  exact free b o' (neC b o e hx) e1 (I.base.free b o e n hx)
 ·obtain ⟨o', e1⟩ := I.base.there b o e hx
  exact there b o' (neC b o e hx) e1
 ·obtain ⟨m1, e1⟩ := I.base.tbls b ps e
  obtain ⟨m2, e2⟩ := tbls b _ e1
  exact ⟨m1 ++ m2, by rw [e2, Array.append_assoc]⟩
 ·obtain ⟨m, hn, hl⟩ := I.loc
  refine ⟨m, ns m hn, fun i x v e1 e2 e3 => ?_⟩
  obtain ⟨u, r, l⟩ := hl i x v e1 e2 e3
  refine ⟨u, r, ?_⟩
  rcases l with l | ⟨k, c, e, z⟩
  ·exact .inl l
  ·exact .inr ⟨k, c, e, cellK x c e _ z⟩
 ·obtain ⟨v, z⟩ := I.cell x c e
  exact ⟨v, cellK x c e v z⟩
 ·obtain ⟨m, ⟨o, _, _, ho, _⟩, _⟩ := I.loc
  exact free _ o (fun z => (hch _ z).2.1 rfl) ho I.free
 ·obtain ⟨v, o, ho, hd⟩ := I.cell x c e
  exact free c o (fun z => (hch c z).2.2.1 x c e rfl) ho (I.freeC x c e)
 ·obtain ⟨e, n, ne, nf, d⟩ := I.pin p hp
  have nch : p.1 ∉ ch := fun z => (hch p.1 z).2.2.2 p hp rfl
  exact ⟨keep p.1 p.2 ne nf nch e n, free p.1 p.2 nch e n, ne, nf, d⟩
theorem Inv.un {t' : Nat} (I : Inv X pins σ H s) (u : Un X.fs [] H H' s.heap h') (hok : HOk X.prog X.w H' h') : Inv X pins σ H' { s with heap := h', toks := t' } := by
 obtain ⟨m, ⟨o, es, ep, ho, r⟩, _⟩ := id I.loc
 obtain ⟨sl, hL⟩ := u.any ho I.free (by simp)
 exact I.step (g' := s.gens) (d' := s.drawn) (ch := []) (fun _ z => nomatch z) (fun b o _ hb _ e n => u.keep b o e n hb (by simp)) (fun b o _ hb _ e n => u.slot b o e n hb (by simp)) (fun b o _ e n => u.free b o e n (by simp)) (fun b o _ e => u.there b o e (by simp)) u.tups u.frzs u.tbls (fun m' hm => by
  obtain ⟨o', es', ep', ho', r'⟩ := hm
  rw [ho] at ho'; cases ho'
  exact ⟨_, es', ep', hL, r'⟩) hok I.bare
theorem Inv.call {g' : Array GenState} {t' : Nat} {d' : Drawn} {ch : List Addr} (I : Inv X pins σ H s) (u : Un (frs X.stack) ch H H' s.heap h') (hok : HOk X.prog X.w H' h') (hg : AllBare g')
  (hch : ∀ b ∈ ch, (b ∈ X.ex ∨ X.s₀.heap.objs.size <= b) /\ b ≠ X.env.locals /\ (∀ x c, X.env.cells.lookup x = some c -> c ≠ b) /\ ∀ p ∈ X.pn ++ pins, p.1 ≠ b) :
  Inv X pins σ H' { s with heap := h', gens := g', drawn := d', toks := t' } := by
 obtain ⟨m, ⟨o, es, ep, ho, r⟩, _⟩ := id I.loc
 obtain ⟨sl, hL⟩ := u.any ho I.free fun z => (hch _ z).2.1 rfl
 exact I.step (ch := ch) hch (fun b o hL hb hc e n => u.keep b o e n (fun z => (List.mem_cons.mp (I.stkSub b z)).elim hL hb) hc) (fun b o _ _ hc e n => u.any e n hc) (fun b o hc e n => u.free b o e n hc) (fun b o hc e => u.there b o e hc) u.tups u.frzs u.tbls (fun m' hm => by
  obtain ⟨o', es', ep', ho', r'⟩ := hm
  rw [ho] at ho'; cases ho'
  exact ⟨_, es', ep', hL, r'⟩) hok hg
theorem Inv.turned {t' : Nat} {it : Addr} (I : Inv X pins σ H s) (k : ∀ b o, b ≠ it -> s.heap.get? b = some o -> h'.get? b = some o) (hn : H it = none) (hL : it ≠ X.env.locals)
  (h1 : it ∈ X.ex ∨ X.s₀.heap.objs.size <= it) (h2 : ∀ x c, X.env.cells.lookup x = some c -> c ≠ it) (h3 : ∀ p ∈ X.pn ++ pins, p.1 ≠ it) : Inv X pins σ H { s with heap := h', toks := t' } := by
 have nit : ∀ b u, H b = some u -> b ≠ it := fun b u e z => by rw [z, hn] at e; cases e
 refine I.step (g' := s.gens) (d' := s.drawn) (ch := [it]) (fun b hb => ?_) (fun b o _ _ hc e _ => k b o (fun z => hc (by simp [z])) e) (fun b o _ _ hc e _ => ⟨o.slots, k b o (fun z => hc (by simp [z])) e⟩) (fun _ _ _ _ n => n)
  (fun b o hc e => ⟨o, k b o (fun z => hc (by simp [z])) e⟩) (fun _ _ e => e) (fun _ _ _ e => e) (fun b ps e => ⟨#[], by rw [e]; simp⟩) (fun m hm => ?_) (fun b u e => ?_) I.bare
 ·have e : b = it := by simpa using hb
  subst e
  exact ⟨h1, hL, h2, h3⟩
 ·obtain ⟨o, es, ep, ho, r⟩ := hm
  exact ⟨o, es, ep, k _ o (Ne.symm hL) ho, r⟩
 ·refine (I.hok b u e).stay (fun c v hc q => k c v ?_ q) (fun _ q => q) fun _ _ q => q
  rcases hc with z | z
  ·rw [z]; exact nit b u e
  ·exact nit c _ z
theorem Inv.tok (I : Inv X pins σ H s) (t : Nat) : Inv X pins σ H { s with toks := t } := I.un (h' := s.heap) (t' := t) Un.refl I.hok
theorem Inv.kept {t' : Nat} (I : Inv X pins σ H s) (k : ∀ b u, s.heap.get? b = some u -> h'.get? b = some u) : Inv X pins σ H { s with heap := h', toks := t' } := I.un (Un.kept k) (I.hok.kept k)
theorem Inv.laid {a : Addr} {o : HO} {t' : Nat} (I : Inv X pins σ H s) (k : ∀ b u, s.heap.get? b = some u -> h'.get? b = some u) (hp : s.heap.objs.size <= a) (new : ObjOk X.prog X.w (upd H a o) h' a o) :
  Inv X pins σ (upd H a o) { s with heap := h', toks := t' } := I.un (Un.laid k hp (I.hok.fresh hp)) (I.hok.laid k hp new)
theorem Inv.write {x e : Addr} {o : HO} {t' : Nat} (I : Inv X pins σ H s) (mu : Mut (H x)) (he : e = x ∨ H e = some (.own x)) (k : ∀ b u, b ≠ e -> s.heap.get? b = some u -> h'.get? b = some u) (heo : ∃ u, h'.get? e = some u)
  (new : ObjOk X.prog X.w (upd H x o) h' x o) : Inv X pins σ (upd H x o) { s with heap := h', toks := t' } := I.un (Un.write mu he k heo) (I.hok.write mu he k heo new)
theorem Inv.pins_of {pins' : List (Addr × Obj)} (I : Inv X pins σ H s) (h : ∀ p ∈ pins', s.heap.get? p.1 = some p.2 /\ H p.1 = none /\ p.1 ≠ X.env.locals /\ p.1 ∉ X.fs /\ ∀ v, p.2.data ≠ .cell v) : Inv X pins' σ H s :=
 ⟨I.ok, I.os, I.bare, I.base, I.loc, I.cell, I.free, I.freeC, fun p hp => (List.mem_append.mp hp).elim (fun z => I.pin p (List.mem_append_left _ z)) (h p), I.hok, I.len⟩
theorem DY {N : List Str} (hN : N.Nodup) {i j : Nat} {x : Str} (a : N[i]? = some x) (b : N[j]? = some x) : i = j := by
 obtain ⟨h1, e1⟩ := List.getElem?_eq_some_iff.mp a
 obtain ⟨h2, e2⟩ := List.getElem?_eq_some_iff.mp b
 exact (List.getElem_inj hN).mp (e1.trans e2.symm)
theorem yR {M : Model} {A : Around} {E : Value -> Shared -> Prop} {i : Nat} {x : Str} {v : V} {u : Value} {Q : Unit -> Shared -> Prop} (I : Inv X pins σ H s) (hN : X.N.Nodup) (hi : X.N[i]? = some x) (hx : Loc X.env.scope x) (r : RelV v u)
  (h : ∀ s', Inv X pins (σ.set i (some v)) H s' -> (∃ a, Heap.SameBut a s.heap s'.heap /\ (a = X.env.locals ∨ X.env.cells.lookup x = some a)) -> Q () s') (hf : X.fn x = true ∨ X.env.scope.names.lookup x = some .local := by first | exact .inl rfl | exact .inr rfl | assumption) : wpAny M A (storeName X.env x u) Q E s := by
 obtain ⟨m, hn, hl⟩ := id I.loc
 have hcls : (X.env.scope.kind == .class || (X.env.scope.kind == .module && X.env.locals != X.env.globals)) = false := by rw [I.ok.kind]; rfl
 have hiσ : i < σ.length := by rw [I.len]; exact (List.getElem?_eq_some_iff.mp hi).1
 have cne := I.cne
 have tracked : ∀ {a : Addr} {h' : Heap}, (∃ o, s.heap.get? a = some o /\ H a = none) -> Heap.SameBut a s.heap h' -> HOk X.prog X.w H h' := fun {a h'} ha hs b ob e => by
  obtain ⟨_, _, hfree⟩ := ha
  refine (I.hok b ob e).stay (fun c w' hc q => (hs.2 c ?_).trans q) (fun _ q => q) fun _ _ q => q
  rintro rfl
  rcases hc with rfl | hc
  ·rw [hfree] at e; cases e
  ·rw [hfree] at hc; cases hc
 rcases hx with hk | hk
 ·refine wpAny_storeName_local hk hn (fun h' hn' hs => ?_) hcls
  obtain ⟨oL, _, _, hoL, _⟩ := id hn
  refine h _ ⟨I.ok, I.os, I.bare, ⟨fun b o e n hb hx => ?_, fun b o e n hb hx => ?_, I.base.free, fun b o e hx => ?_, I.base.tups, I.base.frzs, I.base.tbls⟩, ⟨_, hn', fun j y v' e1 e2 e3 => ?_⟩, fun y c e => ?_, I.free, I.freeC, fun p hp => ?_, tracked ⟨oL, hoL, I.free⟩ hs, by simpa using I.len⟩ ⟨_, hs, .inl rfl⟩
  ·exact (hs.2 b (Nat.ne_of_lt (Nat.lt_of_lt_of_le (Heap.lt_size e) I.ok.above))).trans (I.base.keep b o e n hb hx)
  ·obtain ⟨sl, e1⟩ := I.base.slot b o e n hb hx
   exact ⟨sl, (hs.2 b (Nat.ne_of_lt (Nat.lt_of_lt_of_le (Heap.lt_size e) I.ok.above))).trans e1⟩
  ·obtain ⟨o', e1⟩ := I.base.there b o e hx
   exact ⟨o', (hs.2 b (Nat.ne_of_lt (Nat.lt_of_lt_of_le (Heap.lt_size e) I.ok.above))).trans e1⟩
  ·by_cases hj : j = i
   ·subst hj
    rw [hi] at e1; cases e1
    rw [List.getElem?_set_self hiσ] at e2
    cases e2
    exact ⟨u, r, .inl ⟨hk, by simp⟩⟩
   ·rw [List.getElem?_set_ne (Ne.symm hj)] at e2
    obtain ⟨u', r', q⟩ := hl j y v' e1 e2 e3
    refine ⟨u', r', ?_⟩
    rcases q with ⟨k, e⟩ | ⟨k, c, e, z⟩
    ·refine .inl ⟨k, ?_⟩
     have : y ≠ x := fun e => hj (DY hN e1 (e ▸ hi))
     simp [this, e]
    ·exact .inr ⟨k, c, e, z.sameBut hs (cne y c e)⟩
  ·obtain ⟨w', z⟩ := I.cell y c e
   exact ⟨w', z.sameBut hs (cne y c e)⟩
  ·obtain ⟨e, n, ne, nf, d⟩ := I.pin p hp
   exact ⟨(hs.2 p.1 ne).trans e, n, ne, nf, d⟩
 ·have hfn : X.fn x = true := by
   rcases hf with z | z
   ·exact z
   ·rw [z] at hk; cases hk
  obtain ⟨c, hc⟩ := I.ok.has x (.inl hk)
  obtain ⟨w', z⟩ := I.cell x c hc
  refine wpAny_storeName_cell I.ok.kind hk hc z (fun h' hc' hs => ?_)
  obtain ⟨oc, hoc, hocd⟩ := id z
  refine h { s with heap := h' } ⟨I.ok, I.os, I.bare, ⟨fun b o e n hb hx => ?_, fun b o e n hb hx => ?_, I.base.free, fun b o e hx => ?_, I.base.tups, I.base.frzs, I.base.tbls⟩, ⟨m, hn.sameBut hs (Ne.symm (cne x c hc)), fun j y v' e1 e2 e3 => ?_⟩, fun y c' e => ?_, I.free, I.freeC, fun p hp => ?_, tracked ⟨oc, hoc, I.freeC x c hc⟩ hs, by simpa using I.len⟩ ⟨c, hs, .inr hc⟩
  ·exact (hs.2 b (Nat.ne_of_lt (Nat.lt_of_lt_of_le (Heap.lt_size e) (I.ok.cab x c hfn hc)))).trans (I.base.keep b o e n hb hx)
  ·obtain ⟨sl, e1⟩ := I.base.slot b o e n hb hx
   exact ⟨sl, (hs.2 b (Nat.ne_of_lt (Nat.lt_of_lt_of_le (Heap.lt_size e) (I.ok.cab x c hfn hc)))).trans e1⟩
  ·obtain ⟨o', e1⟩ := I.base.there b o e hx
   exact ⟨o', (hs.2 b (Nat.ne_of_lt (Nat.lt_of_lt_of_le (Heap.lt_size e) (I.ok.cab x c hfn hc)))).trans e1⟩
  ·by_cases hj : j = i
   ·subst hj
    rw [hi] at e1; cases e1
    rw [List.getElem?_set_self hiσ] at e2
    cases e2
    exact ⟨u, r, .inr ⟨.inl hk, c, hc, hc'⟩⟩
   ·rw [List.getElem?_set_ne (Ne.symm hj)] at e2
    obtain ⟨u', r', q⟩ := hl j y v' e1 e2 e3
    refine ⟨u', r', ?_⟩
    rcases q with q | ⟨k, c', e, z'⟩
    ·exact .inl q
    ·refine .inr ⟨k, c', e, z'.sameBut hs ?_⟩
     rintro rfl
     exact hj (DY hN e1 (I.ok.inj _ _ _ e hc ▸ hi))
  ·by_cases hcc : c' = c
   ·subst hcc; exact ⟨_, hc'⟩
   ·obtain ⟨w2, z2⟩ := I.cell y c' e
    exact ⟨w2, z2.sameBut hs hcc⟩
  ·obtain ⟨e, n, ne, nf, d⟩ := I.pin p hp
   refine ⟨(hs.2 p.1 ?_).trans e, n, ne, nf, d⟩
   intro q
   rw [q, hoc] at e
   have q' : oc = p.2 := Option.some.inj e
   exact d w' (by rw [← q']; exact hocd)
theorem Do {M : Model} {A : Around} {E : Value -> Shared -> Prop} {i : Nat} {x : Str} {v : V} {u : Value} {Q : Unit -> Shared -> Prop} (I : Inv X pins σ H s) (hN : X.N.Nodup) (hi : X.N[i]? = some x) (hx : Loc X.env.scope x) (r : RelV v u)
  (h : ∀ s', Inv X pins (σ.set i (some v)) H s' -> Q () s') (hf : X.fn x = true ∨ X.env.scope.names.lookup x = some .local := by first | exact .inl rfl | exact .inr rfl | assumption) : wpAny M A (storeName X.env x u) Q E s :=
 yR I hN hi hx r (fun s' I' _ => h s' I') hf
theorem Inv.call' {s' : Shared} {ch : List Addr} (I : Inv X pins σ H s) (ho : s'.os = s.os) (u : Un (frs X.stack) ch H H' s.heap s'.heap) (hok : HOk X.prog X.w H' s'.heap) (hg : AllBare s'.gens)
  (hch : ∀ b ∈ ch, (b ∈ X.ex ∨ X.s₀.heap.objs.size <= b) /\ b ≠ X.env.locals /\ (∀ x c, X.env.cells.lookup x = some c -> c ≠ b) /\ ∀ p ∈ X.pn ++ pins, p.1 ≠ b) : Inv X pins σ H' s' := by
 obtain ⟨h', g', d', t', o'⟩ := s'
 have e : o' = s.os := ho
 subst e
 exact I.call (g' := g') (t' := t') (d' := d') u hok hg hch
end
abbrev XK := Value -> Option Addr -> Hp -> Prop
abbrev St := List (Option V)
abbrev VK := V -> Hp -> Prop
abbrev TE := St -> Hp -> VK -> Prop
abbrev TT := St -> Hp -> (Bool -> Hp -> Prop) -> Prop
abbrev TA := St -> Hp -> (List V -> Hp -> Prop) -> Prop
structure Ends where
 nx : St -> Hp -> Prop
 rt : VK
 bk : St -> Hp -> Prop := fun _ _ => False
 ct : St -> Hp -> Prop := fun _ _ => False
abbrev TS := Ends -> St -> Hp -> Prop
def EP (X : Cx) (pins : List (Addr × Obj)) (σ : St) (Q : VK) (u : Value) (s' : Shared) : Prop := ∃ v H', Inv X pins σ H' s' /\ RelV v u /\ Q v H'
def TP (X : Cx) (pins : List (Addr × Obj)) (σ : St) (Q : Bool -> Hp -> Prop) (b : Bool) (s' : Shared) : Prop := ∃ H', Inv X pins σ H' s' /\ Q b H'
def AP (X : Cx) (pins : List (Addr × Obj)) (σ : St) (Q : List V -> Hp -> Prop) (us : List Value) (s' : Shared) : Prop := ∃ vs H', Inv X pins σ H' s' /\ Vals vs us /\ Q vs H'
def SP (X : Cx) (pins : List (Addr × Obj)) (D : Ends) (f : Flow) (s' : Shared) : Prop :=
 match f with
 | .next => ∃ σ' H', Inv X pins σ' H' s' /\ D.nx σ' H'
 | .brk => ∃ σ' H', Inv X pins σ' H' s' /\ D.bk σ' H'
 | .cont => ∃ σ' H', Inv X pins σ' H' s' /\ D.ct σ' H'
 | .ret u => ∃ v σ' H', Inv X pins σ' H' s' /\ RelV v u /\ D.rt v H'
def PE (X : Cx) (e : Expr) (t : TE) : Prop :=
 ∀ (pins : List (Addr × Obj)) (s : Shared) (σ : St) (H : Hp) (Q : VK), Inv X pins σ H s -> t σ H Q -> wpAny (model X.prog X.w) X.A (eval e X.env) (EP X pins σ Q) X.xe s
def PT (X : Cx) (e : Expr) (t : TT) : Prop :=
 ∀ (pins : List (Addr × Obj)) (s : Shared) (σ : St) (H : Hp) (Q : Bool -> Hp -> Prop), Inv X pins σ H s -> t σ H Q -> wpAny (model X.prog X.w) X.A (isTrue e X.env (eval e X.env)) (TP X pins σ Q) X.xe s
def PW (X : Cx) (e : Expr) (t : TT) : Prop :=
 ∀ (whole : Sem Value) (pins : List (Addr × Obj)) (s : Shared) (σ : St) (H : Hp) (Q : Bool -> Hp -> Prop), Inv X pins σ H s -> t σ H Q -> wpAny (model X.prog X.w) X.A (isTrue e X.env whole) (TP X pins σ Q) X.xe s
theorem PW.pt {X : Cx} {e : Expr} {t : TT} (h : PW X e t) : PT X e t := h _
def PA (X : Cx) (es : List Expr) (t : TA) : Prop :=
 ∀ (pos : Pos) (pins : List (Addr × Obj)) (s : Shared) (σ : St) (H : Hp) (Q : List V -> Hp -> Prop), Inv X pins σ H s -> t σ H Q -> wpAny (model X.prog X.w) X.A (spliced (backTo pos (starEach es X.env))) (AP X pins σ Q) X.xe s
def PS (X : Cx) (st : Stmt) (t : TS) : Prop :=
 ∀ (pins : List (Addr × Obj)) (s : Shared) (σ : St) (H : Hp) (D : Ends), Inv X pins σ H s -> t D σ H -> wpAny (model X.prog X.w) X.A (exec st X.env) (SP X pins D) X.xe s
def PSs (X : Cx) (st : List Stmt) (t : TS) : Prop :=
 ∀ (pins : List (Addr × Obj)) (s : Shared) (σ : St) (H : Hp) (D : Ends), Inv X pins σ H s -> t D σ H -> wpAny (model X.prog X.w) X.A (execs st X.env) (SP X pins D) X.xe s
theorem thn {α : Type} {t : Sem α} {Q Q' : α -> Shared -> Prop} {M : Model} {A : Around} {E : Value -> Shared -> Prop} {s : Shared} (h : wpAny M A t Q E s) (hQ : ∀ a s, Q a s -> Q' a s) : wpAny M A t Q' E s := wpAny_mono h hQ fun _ _ x => x
end L2
namespace L2
open PySem PySem.Spec PyProof.Rows
section
variable {X : Cx}
theorem bin {a b : Expr} {ta tb : TE} (ha : PE X a ta) (hb : PE X b tb) {pins : List (Addr × Obj)} {s : Shared} {σ : St} {H : Hp} {R : V -> V -> Hp -> Prop} (I : Inv X pins σ H s) (h : ta σ H fun x H1 => tb σ H1 fun y H2 => R x y H2)
  {α : Type} {Q : α -> Shared -> Prop} {f : Value -> Value -> Sem α}
  (hf : ∀ v u s2 x y H2, Inv X pins σ H2 s2 -> RelV x v -> RelV y u -> R x y H2 -> wpAny (model X.prog X.w) X.A (f v u) Q X.xe s2) :
  wpAny (model X.prog X.w) X.A (eval a X.env) (fun v s₁ => wpAny (model X.prog X.w) X.A (eval b X.env) (fun u s₂ => wpAny (model X.prog X.w) X.A (f v u) Q X.xe s₂) X.xe s₁) X.xe s := by
 refine thn (ha pins s σ H _ I h) fun v s1 ⟨x, H1, I1, r1, q1⟩ => ?_
 refine thn (hb pins s1 σ H1 _ I1 q1) fun u s2 ⟨y, H2, I2, r2, q2⟩ => ?_
 exact hf v u s2 x y H2 I2 r1 r2 q2
def JF (i : Nat) : TE := fun σ H Q => ∃ v, σ[i]? = some (some v) /\ Q v H
def tC (v : V) : TE := fun _ H Q => Q v H
theorem Tv {i : Nat} {x : Str} {pos : Pos} (hN : X.N[i]? = some x) (hv : Vis X.env.scope x) (hd : (x == ("__debug__" : Str)) = false := by decide) (hcd : (x == ("__classdict__" : Str)) = false := by decide) : PE X (.Name x pos) (JF i) := by
 intro pins s σ H Q I h
 obtain ⟨v, e, h⟩ := h
 obtain ⟨m, hn, hl⟩ := I.loc
 obtain ⟨u, r, l⟩ := hl i x v hN e hv
 have fin : EP X pins σ Q u s := ⟨v, H, I, r, h⟩
 rcases l with ⟨hk, hm⟩ | ⟨hk, c, hc, hcell⟩
 ·exact wpAny_Name (wpAny_loadName_local I.ok.kind hk hn hm fin) hd
 ·rcases hk with hk | hk
  ·exact wpAny_Name (wpAny_loadName_cell I.ok.kind hk hc hcell fin) hd
  ·exact wpAny_Name (wpAny_loadName_free I.ok.kind hk hc hcell fin hcd) hd
theorem aA {i j pos} : PE X (.Constant (.int i) j pos) (tC (.int i)) := fun _ _ _ H _ I h => wpAny_Constant_int ⟨.int i, H, I.tok _, ⟨_, rfl⟩, h⟩
theorem DX {b j pos} : PE X (.Constant (.bool b) j pos) (tC (.bl b)) := fun _ _ _ H _ I h => Constant_bool ⟨.bl b, H, I, rfl, h⟩
theorem uB {j pos} : PE X (.Constant .none j pos) (tC .non) := fun _ _ _ H _ I h => Constant_none ⟨.non, H, I, rfl, h⟩
theorem lO {x j pos} : PE X (.Constant (.str x) j pos) (tC (.str x)) := fun _ _ _ H _ I h => Calls.Constant_str ⟨.str x, H, I.tok _, ⟨_, rfl⟩, h⟩
def Gl (X : Cx) (x : Str) : Prop := X.env.kindOf x = some .globalImplicit
theorem uq {E : Value -> Shared -> Prop} {pins : List (Addr × Obj)} {s : Shared} {σ : St} {H : Hp} {x : Str} {u : Value} {pos : Pos} {Q : Value -> Shared -> Prop} (I : Inv X pins σ H s) (hg : Gl X x) (hm : X.mg x = some u) (h : Q u s)
  (hd : (x == ("__debug__" : Str)) = false := by decide) : wpAny (model X.prog X.w) X.A (eval (.Name x pos) X.env) Q E s :=
 Calls.Name_function_global I.ok.kind hg (Calls.loadGlobal_global (by rw [I.ok.glob]; exact I.mod.glob.keeps I.bk) hm h) hd
theorem o9 {E : Value -> Shared -> Prop} {pins : List (Addr × Obj)} {s : Shared} {σ : St} {H : Hp} {x : Str} {u : Value} {pos : Pos} {Q : Value -> Shared -> Prop} (I : Inv X pins σ H s) (hg : Gl X x) (hm : X.mg x = none) (hv : bootBuiltins x = some u) (h : Q u s)
  (hn : x ≠ "__name__" := by decide) (hd : (x == ("__debug__" : Str)) = false := by decide) : wpAny (model X.prog X.w) X.A (eval (.Name x pos) X.env) Q E s := by
 obtain ⟨mb, h1, h2⟩ := I.mod.blt
 exact Calls.Name_function_global I.ok.kind hg (Calls.loadGlobal_builtin (by rw [I.ok.glob]; exact I.mod.glob.keeps I.bk) hm (by rw [I.ok.blt]; exact h1.keeps I.bk) ((h2 x hn).trans hv) h) hd
theorem Il {x : Str} {v : V} {u : Value} {pos : Pos} (hg : Gl X x) (hm : X.mg x = some u) (r : RelV v u) (hd : (x == ("__debug__" : Str)) = false := by decide) : PE X (.Name x pos) (tC v) :=
 fun _ _ _ H _ I h => uq I hg hm ⟨v, H, I, r, h⟩ hd
theorem P0 {x : Str} {v : V} {u : Value} {pos : Pos} (hg : Gl X x) (hm : X.mg x = none) (hv : bootBuiltins x = some u) (r : RelV v u) (hn : x ≠ "__name__" := by decide) (hd : (x == ("__debug__" : Str)) = false := by decide) : PE X (.Name x pos) (tC v) :=
 fun _ _ _ H _ I h => o9 I hg hm hv ⟨v, H, I, r, h⟩ hn hd
variable {a b : Expr} {ta tb : TE} {pos : Pos}
def PC (X : Cx) (op : CmpOp) (a b : Expr) (t : TE) : Prop :=
 ∀ (pins : List (Addr × Obj)) (s : Shared) (σ : St) (H : Hp) (Q : VK), Inv X pins σ H s -> t σ H Q ->
  wpAny (model X.prog X.w) X.A (eval a X.env) (fun v s₁ => wpAny (model X.prog X.w) X.A (eval b X.env) (fun u s₂ => wpAny (model X.prog X.w) X.A (compareOp op v u) (EP X pins σ Q) X.xe s₂) X.xe s₁) X.xe s
def tB (t : TE) : TT := fun σ H Q => t σ H fun x H1 => ∃ c, x = .bl c /\ Q c H1
theorem Tn {op : CmpOp} {t : TE} (h : PC X op a b t) (h1 : behindInMarks op b = false := by first | exact nobehind _ (by decide) (by decide) | rfl) : PT X (.Compare a [op] [b] pos) (tB t) := by
 intro pins s σ H Q I hw
 refine wpAny_isTrue_Compare1 (thn (h pins s σ H _ I hw) fun v s1 h1 => thn h1 fun u s2 h2 => thn h2 fun c s3 ⟨x, H1, I1, r1, q1⟩ => ?_) h1
 obtain ⟨d, rfl, q⟩ := q1
 cases r1
 exact wpAny_truthy_bool ⟨H1, I1, q⟩
theorem M9 {e : Expr} {t : TE} (h : PE X e t) (he : ∀ whole, isTrue e X.env whole = (do let v ← whole; standAt e.pos; holding [v] (truthy v)) := by intro _; rfl) : PT X e (tB t) := by
 intro pins s σ H Q I hw
 refine isTrue_plain (thn (h pins s σ H _ I hw) fun v s1 ⟨x, H1, I1, r1, q1⟩ => ?_) (he _)
 obtain ⟨d, rfl, q⟩ := q1
 cases r1
 exact wpAny_truthy_bool ⟨H1, I1, q⟩
variable {tA tB' : TT} {rest : List Expr}
def Wl (t u : TT) : TT := fun σ H Q => t σ H fun c H1 => if c = true then u σ H1 Q else Q false H1
def tOr (t u : TT) : TT := fun σ H Q => t σ H fun c H1 => if c = true then Q true H1 else u σ H1 Q
def Vv (t : TT) : TT := fun σ H Q => t σ H fun c H1 => Q (!c) H1
theorem tX (ha : PT X a tA) : PW X (.BoolOp .And [a] pos) tA := by
 intro wh pins s σ H Q I h
 refine isTrue_and (thn (ha pins s σ H Q I h) fun c s1 e => ?_)
 cases c with
 | true => exact isTrue_and_nil e
 | false => exact e
theorem zP (ha : PT X a tA) : PW X (.BoolOp .Or [a] pos) tA := by
 intro wh pins s σ H Q I h
 refine isTrue_or (thn (ha pins s σ H Q I h) fun c s1 e => ?_)
 cases c with
 | false => exact isTrue_or_nil e
 | true => exact e
theorem xP (ha : PT X a tA) (hb : PW X (.BoolOp .And (b :: rest) pos) tB') : PW X (.BoolOp .And (a :: b :: rest) pos) (Wl tA tB') := by
 intro wh pins s σ H Q I h
 refine isTrue_and (thn (ha pins s σ H _ I h) fun c s1 ⟨H1, I1, q1⟩ => ?_)
 cases c with
 | true => exact hb wh pins s1 σ H1 Q I1 q1
 | false => exact ⟨H1, I1, q1⟩
theorem yu (ha : PT X a tA) (hb : PW X (.BoolOp .Or (b :: rest) pos) tB') : PW X (.BoolOp .Or (a :: b :: rest) pos) (tOr tA tB') := by
 intro wh pins s σ H Q I h
 refine isTrue_or (thn (ha pins s σ H _ I h) fun c s1 ⟨H1, I1, q1⟩ => ?_)
 cases c with
 | true => exact ⟨H1, I1, q1⟩
 | false => exact hb wh pins s1 σ H1 Q I1 q1
theorem pq (ha : PT X a tA) : PT X (.UnaryOp .Not a pos) (Vv tA) := by
 intro pins s σ H Q I h
 exact isTrue_not (ha pins s σ H (fun c H1 => Q (!c) H1) I h)
def QJ (ta tb : TE) : TE := fun σ H Q => ta σ H fun x H1 => ∃ c, x = .bl c /\ if c = true then tb σ H1 Q else Q (.bl false) H1
def Vh (ta tb : TE) : TE := fun σ H Q => ta σ H fun x H1 => ∃ c, x = .bl c /\ if c = true then Q (.bl true) H1 else tb σ H1 Q
def Q3 (ta : TE) : TE := fun σ H Q => ta σ H fun x H1 => ∃ c, x = .bl c /\ Q (.bl (!c)) H1
theorem uM {op} {t : TE} (h : PE X a t) : PE X (.BoolOp op [a] pos) t := fun pins s σ H Q I hw => BoolOp_one (h pins s σ H Q I hw)
theorem wW (ha : PE X a ta) (hb : PE X (.BoolOp .And (b :: rest) pos) tb) : PE X (.BoolOp .And (a :: b :: rest) pos) (QJ ta tb) := by
 intro pins s σ H Q I h
 refine BoolOp_and (thn (ha pins s σ H _ I h) fun v s1 ⟨x, H1, I1, r1, q1⟩ => ?_)
 obtain ⟨c, rfl, q1⟩ := q1
 cases r1
 refine wpAny_truthy_bool ?_
 cases c with
 | true => exact hb pins s1 σ H1 Q I1 q1
 | false => exact ⟨.bl false, H1, I1, rfl, q1⟩
theorem Wb (ha : PE X a ta) (hb : PE X (.BoolOp .Or (b :: rest) pos) tb) : PE X (.BoolOp .Or (a :: b :: rest) pos) (Vh ta tb) := by
 intro pins s σ H Q I h
 refine BoolOp_or (thn (ha pins s σ H _ I h) fun v s1 ⟨x, H1, I1, r1, q1⟩ => ?_)
 obtain ⟨c, rfl, q1⟩ := q1
 cases r1
 refine wpAny_truthy_bool ?_
 cases c with
 | false => exact hb pins s1 σ H1 Q I1 q1
 | true => exact ⟨.bl true, H1, I1, rfl, q1⟩
theorem Gn (ha : PE X a ta) : PE X (.UnaryOp .Not a pos) (Q3 ta) := by
 intro pins s σ H Q I h
 refine UnaryOp_ (thn (ha pins s σ H _ I h) fun v s1 ⟨x, H1, I1, r1, q1⟩ => ?_)
 obtain ⟨c, rfl, q1⟩ := q1
 cases r1
 exact not_of (wpAny_truthy_bool ⟨.bl (!c), H1, I1, rfl, q1⟩)
def tIf (t : TT) (ta tb : TE) : TE := fun σ H Q => t σ H fun c H1 => if c = true then ta σ H1 Q else tb σ H1 Q
theorem BK {c : Expr} (hc : PT X c tA) (ha : PE X a ta) (hb : PE X b tb) : PE X (.IfExp c a b pos) (tIf tA ta tb) := by
 intro pins s σ H Q I h
 refine wpAny_IfExp (thn (hc pins s σ H _ I h) fun d s1 ⟨H1, I1, q1⟩ => ?_)
 cases d with
 | true => exact ha pins s1 σ H1 Q I1 q1
 | false => exact hb pins s1 σ H1 Q I1 q1
end
end L2
namespace L2
open PySem PySem.Spec PyProof.Rows
def SqL (K : PySem.W.Frag) (H : Hp) (a : Addr) (xs : List V) : Prop :=
 Rd H a (.lst xs) ∨
  ∃ (o : Obj) (its : Array Value) (n : Nat), K.lookup a = some o /\ o.cls = .type "list" /\ o.dict = none /\ o.data = .seq its n /\ its.size <= sizeLine /\ Vals xs its.toList
def SqT (K : PySem.W.Frag) (H : Hp) (a : Addr) (xs : List V) : Prop :=
 Rd H a (.tup xs) ∨
  ∃ (o : Obj) (its : Array Value) (n : Nat), K.lookup a = some o /\ o.cls = .type "tuple" /\ o.data = .seq its n /\ its.size <= sizeLine /\ Vals xs its.toList
def WX : Value -> Option V
 | .none => some .non
 | .bool b => some (.bl b)
 | .int i _ => some (.int i)
 | .str x _ => some (.str x)
 | .bytes b _ => some (.byt b)
 | .float b _ => some (.flt b)
 | .ref a => some (.ref a)
 | .type n => some (.ty n)
 | _ => none
theorem RelV.abs {x : V} {u : Value} (r : RelV x u) : WX u = some x := by
 cases x with
 | non => cases r; rfl
 | bl _ => cases r; rfl
 | int _ => obtain ⟨t, rfl⟩ := r; rfl
 | str _ => obtain ⟨t, rfl⟩ := r; rfl
 | byt _ => obtain ⟨t, rfl⟩ := r; rfl
 | flt _ => obtain ⟨t, rfl⟩ := r; rfl
 | ref _ => cases r; rfl
 | ty _ => cases r; rfl
theorem RelV.inj {x y : V} {u : Value} (r : RelV x u) (q : RelV y u) : x = y := Option.some.inj (r.abs.symm.trans q.abs)
theorem Vals.inj : ∀ {xs ys : List V} {us : List Value}, Vals xs us -> Vals ys us -> xs = ys
 | _, _, _, .nil, .nil => rfl
 | _, _, _, .cons r t, .cons r' t' => by rw [r.inj r', Vals.inj t t']
section
variable {X : Cx} {pins : List (Addr × Obj)} {σ : St} {H : Hp} {s : Shared} {a : Addr} {xs ys : List V}
theorem SqL.of {K : PySem.W.Frag} (h : H a = some (.lst xs)) : SqL K H a xs := .inl (.inl h)
theorem SqT.of {K : PySem.W.Frag} (h : H a = some (.tup xs)) : SqT K H a xs := .inl (.inl h)
theorem Inv.list (I : Inv X pins σ H s) (h : SqL X.K H a xs) : ∃ its : List Value, Vals xs its /\ PlainL s.heap a its.toArray /\ xs.length <= sizeLine := by
 rcases h with h | ⟨o, its, n, hk, hc, hd, hs, hz, r⟩
 ·obtain ⟨z, its, n, r, e⟩ := h.ok I.hok
  exact ⟨its, r, ⟨_, n, e, rfl, rfl, rfl⟩, z⟩
 ·refine ⟨its.toList, r, ⟨o, n, I.kIn a o hk, hc, hd, by simpa using hs⟩, ?_⟩
  have e := r.length
  simp only [Array.length_toList] at e
  omega
theorem Inv.tuple (I : Inv X pins σ H s) (h : SqT X.K H a xs) : ∃ its : List Value, Vals xs its /\ IsTup s.heap a its.toArray /\ xs.length <= sizeLine := by
 rcases h with h | ⟨o, its, n, hk, hc, hs, hz, r⟩
 ·obtain ⟨z, its, r, p⟩ := h.ok I.hok
  exact ⟨its, r, p.tup, z⟩
 ·refine ⟨its.toList, r, ⟨o, I.kIn a o hk, hc, n, by simpa using hs⟩, ?_⟩
  have e := r.length
  simp only [Array.length_toList] at e
  omega
theorem Inv.list_inj (I : Inv X pins σ H s) (h : SqL X.K H a xs) (h' : SqL X.K H a ys) : xs = ys := by
 obtain ⟨its, r, ⟨o, n, e, _, _, d⟩, _⟩ := I.list h
 obtain ⟨its', r', ⟨o', n', e', _, _, d'⟩, _⟩ := I.list h'
 rw [e] at e'; cases e'
 rw [d] at d'
 injection d' with d1 _
 have : its = its' := by simpa using congrArg Array.toList d1
 subst this
 exact r.inj r'
theorem Inv.tuple_inj (I : Inv X pins σ H s) (h : SqT X.K H a xs) (h' : SqT X.K H a ys) : xs = ys := by
 obtain ⟨its, r, ⟨o, e, _, n, d⟩, _⟩ := I.tuple h
 obtain ⟨its', r', ⟨o', e', _, n', d'⟩, _⟩ := I.tuple h'
 rw [e] at e'; cases e'
 rw [d] at d'
 injection d' with d1 _
 have : its = its' := by simpa using congrArg Array.toList d1
 subst this
 exact r.inj r'
end
abbrev Cx.wish (X : Cx) (E : Value -> Shared -> Prop) : Cx := { X with xe := E }
abbrev Cx.nox (X : Cx) : Cx := X.wish fun _ _ => False
theorem Cx.Ok.wish {X : Cx} (ok : X.Ok) (E : Value -> Shared -> Prop) : (X.wish E).Ok :=
 ⟨ok.mod, ok.kind, ok.glob, ok.blt, ok.above, ok.inj, ok.has, ok.cab, ok.hd, ok.frames, ok.stk, ok.exf, ok.bs, ok.bsz, ok.noex, ok.exfs, ok.funs, ok.frf⟩
theorem Cx.Ok.unwish {X : Cx} {E : Value -> Shared -> Prop} (ok : (X.wish E).Ok) : X.Ok :=
 ⟨ok.mod, ok.kind, ok.glob, ok.blt, ok.above, ok.inj, ok.has, ok.cab, ok.hd, ok.frames, ok.stk, ok.exf, ok.bs, ok.bsz, ok.noex, ok.exfs, ok.funs, ok.frf⟩
section
variable {X : Cx} {pins : List (Addr × Obj)} {σ : St} {H : Hp} {s : Shared} {E : Value -> Shared -> Prop}
theorem Inv.wish (I : Inv X pins σ H s) (E : Value -> Shared -> Prop) : Inv (X.wish E) pins σ H s := ⟨I.ok.wish E, I.os, I.bare, I.base, I.loc, I.cell, I.free, I.freeC, I.pin, I.hok, I.len⟩
theorem Inv.unwish (I : Inv (X.wish E) pins σ H s) : Inv X pins σ H s := ⟨I.ok.unwish, I.os, I.bare, I.base, I.loc, I.cell, I.free, I.freeC, I.pin, I.hok, I.len⟩
theorem SP.unwish {D : Ends} {f : Flow} {s' : Shared} (h : SP (X.wish E) pins D f s') : SP X pins D f s' := by
 cases f with
 | next => obtain ⟨σ', H', I, q⟩ := h; exact ⟨σ', H', I.unwish, q⟩
 | brk => obtain ⟨σ', H', I, q⟩ := h; exact ⟨σ', H', I.unwish, q⟩
 | cont => obtain ⟨σ', H', I, q⟩ := h; exact ⟨σ', H', I.unwish, q⟩
 | ret u => obtain ⟨v, σ', H', I, r, q⟩ := h; exact ⟨v, σ', H', I.unwish, r, q⟩
theorem PSs.nox {st : List Stmt} {t : TS} (h : PSs X.nox st t) : PSs X st t := fun pins s σ H D I hw =>
 wpAny_mono (h pins s σ H D (I.wish _) hw) (fun _ _ q => q.unwish) fun _ _ z => False.elim z
end
section
variable {X : Cx} {st : Stmt} {rest : List Stmt} {t u : TS} {e : Expr} {te : TE} {pos : Pos}
def Io : TS := fun D σ H => D.nx σ H
def xj (t u : TS) : TS := fun D σ H => t { D with nx := u D } σ H
theorem cV : PSs X [] Io := fun _ _ σ H _ I h => wpAny_execs_nil ⟨σ, H, I, h⟩
theorem aq (h1 : PS X st t) (h2 : PSs X rest u) : PSs X (st :: rest) (xj t u) := by
 intro pins s σ H D I h
 refine wpAny_execs_cons (thn (h1 pins s σ H { D with nx := u D } I h) fun f s1 q => ?_)
 cases f with
 | next =>
  obtain ⟨σ', H', I', q⟩ := q
  exact h2 pins s1 σ' H' D I' q
 | ret v => exact q
 | brk => exact q
 | cont => exact q
theorem aD (h1 : PS X st t) : PSs X [st] t := by
 intro pins s σ H D I h
 refine wpAny_execs_cons (thn (h1 pins s σ H D I h) fun f s1 q => ?_)
 cases f with
 | next => exact wpAny_execs_nil q
 | ret v => exact q
 | brk => exact q
 | cont => exact q
theorem Inv.quiet {pins : List (Addr × Obj)} {σ : St} {H : Hp} {s : Shared} (I : Inv X pins σ H s) : interactive X.env = false := by simp [interactive, I.ok.kind]
def Kd (te : TE) : TS := fun D σ H => te σ H fun _ H1 => D.nx σ H1
theorem pA (he : PE X e te) (hs : swapsWith e none pos.line X.env = pure false := by rfl) : PS X (.Expr e pos) (Kd te) := by
 intro pins s σ H D I h
 exact wpAny_Expr_any (thn (he pins s σ H _ I h) fun v s1 ⟨x, H1, I1, r1, q1⟩ => ⟨σ, H1, I1, q1⟩) I.quiet hs
def Sq (te : TE) : TS := fun D σ H => te σ H D.rt
theorem aW (he : PE X e te) : PS X (.Return (some e) pos) (Sq te) := by
 intro pins s σ H D I h
 exact wpAny_Return_some (thn (he pins s σ H _ I h) fun v s1 ⟨x, H1, I1, r1, q1⟩ => ⟨x, σ, H1, I1, r1, q1⟩)
def Qm (c : TT) (t u : TS) : TS := fun D σ H => c σ H fun b H1 => if b = true then t D σ H1 else u D σ H1
theorem jD {c : Expr} {a b : List Stmt} {tc : TT} (hc : PT X c tc) (ha : PSs X a t) (hb : PSs X b u) : PS X (.If c a b pos) (Qm tc t u) := by
 intro pins s σ H D I h
 refine wpAny_If (thn (hc pins s σ H _ I h) fun d s1 ⟨H1, I1, q1⟩ => ?_)
 cases d with
 | true => exact ha pins s1 σ H1 D I1 q1
 | false => exact hb pins s1 σ H1 D I1 q1
def Lr : TS := fun _ _ _ => False
theorem Df : PS X st Lr := fun _ _ _ _ _ _ h => h.elim
end
abbrev TG := V -> St -> Hp -> (St -> Hp -> Prop) -> Prop
abbrev TGs := List V -> St -> Hp -> (St -> Hp -> Prop) -> Prop
def PG (X : Cx) (target : Expr) (t : TG) : Prop :=
 ∀ (pins : List (Addr × Obj)) (s : Shared) (σ : St) (H : Hp) (v : V) (u : Value) (Q : St -> Hp -> Prop), Inv X pins σ H s -> RelV v u -> t v σ H Q ->
  wpAny (model X.prog X.w) X.A (assign target X.env u) (fun _ s' => ∃ σ' H', Inv X pins σ' H' s' /\ Q σ' H') X.xe s
def PGs (X : Cx) (ts : List Expr) (t : TGs) : Prop :=
 ∀ (pins : List (Addr × Obj)) (s : Shared) (σ : St) (H : Hp) (vs : List V) (us : List Value) (Q : St -> Hp -> Prop), Inv X pins σ H s -> Vals vs us -> t vs σ H Q ->
  wpAny (model X.prog X.w) X.A (assignInOrder ((assignEach ts X.env).map (·.2)) us) (fun _ s' => ∃ σ' H', Inv X pins σ' H' s' /\ Q σ' H') X.xe s
section
variable {X : Cx} {pos : Pos}
def yl (i : Nat) : TG := fun v σ H Q => Q (σ.set i (some v)) H
theorem aZ {i : Nat} {x : Str} (hN : X.N.Nodup) (hi : X.N[i]? = some x) (hx : Loc X.env.scope x) (hf : X.fn x = true ∨ X.env.scope.names.lookup x = some .local := by first | exact .inl rfl | exact .inr rfl | assumption) : PG X (.Name x pos) (yl i) := by
 intro pins s σ H v u Q I r h
 exact wpAny_assign_Name (Do I hN hi hx r (fun s' I' => ⟨_, H, I', h⟩) hf)
def Tp : TGs := fun vs σ H Q => vs = [] /\ Q σ H
def Ht (t : TG) (u : TGs) : TGs := fun vs σ H Q => ∃ v r, vs = v :: r /\ t v σ H fun σ' H' => u r σ' H' Q
theorem Hc : PGs X [] Tp := by
 intro pins s σ H vs us Q I r h
 obtain ⟨e, h⟩ := h
 subst e
 cases r
 exact assignInOrder_nil ⟨σ, H, I, h⟩
theorem ql {e : Expr} {es : List Expr} {t : TG} {u : TGs} (h1 : PG X e t) (h2 : PGs X es u)
  (hs : (assignEach (e :: es) X.env).map (·.2) = assign e X.env :: (assignEach es X.env).map (·.2) := by rfl) : PGs X (e :: es) (Ht t u) := by
 intro pins s σ H vs us Q I r h
 obtain ⟨v, vr, e1, h⟩ := h
 subst e1
 cases r with
 | cons r rr =>
  rw [hs]
  refine assignInOrder_cons (thn (h1 pins s σ H _ _ _ I r h) fun _ s1 ⟨σ1, H1, I1, q1⟩ => ?_)
  exact h2 pins s1 σ1 H1 _ _ Q I1 rr q1
def O3 (K : PySem.W.Frag) (n : Nat) (t : TGs) : TG := fun v σ H Q => ∃ a xs, v = .ref a /\ SqT K H a xs /\ xs.length = n /\ t xs σ H Q
theorem R0 {es : List Expr} {k : Nat} {t : TGs} {n : Nat} (hc : X.calm = true) (h : PGs X es t)
  (hn : (assignEach es X.env).length = n := by rfl) (hst : (assignEach es X.env).findIdx? (·.1) = none := by rfl) : PG X (.Tuple es k pos) (O3 X.K n t) := by
 intro pins s σ H v u Q I r hw
 obtain ⟨a, xs, e1, hq, hl, hw⟩ := hw
 subst e1
 cases r
 obtain ⟨its, rv, ht, hz⟩ := I.tuple hq
 refine assign_Tuple_tuple (I.ok.hd hc) ht (by simp [hn, ← hl, rv.length]) hst fun h' hx => ?_
 have I1 : Inv X pins σ H { s with heap := h' } := I.kept (t' := s.toks) fun b o e => hx b o (Nat.ne_of_lt (Heap.lt_size e)) e
 exact h pins _ σ H xs _ Q I1 (by simpa using rv) hw
def J5 (te : TE) (g : TG) : TS := fun D σ H => te σ H fun x H1 => g x σ H1 D.nx
theorem S8 {tg e : Expr} {te : TE} {g : TG} (he : PE X e te) (hg : PG X tg g) (hs : swapsWithSole [tg] e pos.line X.env = pure false := by rfl) (hw : swappedStores [tg] e X.env = pure none := by rfl)
  (h1 : (assignEach [tg] X.env).map (·.2) = [assign tg X.env] := by rfl) : PS X (.Assign [tg] e pos) (J5 te g) := by
 intro pins s σ H D I h
 refine wpAny_Assign_stores (thn (he pins s σ H _ I h) fun v s1 ⟨x, H1, I1, r1, q1⟩ => ?_) hs hw
 rw [h1]
 exact thn (hg pins s1 σ H1 x v _ I1 r1 q1) fun _ s2 q => q
theorem aO {i : Nat} {x : Str} {e : Expr} {te : TE} {pos' : Pos} (hN : X.N.Nodup) (hi : X.N[i]? = some x) (hx : Loc X.env.scope x) (he : PE X e te) (hs : swapsWith e (some (.Name x pos')) pos.line X.env = pure false := by rfl) (hf : X.fn x = true ∨ X.env.scope.names.lookup x = some .local := by first | exact .inl rfl | exact .inr rfl | assumption) :
  PS X (.Assign [.Name x pos'] e pos) (J5 te (yl i)) := by
 intro pins s σ H D I h
 refine wpAny_Assign_Name (thn (he pins s σ H _ I h) fun v s1 ⟨y, H1, I1, r1, q1⟩ => ?_) hs
 exact Do I1 hN hi hx r1 (fun s2 I2 => ⟨_, H1, I2, q1⟩) hf
end
section
variable {X : Cx} {pos : Pos}
def Gp (c : TT) (tb : TS) : TS := fun D σ H => ∃ W : Nat -> St -> Hp -> Prop, (∃ m, W m σ H) /\ ∀ m σ H, W m σ H ->
 c σ H fun b H1 => if b = true then ∃ N : St -> Hp -> Prop, (∀ σ' H', N σ' H' -> ∃ m', m' < m /\ W m' σ' H') /\ tb { D with nx := N, ct := N, bk := D.nx } σ H1 else D.nx σ H1
theorem wV {c : Expr} {body : List Stmt} {tc : TT} {tb : TS} (hp : PassesOwn (model X.prog X.w) X.A X.env X.xe) (hc : PT X c tc) (hb : PSs X body tb) : PS X (.While c body [] pos) (Gp tc tb) := by
 intro pins s σ H D I h
 obtain ⟨W, ⟨m0, w0⟩, turn⟩ := h
 refine wpAny_While (codeAny_whileLoop (fun n s' => ∃ σ' H', Inv X pins σ' H' s' /\ W n σ' H') ?_ m0 ⟨σ, H, I, w0⟩)
 rintro n s1 ⟨σ1, H1, I1, w1⟩
 refine wpAny_passesOwn hp (thn (hc pins s1 σ1 H1 _ I1 (turn n σ1 H1 w1)) fun b s2 ⟨H2, I2, q2⟩ => ?_)
 cases b with
 | true =>
  obtain ⟨N, hN, q2⟩ := q2
  rw [if_pos rfl]
  refine wpAny_passesOwn hp (thn (hb pins s2 σ1 H2 _ I2 q2) fun f s3 q3 => ?_)
  cases f with
  | next =>
   obtain ⟨σ3, H3, I3, n3⟩ := q3
   obtain ⟨m', hm, w3⟩ := hN σ3 H3 n3
   exact ⟨m', hm, σ3, H3, I3, w3⟩
  | cont =>
   obtain ⟨σ3, H3, I3, n3⟩ := q3
   obtain ⟨m', hm, w3⟩ := hN σ3 H3 n3
   exact ⟨m', hm, σ3, H3, I3, w3⟩
  | brk => exact q3
  | ret v => exact q3
 | false =>
  rw [if_neg Bool.false_ne_true]
  exact wpAny_execs_nil ⟨σ1, H2, I2, q2⟩
end
structure It where
 go : Nat -> Hp -> Prop
 yld : Nat -> Hp -> V -> Hp -> Prop
 stop : Nat -> Hp -> Prop
def nG (X : Cx) (pins : List (Addr × Obj)) (H : Hp) (b : Addr) : Prop :=
 H b = none /\ b ≠ X.env.locals /\ b ∉ X.fs /\ (b ∈ X.ex ∨ X.s₀.heap.objs.size <= b) /\ (∀ x c, X.env.cells.lookup x = some c -> c ≠ b) /\ ∀ p ∈ X.pn ++ pins, p.1 ≠ b
theorem Inv.fpOk {X : Cx} {pins : List (Addr × Obj)} {σ : St} {H H' : Hp} {s : Shared} {b : Addr} (I : Inv X pins σ H s) (hb : s.heap.objs.size <= b) (hn : H' b = none) : nG X pins H' b := by
 refine ⟨hn, Nat.ne_of_gt (Nat.lt_of_lt_of_le I.lt hb), I.nofs hb, .inr (Nat.le_trans I.sz hb), fun x c e z => ?_, fun p hp z => ?_⟩
 ·obtain ⟨v, q⟩ := I.cell x c e
  exact absurd (Nat.lt_of_lt_of_le q.lt (by rw [z]; exact hb)) (Nat.lt_irrefl _)
 ·exact absurd (Nat.lt_of_lt_of_le (Heap.lt_size (I.pin p hp).1) (by rw [z]; exact hb)) (Nat.lt_irrefl _)
structure Turn (P : Program) (w : World) (K : PySem.W.Frag) (tg : Expr) (J : It) (fp : List Addr) (it : Addr) (tn : Nat -> Heap -> Prop) : Prop where
 mem : it ∈ fp
 obj : ∀ i h, tn i h -> ∀ b ∈ fp, ∃ o, h.get? b = some o /\ ∀ v, o.data ≠ .cell v
 keep : ∀ i h h', tn i h -> (∀ b ∈ fp, ∀ o, h.get? b = some o -> h'.get? b = some o) -> tn i h'
 item : ∀ (X : Cx), X.prog = P -> X.w = w -> X.K = K -> X.calm = true -> ∀ (i : Nat) (pins : List (Addr × Obj)) (s : Shared) (σ : St) (H : Hp) (E : Value -> Shared -> Prop), Inv X pins σ H s -> (∀ b ∈ fp, nG X pins H b) -> tn i s.heap -> J.go i H ->
  wpAny (model P w) X.A (pyNext (.ref it)) (fun r s1 => ∃ u, r = some u /\
   wpAny (model P w) X.A (letOwnedTupleGo tg (.ref it) u) (fun _ s2 => ∃ x H', Inv X pins σ H' s2 /\ RelV x u /\ J.yld i H x H' /\ tn (i + 1) s2.heap /\ ∀ b ∈ fp, H' b = none) E s1) E s
 done : ∀ (X : Cx), X.prog = P -> X.w = w -> X.K = K -> X.calm = true -> ∀ (i : Nat) (pins : List (Addr × Obj)) (s : Shared) (σ : St) (H : Hp) (E : Value -> Shared -> Prop), Inv X pins σ H s -> (∀ b ∈ fp, nG X pins H b) -> tn i s.heap -> J.stop i H ->
  wpAny (model P w) X.A (pyNext (.ref it)) (fun r s1 => r = none /\ Inv X pins σ H s1) E s
 self : ∀ (A : Around) (i : Nat) (s : Shared) (Q : Value -> Shared -> Prop) (E : Value -> Shared -> Prop), tn i s.heap -> Q (.ref it) s -> wpAny (model P w) A (pyIter (.ref it)) Q E s
abbrev TI := St -> Hp -> (It -> Hp -> Prop) -> Prop
def PIE (X : Cx) (pins : List (Addr × Obj)) (σ : St) (tg : Expr) (R : It -> Hp -> Prop) (itv : Value) (s2 : Shared) : Prop :=
 ∃ (it : Addr) (fp : List Addr) (tn : Nat -> Heap -> Prop) (J : It) (H' : Hp), itv = .ref it /\ Inv X pins σ H' s2 /\ Turn X.prog X.w X.K tg J fp it tn /\ tn 0 s2.heap /\ (∀ b ∈ fp, nG X pins H' b) /\ R J H'
def PI (X : Cx) (tg iter : Expr) (wi : TI) : Prop :=
 ∀ (pins : List (Addr × Obj)) (s : Shared) (σ : St) (H : Hp) (R : It -> Hp -> Prop), Inv X pins σ H s -> wi σ H R ->
  wpAny (model X.prog X.w) X.A (eval iter X.env) (fun v s1 => wpAny (model X.prog X.w) X.A (pyIter v) (PIE X pins σ tg R) X.xe s1) X.xe s
theorem Dq {M : Model} {A : Around} {E : Value -> Shared -> Prop} {s : Shared} {tg : Expr} {it : Addr} {u : Value} {o : Obj} {n : String} {vs : Array Value} {Q : Unit -> Shared -> Prop} (ho : s.heap.get? it = some o) (hc : o.cls = .type n) (hd : o.data = .fields vs)
  (hn : ["enumerate", "zip", "dict_itemiterator", "dict_reverseitemiterator", "odict_iterator", "itertools.zip_longest", "itertools.pairwise"].contains n = false) (hQ : Q () s) : wpAny M A (letOwnedTupleGo tg (.ref it) u) Q E s := by
 unfold letOwnedTupleGo
 cases tg <;> first
  | exact wpAny_pure hQ
  | (cases u <;> first
    | exact wpAny_pure hQ
    | (refine wpAny_bind (wpAny_load ho ?_)
       rw [hc, hd]
       show wpAny M A (if (["enumerate", "zip", "dict_itemiterator", "dict_reverseitemiterator", "odict_iterator", "itertools.zip_longest", "itertools.pairwise"].contains n && vs[0]? == some (rawInt _)) = true then _ else _) Q E s
       rw [if_neg (by intro h; rw [hn, Bool.false_and] at h; cases h)]
       exact wpAny_pure hQ))
def Itl (K : PySem.W.Frag) (a : Addr) : It :=
 ⟨fun i H => ∃ xs x, SqL K H a xs /\ xs[i]? = some x, fun i H x H' => H' = H /\ ∀ xs, SqL K H a xs -> xs[i]? = some x, fun i H => ∃ xs, SqL K H a xs /\ xs.length <= i⟩
def Itt (K : PySem.W.Frag) (a : Addr) : It :=
 ⟨fun i H => ∃ xs x, SqT K H a xs /\ xs[i]? = some x, fun i H x H' => H' = H /\ ∀ xs, SqT K H a xs -> xs[i]? = some x, fun i H => ∃ xs, SqT K H a xs /\ xs.length <= i⟩
def Itr (lo : Int) (n : Nat) : It := ⟨fun i _ => i < n, fun i H x H' => H' = H /\ x = .int (lo + i), fun i _ => n <= i⟩
theorem yZ {P : Program} {w : World} {K : PySem.W.Frag} {tg : Expr} (a it : Addr) : Turn P w K tg (Itl K a) [it] it (fun i h => h.IsListIter it a i) where
 mem := by simp
 obj := fun i h st b hb => by
  have e : b = it := by simpa using hb
  subst e
  obtain ⟨o, e, c, d⟩ := st
  exact ⟨o, e, fun v z => by rw [d] at z; cases z⟩
 keep := fun i h h' st k => st.at fun o e => k it (by simp) o e
 item := by
  intro X hP hw hK hc i pins s σ H E I hf st hg
  subst hP hw hK
  obtain ⟨xs, x, hq, hx⟩ := hg
  obtain ⟨its, rv, p, hz⟩ := I.list hq
  obtain ⟨u, hu, ru⟩ := rv.get hx
  obtain ⟨f0, f1, f2, f3, f4, f5⟩ := hf it (by simp)
  refine wpAny_pyNext_list_item st p.isList (x := u) (by simpa using hu) fun h' st' sb => ?_
  have I1 : Inv X pins σ H { s with heap := h' } := I.turned (t' := s.toks) (fun b o hb e => (sb.2 b hb).trans e) f0 f1 f3 f4 f5
  obtain ⟨o, e, c, d⟩ := id st'
  exact ⟨u, rfl, Dq (s := { s with heap := h' }) e c d (by decide) ⟨x, H, I1, ru, ⟨rfl, fun ys hy => by rw [I.list_inj hy hq]; exact hx⟩, st', fun b hb => (hf b hb).1⟩⟩
 done := by
  intro X hP hw hK hc i pins s σ H E I hf st hg
  subst hP hw hK
  obtain ⟨xs, hq, hx⟩ := hg
  obtain ⟨its, rv, p, hz⟩ := I.list hq
  obtain ⟨f0, f1, f2, f3, f4, f5⟩ := hf it (by simp)
  have hl := rv.length
  exact wpAny_pyNext_list_end (I.ok.hd hc) st p.isList (by simp; omega) fun h' eb => ⟨rfl, I.turned (t' := s.toks) (fun b o hb e => eb b o hb e) f0 f1 f3 f4 f5⟩
 self := fun _ _ _ _ _ st h => wpAny_pyIter_listiter st h
theorem wG {P : Program} {w : World} {K : PySem.W.Frag} {tg : Expr} (a it : Addr) : Turn P w K tg (Itt K a) [it] it (fun i h => h.IsTupleIter it a i) where
 mem := by simp
 obj := fun i h st b hb => by
  have e : b = it := by simpa using hb
  subst e
  obtain ⟨o, e, c, d⟩ := st
  exact ⟨o, e, fun v z => by rw [d] at z; cases z⟩
 keep := fun i h h' st k => st.at fun o e => k it (by simp) o e
 item := by
  intro X hP hw hK hc i pins s σ H E I hf st hg
  subst hP hw hK
  obtain ⟨xs, x, hq, hx⟩ := hg
  obtain ⟨its, rv, p, hz⟩ := I.tuple hq
  obtain ⟨u, hu, ru⟩ := rv.get hx
  obtain ⟨f0, f1, f2, f3, f4, f5⟩ := hf it (by simp)
  refine wpAny_pyNext_tuple_item st (show s.heap.IsTuple a its.toArray from p) (x := u) (by simpa using hu) fun h' st' sb => ?_
  have I1 : Inv X pins σ H { s with heap := h' } := I.turned (t' := s.toks) (fun b o hb e => (sb.2 b hb).trans e) f0 f1 f3 f4 f5
  obtain ⟨o, e, c, d⟩ := id st'
  exact ⟨u, rfl, Dq (s := { s with heap := h' }) e c d (by decide) ⟨x, H, I1, ru, ⟨rfl, fun ys hy => by rw [I.tuple_inj hy hq]; exact hx⟩, st', fun b hb => (hf b hb).1⟩⟩
 done := by
  intro X hP hw hK hc i pins s σ H E I hf st hg
  subst hP hw hK
  obtain ⟨xs, hq, hx⟩ := hg
  obtain ⟨its, rv, p, hz⟩ := I.tuple hq
  obtain ⟨f0, f1, f2, f3, f4, f5⟩ := hf it (by simp)
  have hl := rv.length
  exact wpAny_pyNext_tuple_end (I.ok.hd hc) st (show s.heap.IsTuple a its.toArray from p) (by simp; omega) fun h' eb => ⟨rfl, I.turned (t' := s.toks) (fun b o hb e => eb b o hb e) f0 f1 f3 f4 f5⟩
 self := fun _ _ _ _ _ st h => wpAny_pyIter_tupleiter st h
theorem Eu {P : Program} {w : World} {K : PySem.W.Frag} {tg : Expr} (it : Addr) (lo : Int) (n : Nat) : Turn P w K tg (Itr lo n) [it] it (fun i h => IsRangeIter h it (lo + (i : Nat) * 1) ((n : Int) - (i : Nat)) 1) where
 mem := by simp
 obj := fun i h st b hb => by
  have e : b = it := by simpa using hb
  subst e
  exact ⟨_, st, fun v z => by
   have z' : Data.fields _ = Data.cell v := z
   cases z'⟩
 keep := fun i h h' st k => k it (by simp) _ st
 item := by
  intro X hP hw hK hc i pins s σ H E I hf st hg
  subst hP hw hK
  obtain ⟨f0, f1, f2, f3, f4, f5⟩ := hf it (by simp)
  have W := Walks.range (prog := X.prog) (w := X.w) (I.ok.hd hc) it lo 1 n
  refine W.item i s _ _ hg st fun v h' tk hv st' kk => ?_
  obtain ⟨t, rfl⟩ := hv
  have I1 : Inv X pins σ H { s with heap := h', toks := tk } := I.turned (fun b o hb e => kk b o (by simpa using hb) e) f0 f1 f3 f4 f5
  refine ⟨_, rfl, Dq (s := { s with heap := h', toks := tk }) (n := "range_iterator") st' rfl rfl (by decide) ⟨.int (lo + i), H, I1, ⟨t, ?_⟩, ⟨rfl, rfl⟩, st', fun b hb => (hf b hb).1⟩⟩
  rw [Int.mul_one]
 done := by
  intro X hP hw hK hc i pins s σ H E I hf st hg
  subst hP hw hK
  obtain ⟨f0, f1, f2, f3, f4, f5⟩ := hf it (by simp)
  exact wpAny_pyNext_range_end (I.ok.hd hc) st (by have : n <= i := hg; omega) fun h' eb => ⟨rfl, I.turned (t' := s.toks) (fun b o hb e => eb b o hb e) f0 f1 f3 f4 f5⟩
 self := fun _ _ _ _ _ st h => wpAny_pyIter_rangeiter st h
end L2
namespace L2
open PySem PySem.Spec PyProof.Rows
section
variable {X : Cx} {tg : Expr}
def Mm (K : PySem.W.Frag) (tl : TE) : TI := fun σ H R => tl σ H fun x H1 => ∃ a, x = .ref a /\ (∃ xs, SqL K H1 a xs) /\ R (Itl K a) H1
def Us (K : PySem.W.Frag) (tl : TE) : TI := fun σ H R => tl σ H fun x H1 => ∃ a, x = .ref a /\ (∃ xs, SqT K H1 a xs) /\ R (Itt K a) H1
theorem Qv {l : Expr} {tl : TE} (hl : PE X l tl) : PI X tg l (Mm X.K tl) := by
 intro pins s σ H R I h
 refine thn (hl pins s σ H _ I h) fun v s1 ⟨x, H1, I1, r1, q1⟩ => ?_
 obtain ⟨a, e, ⟨xs, hq⟩, q⟩ := q1
 subst e
 cases r1
 obtain ⟨its, rv, p, hz⟩ := I1.list hq
 refine wpAny_pyIter_list p.isList ?_
 refine ⟨s1.heap.objs.size, [s1.heap.objs.size], _, _, H1, rfl, I1.kept (t' := s1.toks) fun b o e => Heap.get?_push_of_some _ e, yZ a _, ⟨_, Heap.get?_push_size _ rfl, rfl, rfl⟩, fun b hb => ?_, q⟩
 have e : b = s1.heap.objs.size := by simpa using hb
 subst e
 exact I1.fpOk (Nat.le_refl _) (I1.hok.fresh (Nat.le_refl _))
theorem Um {l : Expr} {tl : TE} (hl : PE X l tl) : PI X tg l (Us X.K tl) := by
 intro pins s σ H R I h
 refine thn (hl pins s σ H _ I h) fun v s1 ⟨x, H1, I1, r1, q1⟩ => ?_
 obtain ⟨a, e, ⟨xs, hq⟩, q⟩ := q1
 subst e
 cases r1
 obtain ⟨its, rv, p, hz⟩ := I1.tuple hq
 refine wpAny_pyIter_tuple (show s1.heap.IsTuple a its.toArray from p) ?_
 refine ⟨s1.heap.objs.size, [s1.heap.objs.size], _, _, H1, rfl, I1.kept (t' := s1.toks) fun b o e => Heap.get?_push_of_some _ e, wG a _, ⟨_, Heap.get?_push_size _ rfl, rfl, rfl⟩, fun b hb => ?_, q⟩
 have e : b = s1.heap.objs.size := by simpa using hb
 subst e
 exact I1.fpOk (Nat.le_refl _) (I1.hok.fresh (Nat.le_refl _))
theorem Mr {pins : List (Addr × Obj)} {σ : St} {H : Hp} {s : Shared} {R : It -> Hp -> Prop} {E : Value -> Shared -> Prop} {lo hi : Int} {t u v : Tok} {tk : Nat} (I : Inv X pins σ H s) (h1 : -(2 ^ 62) <= lo) (h2 : lo < 2 ^ 62) (h3 : -(2 ^ 62) <= hi) (h4 : hi < 2 ^ 62)
  (q : R (Itr lo (hi - lo).toNat) H) : wpAny (model X.prog X.w) X.A (pyIter (.ref s.heap.objs.size)) (PIE X pins σ tg R) E { s with heap := s.heap.push { cls := .type "range", data := .fields #[.int lo t, .int hi u, .int 1 v] }, toks := tk } := by
 refine wpAny_pyIter_range (IsRange.new ..) (small_one h1 h2 h3 h4) ?_
 have I1 : Inv X pins σ H { s with heap := s.heap.push { cls := .type "range", data := .fields #[.int lo t, .int hi u, .int 1 v] }, toks := tk } := I.kept fun b o e => Heap.get?_push_of_some _ e
 refine ⟨(s.heap.push { cls := .type "range", data := .fields #[.int lo t, .int hi u, .int 1 v] }).objs.size, [(s.heap.push { cls := .type "range", data := .fields #[.int lo t, .int hi u, .int 1 v] }).objs.size], _, _, H, rfl,
  I1.kept (t' := tk) fun b o e => Heap.get?_push_of_some _ e, Eu _ lo (hi - lo).toNat, ?_, fun b hb => ?_, q⟩
 ·have e1 : lo + ((0 : Nat) : Int) * 1 = lo := by simp
  have e2 : (((hi - lo).toNat : Nat) : Int) - ((0 : Nat) : Int) = Builtin.Range.rangeSize lo hi 1 := by rw [rangeSize_one]; split <;> omega
  show IsRangeIter _ _ (lo + ((0 : Nat) : Int) * 1) ((((hi - lo).toNat : Nat) : Int) - ((0 : Nat) : Int)) 1
  rw [e1, e2]
  exact Heap.get?_push_size _ rfl
 ·have e : b = (s.heap.push { cls := .type "range", data := .fields #[.int lo t, .int hi u, .int 1 v] }).objs.size := by simpa using hb
  subst e
  exact I1.fpOk (Nat.le_refl _) (I1.hok.fresh (Nat.le_refl _))
def Q5 (ta : TA) : TI := fun σ H R => ta σ H fun vs H1 => ∃ j : Int, vs = [.int j] /\ -(2 ^ 62) <= j /\ j < 2 ^ 62 /\ R (Itr 0 j.toNat) H1
theorem nZ {a : Expr} {ta : TA} {p pos : Pos} (hg : Gl X "range") (hm : X.mg "range" = none) (ha : PA X [a] ta) (hs : starEach [a] X.env = [(false, eval a X.env)] := by rfl) : PI X tg (.Call (.Name "range" p) [a] [] pos) (Q5 ta) := by
 intro pins s σ H R I h
 refine Call_ (o9 I hg hm boot_range (PyProof.Rows.callWith_type1 (thn (ha pos pins s σ H _ I h) fun us s1 ⟨vs, H1, I1, r1, q1⟩ => ?_) hs rfl))
 obtain ⟨j, e, q1, q2, q⟩ := q1
 subst e
 cases r1 with
 | cons r rr =>
  cases rr
  obtain ⟨t, rfl⟩ := r
  exact call_range_1 (Mr I1 (by omega) (by omega) q1 q2 (by simpa using q))
def Om (wi : TI) (g : TG) (tb : TS) : TS := fun D σ H => wi σ H fun J H1 => ∃ W : Nat -> Nat -> St -> Hp -> Prop, (∃ m, W 0 m σ H1) /\ ∀ i m σ H, W i m σ H ->
 (J.stop i H /\ D.nx σ H) ∨ (J.go i H /\ ∃ N : St -> Hp -> Prop, (∀ σ' H', N σ' H' -> ∃ m', m' < m /\ W (i + 1) m' σ' H') /\ ∀ x H', J.yld i H x H' -> g x σ H' fun σ2 H2 => tb { D with nx := N, ct := N, bk := D.nx } σ2 H2)
def qH (fp : List Addr) (h : Heap) : List (Addr × Obj) := fp.filterMap fun b => (h.get? b).map fun o => (b, o)
theorem eO {fp : List Addr} {h : Heap} {b : Addr} {o : Obj} (hb : b ∈ fp) (e : h.get? b = some o) : (b, o) ∈ qH fp h := List.mem_filterMap.mpr ⟨b, hb, by rw [e]; rfl⟩
theorem Jw {fp : List Addr} {h : Heap} {p : Addr × Obj} (hp : p ∈ qH fp h) : p.1 ∈ fp /\ h.get? p.1 = some p.2 := by
 obtain ⟨b, hb, e⟩ := List.mem_filterMap.mp hp
 cases q : h.get? b with
 | none => rw [q] at e; cases e
 | some o =>
  rw [q] at e
  have e' : (b, o) = p := Option.some.inj e
  subst e'
  exact ⟨hb, q⟩
theorem Inv.pinned {pins : List (Addr × Obj)} {σ : St} {H : Hp} {s : Shared} {fp : List Addr} (I : Inv X pins σ H s) (hf : ∀ b ∈ fp, nG X pins H b) (ho : ∀ b ∈ fp, ∃ o, s.heap.get? b = some o /\ ∀ v, o.data ≠ .cell v) : Inv X (pins ++ qH fp s.heap) σ H s :=
 I.pins_of fun p hp => (List.mem_append.mp hp).elim (fun z => I.pin p (List.mem_append_right _ z)) fun z => by
  obtain ⟨hb, e⟩ := Jw z
  obtain ⟨f0, f1, f2, _⟩ := hf p.1 hb
  obtain ⟨o, e', d⟩ := ho p.1 hb
  rw [e] at e'; cases e'
  exact ⟨e, f0, f1, f2, d⟩
theorem Inv.unpinned {pins pl : List (Addr × Obj)} {σ : St} {H : Hp} {s : Shared} (I : Inv X (pins ++ pl) σ H s) : Inv X pins σ H s := I.pins_of fun p hp => I.pin p (List.mem_append_right _ (List.mem_append_left _ hp))
theorem iD {iter : Expr} {body : List Stmt} {wi : TI} {g : TG} {tb : TS} {pos : Pos} (hp : PassesOwn (model X.prog X.w) X.A X.env X.xe) (hc : X.calm = true) (hi : PI X tg iter wi) (hg : PG X tg g) (hb : PSs X body tb)
  (hs : ∀ x, foldedSetIterable iter X.env x = pure x := by intro _; rfl) : PS X (.For tg iter body [] pos) (Om wi g tb) := by
 intro pins s σ H D I h
 refine wpAny_For (thn (hi pins s σ H _ I h) fun v s1 h1 => thn h1 fun itv s2 h2 => ?_) hs
 obtain ⟨it, fp, tn, J, H2, e, I2, T, st2, f2, W, ⟨m0, w0⟩, turn⟩ := h2
 subst e
 -- what stays true of the iterator's objects through the loop
 have stat : ∀ {H' : Hp}, (∀ b ∈ fp, H' b = none) -> ∀ b ∈ fp, nG X pins H' b := fun hn b hb => ⟨hn b hb, (f2 b hb).2⟩
 refine codeAny_forLoop_any (fun n s' => ∃ i σ' H', Inv X pins σ' H' s' /\ tn i s'.heap /\ (∀ b ∈ fp, H' b = none) /\ W i n σ' H') ?_ m0 ⟨0, σ, H2, I2, st2, fun b hb => (f2 b hb).1, w0⟩
 rintro n s3 ⟨i, σ3, H3, I3, st3, fr3, w3⟩
 rcases turn i n σ3 H3 w3 with ⟨stop, qn⟩ | ⟨go, N, hN, step⟩
 ·refine wpAny_passesOwn hp (thn (T.done X rfl rfl rfl hc i pins s3 σ3 H3 X.xe I3 (stat fr3) st3 stop) fun r s4 ⟨hr, I4⟩ => ?_)
  subst hr
  exact wpAny_execs_nil ⟨σ3, H3, I4, qn⟩
 ·refine wpAny_passesOwn hp (thn (T.item X rfl rfl rfl hc i pins s3 σ3 H3 X.xe I3 (stat fr3) st3 go) fun r s4 ⟨u, hr, h4⟩ => ?_)
  subst hr
  refine wpAny_passesOwn hp (thn h4 fun _ s5 ⟨x, H5, I5, r5, y5, st5, fr5⟩ => ?_)
  have I5' := I5.pinned (stat fr5) (T.obj _ _ st5)
  refine wpAny_passesOwn hp (thn (hg _ s5 σ3 H5 x u _ I5' r5 (step x H5 y5)) fun _ s6 ⟨σ6, H6, I6, q6⟩ => ?_)
  refine wpAny_passesOwn hp (thn (hb _ s6 σ6 H6 _ I6 q6) fun f s7 q7 => ?_)
  have again : ∀ {σ7 : St} {H7 : Hp}, Inv X (pins ++ qH fp s5.heap) σ7 H7 s7 -> N σ7 H7 -> ∃ m, m < n /\ ∃ i σ' H', Inv X pins σ' H' s7 /\ tn i s7.heap /\ (∀ b ∈ fp, H' b = none) /\ W i m σ' H' := fun {σ7 H7} I7 n7 => by
   obtain ⟨m', hm, w7⟩ := hN σ7 H7 n7
   refine ⟨m', hm, i + 1, σ7, H7, I7.unpinned, T.keep _ _ _ st5 fun b hb o e => (I7.pin (b, o) (List.mem_append_right _ (List.mem_append_right _ (eO hb e)))).1, fun b hb => ?_, w7⟩
   obtain ⟨o, e, d⟩ := T.obj _ _ st5 b hb
   exact (I7.pin (b, o) (List.mem_append_right _ (List.mem_append_right _ (eO hb e)))).2.1
  cases f with
  | next => obtain ⟨σ7, H7, I7, n7⟩ := q7; exact again I7 n7
  | cont => obtain ⟨σ7, H7, I7, n7⟩ := q7; exact again I7 n7
  | brk => obtain ⟨σ7, H7, I7, q7⟩ := q7; exact ⟨σ7, H7, I7.unpinned, q7⟩
  | ret v => obtain ⟨x7, σ7, H7, I7, r7, q7⟩ := q7; exact ⟨x7, σ7, H7, I7.unpinned, r7, q7⟩
end
theorem jZ {K : PySem.W.Frag} {a : Addr} {xs : List V} {g : TG} {tb : TS} {D : Ends} {σ : St} {H : Hp} (Pv : Nat -> St -> Hp -> Prop) (h0 : Pv 0 σ H) (hl : ∀ i σ H, i <= xs.length -> Pv i σ H -> SqL K H a xs)
  (hs : ∀ i x σ H, xs[i]? = some x -> Pv i σ H -> g x σ H fun σ2 H2 => tb { D with nx := Pv (i + 1), ct := Pv (i + 1), bk := D.nx } σ2 H2) (hd : ∀ σ H, Pv xs.length σ H -> D.nx σ H) :
  ∃ W : Nat -> Nat -> St -> Hp -> Prop, (∃ m, W 0 m σ H) /\ ∀ i m σ H, W i m σ H ->
   ((Itl K a).stop i H /\ D.nx σ H) ∨ ((Itl K a).go i H /\ ∃ N : St -> Hp -> Prop, (∀ σ' H', N σ' H' -> ∃ m', m' < m /\ W (i + 1) m' σ' H') /\ ∀ x H', (Itl K a).yld i H x H' -> g x σ H' fun σ2 H2 => tb { D with nx := N, ct := N, bk := D.nx } σ2 H2) := by
 refine ⟨fun i m σ H => m = xs.length - i /\ i <= xs.length /\ Pv i σ H, ⟨xs.length, by simp, Nat.zero_le _, h0⟩, ?_⟩
 rintro i m σ H ⟨rfl, hi, p⟩
 have q := hl i σ H hi p
 by_cases hlt : i < xs.length
 ·refine .inr ⟨⟨xs, xs[i], q, by simp [hlt]⟩, Pv (i + 1), fun σ' H' p' => ⟨xs.length - (i + 1), by omega, rfl, hlt, p'⟩, fun x H' y => ?_⟩
  obtain ⟨e, y⟩ := y
  subst e
  exact hs i x σ _ (y xs q) p
 ·have e : i = xs.length := by omega
  subst e
  exact .inl ⟨⟨xs, q, Nat.le_refl _⟩, hd σ H p⟩
theorem Hi {K : PySem.W.Frag} {a : Addr} {xs : List V} {g : TG} {tb : TS} {D : Ends} {σ : St} {H : Hp} (Pv : Nat -> St -> Hp -> Prop) (h0 : Pv 0 σ H) (hl : ∀ i σ H, i <= xs.length -> Pv i σ H -> SqT K H a xs)
  (hs : ∀ i x σ H, xs[i]? = some x -> Pv i σ H -> g x σ H fun σ2 H2 => tb { D with nx := Pv (i + 1), ct := Pv (i + 1), bk := D.nx } σ2 H2) (hd : ∀ σ H, Pv xs.length σ H -> D.nx σ H) :
  ∃ W : Nat -> Nat -> St -> Hp -> Prop, (∃ m, W 0 m σ H) /\ ∀ i m σ H, W i m σ H ->
   ((Itt K a).stop i H /\ D.nx σ H) ∨ ((Itt K a).go i H /\ ∃ N : St -> Hp -> Prop, (∀ σ' H', N σ' H' -> ∃ m', m' < m /\ W (i + 1) m' σ' H') /\ ∀ x H', (Itt K a).yld i H x H' -> g x σ H' fun σ2 H2 => tb { D with nx := N, ct := N, bk := D.nx } σ2 H2) := by
 refine ⟨fun i m σ H => m = xs.length - i /\ i <= xs.length /\ Pv i σ H, ⟨xs.length, by simp, Nat.zero_le _, h0⟩, ?_⟩
 rintro i m σ H ⟨rfl, hi, p⟩
 have q := hl i σ H hi p
 by_cases hlt : i < xs.length
 ·refine .inr ⟨⟨xs, xs[i], q, by simp [hlt]⟩, Pv (i + 1), fun σ' H' p' => ⟨xs.length - (i + 1), by omega, rfl, hlt, p'⟩, fun x H' y => ?_⟩
  obtain ⟨e, y⟩ := y
  subst e
  exact hs i x σ _ (y xs q) p
 ·have e : i = xs.length := by omega
  subst e
  exact .inl ⟨⟨xs, q, Nat.le_refl _⟩, hd σ H p⟩
theorem qW {lo : Int} {n : Nat} {g : TG} {tb : TS} {D : Ends} {σ : St} {H : Hp} (Pv : Nat -> St -> Hp -> Prop) (h0 : Pv 0 σ H)
  (hs : ∀ i σ H, i < n -> Pv i σ H -> g (.int (lo + i)) σ H fun σ2 H2 => tb { D with nx := Pv (i + 1), ct := Pv (i + 1), bk := D.nx } σ2 H2) (hd : ∀ σ H, Pv n σ H -> D.nx σ H) :
  ∃ W : Nat -> Nat -> St -> Hp -> Prop, (∃ m, W 0 m σ H) /\ ∀ i m σ H, W i m σ H ->
   ((Itr lo n).stop i H /\ D.nx σ H) ∨ ((Itr lo n).go i H /\ ∃ N : St -> Hp -> Prop, (∀ σ' H', N σ' H' -> ∃ m', m' < m /\ W (i + 1) m' σ' H') /\ ∀ x H', (Itr lo n).yld i H x H' -> g x σ H' fun σ2 H2 => tb { D with nx := N, ct := N, bk := D.nx } σ2 H2) := by
 refine ⟨fun i m σ H => m = n - i /\ i <= n /\ Pv i σ H, ⟨n, by simp, Nat.zero_le _, h0⟩, ?_⟩
 rintro i m σ H ⟨rfl, hi, p⟩
 by_cases hlt : i < n
 ·refine .inr ⟨hlt, Pv (i + 1), fun σ' H' p' => ⟨n - (i + 1), by omega, rfl, hlt, p'⟩, fun x H' y => ?_⟩
  obtain ⟨e, y⟩ := y
  subst e y
  exact hs i σ _ hlt p
 ·have e : i = n := by omega
  subst e
  exact .inl ⟨Nat.le_refl _, hd σ H p⟩
end L2
namespace L2
open PySem PySem.Spec PyProof.Rows
abbrev R2 := V -> V -> Hp -> VK -> Prop
def OpR (X : Cx) (f : Value -> Value -> Sem Value) (r : R2) : Prop :=
 ∀ (pins : List (Addr × Obj)) (s : Shared) (σ : St) (H : Hp) (x y : V) (v u : Value) (Q : VK), Inv X pins σ H s -> RelV x v -> RelV y u -> r x y H Q ->
  wpAny (model X.prog X.w) X.A (f v u) (EP X pins σ Q) X.xe s
def UnR (X : Cx) (f : Value -> Sem Value) (r : V -> Hp -> VK -> Prop) : Prop :=
 ∀ (pins : List (Addr × Obj)) (s : Shared) (σ : St) (H : Hp) (x : V) (v : Value) (Q : VK), Inv X pins σ H s -> RelV x v -> r x H Q ->
  wpAny (model X.prog X.w) X.A (f v) (EP X pins σ Q) X.xe s
def fK (X : Cx) (f : Value) (r : List V -> Hp -> VK -> Prop) : Prop :=
 ∀ (pins : List (Addr × Obj)) (s : Shared) (σ : St) (H : Hp) (xs : List V) (us : List Value) (Q : VK), Inv X pins σ H s -> Vals xs us -> r xs H Q ->
  wpAny (model X.prog X.w) X.A (call f us) (EP X pins σ Q) X.xe s
def WM (X : Cx) (r : V -> Hp -> (Bool -> Hp -> Prop) -> Prop) : Prop :=
 ∀ (pins : List (Addr × Obj)) (s : Shared) (σ : St) (H : Hp) (x : V) (v : Value) (Q : Bool -> Hp -> Prop), Inv X pins σ H s -> RelV x v -> r x H Q ->
  wpAny (model X.prog X.w) X.A (truthy v) (TP X pins σ Q) X.xe s
def tOp (r : R2) (ta tb : TE) : TE := fun σ H Q => ta σ H fun x H1 => tb σ H1 fun y H2 => r x y H2 Q
def tUn (r : V -> Hp -> VK -> Prop) (ta : TE) : TE := fun σ H Q => ta σ H fun x H1 => r x H1 Q
def rI (C : Int -> Int -> Prop) (g : Int -> Int -> V) : R2 := fun x y H Q => ∃ i j, x = .int i /\ y = .int j /\ C i j /\ Q (g i j) H
def rI0 (g : Int -> Int -> V) : R2 := fun x y H Q => ∃ i j, x = .int i /\ y = .int j /\ Q (g i j) H
def rU (g : Int -> V) : V -> Hp -> VK -> Prop := fun x H Q => ∃ i, x = .int i /\ Q (g i) H
section
variable {X : Cx} {a b c : Expr} {ta tb tc : TE} {pos : Pos}
theorem Sw (ha : PE X a ta) (hb : PE X b tb) {pins : List (Addr × Obj)} {s : Shared} {σ : St} {H : Hp} {R : V -> V -> Hp -> Prop} (I : Inv X pins σ H s)
  (h : ta σ H fun x H1 => tb σ H1 fun y H2 => R x y H2) {Q : Value -> Shared -> Prop} {f : Value -> Value -> Sem Value}
  (hf : ∀ v u s2 x y H2, Inv X pins σ H2 s2 -> RelV x v -> RelV y u -> R x y H2 -> wpAny (model X.prog X.w) X.A (f v u) Q X.xe s2) :
  wpAny (model X.prog X.w) X.A (eval a X.env) (fun v s₁ => wpAny (model X.prog X.w) X.A (eval b X.env) (fun u s₂ => wpAny (model X.prog X.w) X.A (f v u) Q X.xe s₂) X.xe s₁) X.xe s := by
 refine thn (ha pins s σ H _ I h) fun v s1 ⟨x, H1, I1, r1, q1⟩ => ?_
 refine thn (hb pins s1 σ H1 _ I1 q1) fun u s2 ⟨y, H2, I2, r2, q2⟩ => ?_
 exact hf v u s2 x y H2 I2 r1 r2 q2
theorem aV {op : Operator} {r : R2} (ho : OpR X (binaryOp op) r) (ha : PE X a ta) (hb : PE X b tb) : PE X (.BinOp a op b pos) (tOp r ta tb) := by
 intro pins s σ H Q I h
 exact wpAny_BinOp (Sw ha hb I h fun v u s2 x y H2 I2 rx ry q => ho pins s2 σ H2 x y v u Q I2 rx ry q)
theorem Lj {op : UnaryOp} {r : V -> Hp -> VK -> Prop} (ho : UnR X (unaryOp op) r) (ha : PE X a ta) : PE X (.UnaryOp op a pos) (tUn r ta) := by
 intro pins s σ H Q I h
 exact UnaryOp_ (thn (ha pins s σ H _ I h) fun v s1 ⟨x, H1, I1, r1, q1⟩ => ho pins s1 σ H1 x v Q I1 r1 q1)
theorem opI {f : Value -> Value -> Sem Value} {C : Int -> Int -> Prop} {g : Int -> Int -> Int}
  (rule : ∀ (i j : Int) (t u : Tok) (s : Shared) (Q : Value -> Shared -> Prop) (E : Value -> Shared -> Prop), C i j -> Q (.int (g i j) s.toks) { s with toks := s.toks + 1 } -> wpAny (model X.prog X.w) X.A (f (.int i t) (.int j u)) Q E s) :
  OpR X f (rI C fun i j => .int (g i j)) := by
 intro pins s σ H x y v u Q I rx ry h
 obtain ⟨i, j, rfl, rfl, hc, q⟩ := h
 obtain ⟨t, rfl⟩ := rx
 obtain ⟨t', rfl⟩ := ry
 exact rule i j t t' s _ _ hc ⟨.int (g i j), H, I.tok _, ⟨_, rfl⟩, q⟩
theorem Oo {f : Value -> Value -> Sem Value} {g : Int -> Int -> Int}
  (rule : ∀ (i j : Int) (t u : Tok) (s : Shared) (Q : Value -> Shared -> Prop) (E : Value -> Shared -> Prop), Q (.int (g i j) s.toks) { s with toks := s.toks + 1 } -> wpAny (model X.prog X.w) X.A (f (.int i t) (.int j u)) Q E s) :
  OpR X f (rI0 fun i j => .int (g i j)) := by
 intro pins s σ H x y v u Q I rx ry h
 obtain ⟨i, j, rfl, rfl, q⟩ := h
 obtain ⟨t, rfl⟩ := rx
 obtain ⟨t', rfl⟩ := ry
 exact rule i j t t' s _ _ ⟨.int (g i j), H, I.tok _, ⟨_, rfl⟩, q⟩
theorem R9 {f : Value -> Value -> Sem Value} {g : Int -> Int -> Bool}
  (rule : ∀ (i j : Int) (t u : Tok) (s : Shared) (Q : Value -> Shared -> Prop) (E : Value -> Shared -> Prop), Q (.bool (g i j)) s -> wpAny (model X.prog X.w) X.A (f (.int i t) (.int j u)) Q E s) :
  OpR X f (rI0 fun i j => .bl (g i j)) := by
 intro pins s σ H x y v u Q I rx ry h
 obtain ⟨i, j, rfl, rfl, q⟩ := h
 obtain ⟨t, rfl⟩ := rx
 obtain ⟨t', rfl⟩ := ry
 exact rule i j t t' s _ _ ⟨.bl (g i j), H, I, rfl, q⟩
def WD (i j : Int) : Prop := 0 < j /\ j < 1073741824
def Kz (i j : Int) : Prop := 0 <= j /\ j <= 1000000 /\ i.natAbs < 2 ^ 64
def CMul (i j : Int) : Prop := (-(2 ^ 64) < i /\ i < 2 ^ 64) ∨ (-(2 ^ 64) < j /\ j < 2 ^ 64)
theorem CMul.ok {i j : Int} (h : CMul i j) : IntMulOk i j := by
 rcases h with ⟨h1, h2⟩ | ⟨h1, h2⟩
 ·exact .of_left (intBits_le_64 h1 h2)
 ·exact .of_right (intBits_le_64 h1 h2)
theorem fJ : OpR X (binaryOp .Add) (rI0 fun i j => .int (i + j)) := Oo fun _ _ _ _ _ _ _ q => add_int q
theorem Fl : OpR X (binaryOp .Sub) (rI0 fun i j => .int (i - j)) := Oo fun _ _ _ _ _ _ _ q => sub_int q
theorem uD : OpR X (binaryOp .Mult) (rI CMul fun i j => .int (i * j)) := opI fun _ _ _ _ _ _ _ hc q => mul_int q hc.ok
theorem wC : OpR X (binaryOp .FloorDiv) (rI WD fun i j => .int (i / j)) := opI fun i j _ _ _ _ _ hc q => by
 have h1 : (0 : Int) < j := hc.1
 have h2 : j < 1073741824 := hc.2
 exact floordiv_int (by omega) (by rw [Int.fdiv_eq_ediv_of_nonneg i (by omega)]; exact q) (.inl (PyProof.noPylong_small (by omega)))
theorem cH : OpR X (binaryOp .Mod) (rI (fun _ j => 0 < j) fun i j => .int (i % j)) := opI fun i j _ _ _ _ _ hc q => by
 have h1 : (0 : Int) < j := hc
 exact mod_int' (by omega) (by rw [Int.fmod_eq_emod_of_nonneg i (by omega)]; exact q)
theorem zQ : OpR X (binaryOp .Pow) (rI Kz fun i j => .int (i ^ j.toNat)) := opI fun _ _ _ _ _ _ _ hc q => pow_int_small hc.1 hc.2.1 hc.2.2 q
theorem An : OpR X (binaryOp .LShift) (rI Kz fun i j => .int (i * 2 ^ j.toNat)) := opI fun _ _ _ _ _ _ _ hc q => lshift_int_small hc.1 hc.2.1 hc.2.2 q
theorem Gh : OpR X (binaryOp .BitAnd) (rI0 fun i j => .int (Builtin.bitAnd i j)) := Oo fun _ _ _ _ _ _ _ q => and_int q
theorem zy : OpR X (binaryOp .BitOr) (rI0 fun i j => .int (Builtin.bitOr i j)) := Oo fun _ _ _ _ _ _ _ q => or_int q
theorem unI {f : Value -> Sem Value} {g : Int -> Int}
  (rule : ∀ (i : Int) (t : Tok) (s : Shared) (Q : Value -> Shared -> Prop) (E : Value -> Shared -> Prop), Q (.int (g i) s.toks) { s with toks := s.toks + 1 } -> wpAny (model X.prog X.w) X.A (f (.int i t)) Q E s) :
  UnR X f (rU fun i => .int (g i)) := by
 intro pins s σ H x v Q I rx h
 obtain ⟨i, rfl, q⟩ := h
 obtain ⟨t, rfl⟩ := rx
 exact rule i t s _ _ ⟨.int (g i), H, I.tok _, ⟨_, rfl⟩, q⟩
theorem TV : UnR X (unaryOp .USub) (rU fun i => .int (-i)) := unI fun _ _ _ _ _ q => neg_int q
theorem KH : UnR X (unaryOp .Invert) (rU fun i => .int (Builtin.bitNot i)) := unI fun _ _ _ _ _ q => invert_int q
end
def UJ : V -> V -> Bool
 | .non, .non => true | .non, .int _ => true | .int _, .non => true | .non, .bl _ => true | .bl _, .non => true | .non, .str _ => true | .str _, .non => true
 | .int _, .int _ => true | .bl _, .bl _ => true | .str _, .str _ => true | .byt _, .byt _ => true
 | .int _, .str _ => true | .str _, .int _ => true | .bl _, .str _ => true | .str _, .bl _ => true
 | _, _ => false
def rEq : R2 := fun x y H Q => UJ x y = true /\ Q (.bl (decide (x = y))) H
def rNe : R2 := fun x y H Q => UJ x y = true /\ Q (.bl (!decide (x = y))) H
theorem Ip {i j : Int} : decide (V.int i = V.int j) = (i == j) := by
 rw [Bool.eq_iff_iff]
 simp
theorem N5 {i j : Bool} : decide (V.bl i = V.bl j) = (i == j) := by
 rw [Bool.eq_iff_iff]
 simp
theorem Hj {i j : Str} : decide (V.str i = V.str j) = (i == j) := by
 rw [Bool.eq_iff_iff]
 simp
theorem Hg {i j : Array UInt8} : decide (V.byt i = V.byt j) = (i.toList == j.toList) := by
 rw [Bool.eq_iff_iff]
 cases i
 cases j
 simp
section
variable {X : Cx} {a b c : Expr} {ta tb tc : TE} {pos : Pos}
theorem bU {pins : List (Addr × Obj)} {σ : St} {H : Hp} {s : Shared} {Q : VK} {k k' : Bool} (I : Inv X pins σ H s) (q : Q (.bl k) H) (e : k = k') : EP X pins σ Q (.bool k') s := by
 subst e
 exact ⟨.bl k, H, I, rfl, q⟩
theorem vf : OpR X (compareOp .Eq) rEq := by
 intro pins s σ H x y v u Q I rx ry h
 obtain ⟨hs, q⟩ := h
 cases x with
 | non =>
  cases rx
  cases y with
  | non => cases ry; exact PySem.EqNone.eq_none_none (bU I q (by simp))
  | bl j => cases ry; exact PySem.EqNone.eq_none_bool (bU I q (by simp))
  | int j => obtain ⟨t', rfl⟩ := ry; exact PySem.EqNone.eq_none_int (bU I q (by simp))
  | str j => obtain ⟨t', rfl⟩ := ry; exact PySem.EqNone.eq_none_str (bU I q (by simp))
  | _ => exact absurd (show false = true from hs) Bool.false_ne_true
 | bl i =>
  cases rx
  cases y with
  | non => cases ry; exact PySem.EqNone.eq_bool_none (bU I q (by simp))
  | bl j => cases ry; exact eq_bool (bU I q N5)
  | str j => obtain ⟨t', rfl⟩ := ry; exact PySem.EqMixed.eq_bool_str (bU I q (by simp))
  | _ => exact absurd (show false = true from hs) Bool.false_ne_true
 | int i =>
  obtain ⟨t, rfl⟩ := rx
  cases y with
  | non => cases ry; exact PySem.EqNone.eq_int_none (bU I q (by simp))
  | int j => obtain ⟨t', rfl⟩ := ry; exact eq_int (bU I q Ip)
  | str j => obtain ⟨t', rfl⟩ := ry; exact PySem.EqMixed.eq_int_str (bU I q (by simp))
  | _ => exact absurd (show false = true from hs) Bool.false_ne_true
 | str i =>
  obtain ⟨t, rfl⟩ := rx
  cases y with
  | non => cases ry; exact PySem.EqNone.eq_str_none (bU I q (by simp))
  | bl j => cases ry; exact PySem.EqMixed.eq_str_bool (bU I q (by simp))
  | int j => obtain ⟨t', rfl⟩ := ry; exact PySem.EqMixed.eq_str_int (bU I q (by simp))
  | str j => obtain ⟨t', rfl⟩ := ry; exact eq_str (bU I q Hj)
  | _ => exact absurd (show false = true from hs) Bool.false_ne_true
 | byt i =>
  obtain ⟨t, rfl⟩ := rx
  cases y with
  | byt j => obtain ⟨t', rfl⟩ := ry; exact PySem.W.eq_bytes (bU I q Hg)
  | _ => exact absurd (show false = true from hs) Bool.false_ne_true
 | _ => cases y <;> exact absurd (show false = true from hs) Bool.false_ne_true
theorem QL : OpR X (compareOp .NotEq) rNe := by
 intro pins s σ H x y v u Q I rx ry h
 obtain ⟨hs, q⟩ := h
 cases x with
 | non =>
  cases rx
  cases y with
  | non => cases ry; exact PySem.EqNone.ne_none_none (bU I q (by simp))
  | bl j => cases ry; exact PySem.EqNone.ne_none_bool (bU I q (by simp))
  | int j => obtain ⟨t', rfl⟩ := ry; exact PySem.EqNone.ne_none_int (bU I q (by simp))
  | str j => obtain ⟨t', rfl⟩ := ry; exact PySem.EqNone.ne_none_str (bU I q (by simp))
  | _ => exact absurd (show false = true from hs) Bool.false_ne_true
 | bl i =>
  cases rx
  cases y with
  | non => cases ry; exact PySem.EqNone.ne_bool_none (bU I q (by simp))
  | bl j => cases ry; exact ne_bool (bU I q (congrArg not N5))
  | str j => obtain ⟨t', rfl⟩ := ry; exact PySem.EqMixed.ne_bool_str (bU I q (by simp))
  | _ => exact absurd (show false = true from hs) Bool.false_ne_true
 | int i =>
  obtain ⟨t, rfl⟩ := rx
  cases y with
  | non => cases ry; exact PySem.EqNone.ne_int_none (bU I q (by simp))
  | int j => obtain ⟨t', rfl⟩ := ry; exact ne_int (bU I q (congrArg not Ip))
  | str j => obtain ⟨t', rfl⟩ := ry; exact PySem.EqMixed.ne_int_str (bU I q (by simp))
  | _ => exact absurd (show false = true from hs) Bool.false_ne_true
 | str i =>
  obtain ⟨t, rfl⟩ := rx
  cases y with
  | non => cases ry; exact PySem.EqNone.ne_str_none (bU I q (by simp))
  | bl j => cases ry; exact PySem.EqMixed.ne_str_bool (bU I q (by simp))
  | int j => obtain ⟨t', rfl⟩ := ry; exact PySem.EqMixed.ne_str_int (bU I q (by simp))
  | str j => obtain ⟨t', rfl⟩ := ry; exact ne_str (bU I q (congrArg not Hj))
  | _ => exact absurd (show false = true from hs) Bool.false_ne_true
 | byt i =>
  obtain ⟨t, rfl⟩ := rx
  cases y with
  | byt j => obtain ⟨t', rfl⟩ := ry; exact PySem.W.ne_bytes (bU I q (congrArg not Hg))
  | _ => exact absurd (show false = true from hs) Bool.false_ne_true
 | _ => cases y <;> exact absurd (show false = true from hs) Bool.false_ne_true
theorem Dg : OpR X (compareOp .Lt) (rI0 fun i j => .bl (decide (i < j))) := R9 fun _ _ _ _ _ _ _ q => lt_int q
theorem zJ : OpR X (compareOp .Gt) (rI0 fun i j => .bl (decide (j < i))) := R9 fun _ _ _ _ _ _ _ q => gt_int q
theorem Hm : OpR X (compareOp .GtE) (rI0 fun i j => .bl (decide (j <= i))) := R9 fun _ _ _ _ _ _ _ q => ge_int q
theorem Ag : OpR X (compareOp .IsNot) (fun x y H Q => y = .non /\ Q (.bl (!decide (x = .non))) H) := by
 intro pins s σ H x y v u Q I rx ry h
 obtain ⟨rfl, q⟩ := h
 cases ry
 refine isnot_none_gen (bU I q ?_)
 cases x <;> first
  | (cases rx; rfl)
  | (obtain ⟨t, rfl⟩ := rx; rfl)
theorem bM (b : Expr) {op : CmpOp} (h : op ≠ .In := by decide) (h2 : op ≠ .NotIn := by decide) : behindInMarks op b = false := by
 have e1 : (op == CmpOp.In) = false := by cases op <;> first | rfl | exact absurd rfl h
 have e2 : (op == CmpOp.NotIn) = false := by cases op <;> first | rfl | exact absurd rfl h2
 cases b <;> simp [behindInMarks, e1, e2]
theorem oR {op : CmpOp} {r : R2} (ho : OpR X (compareOp op) r) (ha : PE X a ta) (hb : PE X b tb) (hm : behindInMarks op b = false) : PE X (.Compare a [op] [b] pos) (tOp r ta tb) := by
 intro pins s σ H Q I h
 exact wpAny_Compare1 (Sw ha hb I h fun v u s2 x y H2 I2 rx ry q => ho pins s2 σ H2 x y v u Q I2 rx ry q) hm
def JW (t : TE) : TT := fun σ H Q => t σ H fun x H' => ∃ k, x = .bl k /\ Q k H'
theorem bI {op : CmpOp} {r : R2} (ho : OpR X (compareOp op) r) (ha : PE X a ta) (hb : PE X b tb) (hm : behindInMarks op b = false) : PT X (.Compare a [op] [b] pos) (JW (tOp r ta tb)) := by
 intro pins s σ H Q I h
 refine wpAny_isTrue_Compare1 (thn (ha pins s σ H _ I h) fun v s1 ⟨x, H1, I1, r1, q1⟩ => thn (hb pins s1 σ H1 _ I1 q1) fun u s2 ⟨y, H2, I2, r2, q2⟩ =>
  thn (ho pins s2 σ H2 x y v u _ I2 r1 r2 q2) fun c s3 ⟨z, H3, I3, r3, k, e, q3⟩ => ?_) hm
 subst e
 cases r3
 exact wpAny_truthy_bool ⟨H3, I3, q3⟩
def LK (K : PySem.W.Frag) (x : V) (H : Hp) (k : Bool) : Prop :=
 match x with
 | .non => k = false
 | .bl b => k = b
 | .int i => k = (i != 0)
 | .str y => y.length <= sizeLine /\ k = ((y.length : Int) != 0)
 | .byt y => y.size <= sizeLine /\ k = ((y.size : Int) != 0)
 | .ref p => (∃ xs, SqL K H p xs /\ k = !xs.isEmpty) ∨ (∃ xs, SqT K H p xs /\ k = !xs.isEmpty) ∨ ∃ kvs, H p = some (.dK kvs) /\ k = !kvs.isEmpty
 | _ => False
theorem Er {κ : Type} {kvs : List (κ × V)} {vs : List (κ × Value)} (r : KV kvs vs) : (!vs.isEmpty) = !kvs.isEmpty := by
 cases r <;> rfl
theorem wI {xs : List V} {its : List Value} (r : Vals xs its) : (!its.toArray.isEmpty) = !xs.isEmpty := by
 cases r <;> simp
theorem uz : (sizeLine : Nat) < 2 ^ 63 := by rw [sizeLine_eq]; decide
theorem Su : WM X (fun x H Q => ∃ k, LK X.K x H k /\ Q k H) := by
 intro pins s σ H x v Q I rx h
 obtain ⟨k, e, q⟩ := h
 have hl := uz
 have hs : sizeLine = 16777216 := sizeLine_eq
 cases x with
 | non =>
  cases rx
  have e' : k = false := e
  subst e'
  exact truthy_none ⟨H, I, q⟩
 | bl b =>
  cases rx
  have e' : k = b := e
  subst e'
  exact wpAny_truthy_bool ⟨H, I, q⟩
 | int i =>
  obtain ⟨t, rfl⟩ := rx
  have e' : k = (i != 0) := e
  subst e'
  exact PySem.P.truthy_int ⟨H, I, q⟩
 | str y =>
  obtain ⟨t, rfl⟩ := rx
  obtain ⟨hy, e'⟩ : y.length <= sizeLine /\ k = ((y.length : Int) != 0) := e
  subst e'
  exact PySem.P.truthy_str (by omega) ⟨H, I.tok _, q⟩
 | byt y =>
  obtain ⟨t, rfl⟩ := rx
  obtain ⟨hy, e'⟩ : y.size <= sizeLine /\ k = ((y.size : Int) != 0) := e
  subst e'
  exact PySem.W.truthy_bytes (by omega) ⟨H, I.tok _, q⟩
 | ref p =>
  cases rx
  have e' : (∃ xs, SqL X.K H p xs /\ k = !xs.isEmpty) ∨ (∃ xs, SqT X.K H p xs /\ k = !xs.isEmpty) ∨ ∃ kvs, H p = some (.dK kvs) /\ k = !kvs.isEmpty := e
  rcases e' with ⟨xs, hx, e'⟩ | ⟨xs, hx, e'⟩ | ⟨kvs, hx, e'⟩
  ·subst e'
   obtain ⟨its, r, pl, hz⟩ := I.list hx
   have hlen := r.length
   exact wpAny_truthy_list pl.isList (by simp only [List.size_toArray]; omega) ⟨H, I.tok _, by rw [wI r]; exact q⟩
  ·subst e'
   obtain ⟨its, r, pl, hz⟩ := I.tuple hx
   have hlen := r.length
   exact truthy_tuple pl (by simp only [List.size_toArray]; omega) ⟨H, I.tok _, by rw [wI r]; exact q⟩
  ·subst e'
   obtain ⟨hz, hS, vs, r, m⟩ : kvs.length <= sizeLine /\ (p == sysModules) = false /\ ∃ vs, KV kvs vs /\ s.heap.DictOf (bL X.prog X.w) p vs := I.hok p _ hx
   have hlen : kvs.length = vs.length := Paired.length r
   exact wpAny_truthy_dict hS m (by omega) ⟨H, I.tok _, by rw [Er r]; exact q⟩
 | _ => exact (show False from e).elim
theorem M5 (ha : PE X a ta) (he : ∀ whole, isTrue a X.env whole = (do let v ← whole; standAt a.pos; holding [v] (truthy v))) :
  PT X a (fun σ H Q => ta σ H fun x H' => ∃ k, LK X.K x H' k /\ Q k H') := by
 intro pins s σ H Q I h
 exact isTrue_plain (thn (ha pins s σ H _ I h) fun v s1 ⟨x, H1, I1, r1, q1⟩ => Su pins s1 σ H1 x v Q I1 r1 q1) (he _)
theorem vals1 {x : V} {us : List Value} (r : Vals [x] us) : ∃ u, us = [u] /\ RelV x u := by
 cases r with
 | cons r1 r2 => cases r2; exact ⟨_, rfl, r1⟩
theorem vals2 {x y : V} {us : List Value} (r : Vals [x, y] us) : ∃ u w', us = [u, w'] /\ RelV x u /\ RelV y w' := by
 cases r with
 | cons r1 r2 =>
  cases r2 with
  | cons r3 r4 => cases r4; exact ⟨_, _, rfl, r1, r3⟩
theorem NB : fK X (.builtin "abs") (fun xs H Q => ∃ i, xs = [.int i] /\ Q (.int (if i < 0 then -i else i)) H) := by
 intro pins s σ H xs us Q I r h
 obtain ⟨i, rfl, q⟩ := h
 obtain ⟨u, rfl, t, rfl⟩ := vals1 r
 exact call_abs_int fun u tk => ⟨.int (if i < 0 then -i else i), H, I.tok _, ⟨_, rfl⟩, q⟩
theorem Ji (hc : X.calm = true) : fK X (.builtin "max") (fun xs H Q => ∃ i j, xs = [.int i, .int j] /\ Q (.int (if j > i then j else i)) H) := by
 intro pins s σ H xs us Q I r h
 obtain ⟨i, j, rfl, q⟩ := h
 obtain ⟨u, w', rfl, ⟨t, rfl⟩, ⟨t', rfl⟩⟩ := vals2 r
 refine max_two_ints (I.ok.hd hc) fun h' tk k => ⟨_, H, I.kept k, ?_, q⟩
 by_cases hj : j > i
 ·rw [if_pos hj, if_pos hj]; exact ⟨_, rfl⟩
 ·rw [if_neg hj, if_neg hj]; exact ⟨_, rfl⟩
end
end L2
namespace L2
open PySem PySem.Spec PyProof.Rows
structure ObjM (h : Heap) (x dx C : Addr) (mA : Str -> Option Value) : Prop where
 obj : h.get? x = some (PySem.W.instObj C dx)
 ns : h.Ns1 dx mA
 ne : dx ≠ x
theorem JT {h : Heap} {dx : Addr} {mA : Str -> Option Value} (n : h.Ns1 dx mA) : ∃ od, h.get? dx = some od /\ ∀ name, PySem.W.lookIn name od = some (mA name) := by
 obtain ⟨o, es, ep, ho, hd, hk, _, hm⟩ := n
 refine ⟨o, ho, fun name => ?_⟩
 have e := hm name
 unfold nsFind findBy at e
 rw [← Array.find?_toList] at e
 unfold PySem.W.lookIn
 rw [hd]
 dsimp only
 split
 ·rename_i y q
  rw [q] at e
  exact congrArg some e
 ·rename_i q
  rw [q] at e
  have a : es.toList.any (·.refKey) = false := by
   rw [List.any_eq_false]
   intro y hy
   obtain ⟨z, t, hkey⟩ := hk y (Array.mem_toList_iff.mp hy)
   simp [DictEntry.refKey, hkey]
  have a' : ¬ es.toList.any (·.refKey) = true := by rw [a]; exact Bool.false_ne_true
  rw [if_neg a']
  exact congrArg some e
theorem ObjM.look {h : Heap} {x dx C : Addr} {mA : Str -> Option Value} (I : ObjM h x dx C mA) : ∃ od, PySem.W.InstAt h x (PySem.W.instObj C dx) C (some od) /\ ∀ name, PySem.W.lookIn name od = some (mA name) :=
 let ⟨od, ho, hl⟩ := JT I.ns
 ⟨od, ⟨I.obj, rfl, rfl, ho⟩, hl⟩
section
variable {prog : Program} {w : World} {A : Around} {E : Value -> Shared -> Prop} {s : Shared} {K : PySem.W.Frag} {x dx C f : Addr} {mA : Str -> Option Value} {name : Str} {v : Value}
theorem Qz {expr : Bool} {Q : Value -> Shared -> Prop} (X : K.In s.heap) (I : ObjM s.heap x dx C mA) (hg : PySem.W.plainGet K C name = true) (hh : PySem.W.hasDictIn K C = true)
  (ha : PySem.W.findIn K (.ref C) name = some none) (hv : mA name = some v) (hv' : PySem.W.handedIn v = true) (h : Q v { s with toks := s.toks + 1 }) :
  wpAny (model prog w) A (getAttr (.ref x) name expr) Q E s := by
 obtain ⟨od, J, hl⟩ := I.look
 exact PySem.W.get_value X J (PySem.W.plainGet_of hg).1 (PySem.W.findObj_own hh ha rfl (by rw [hl, hv])) hv' h
theorem Ng {pl : Sem Bool} {Q : Value × List Value -> Shared -> Prop} (X : K.In s.heap) (I : ObjM s.heap x dx C mA) (hg : PySem.W.plainGet K C name = true)
  (hf : PySem.W.findIn K (.ref C) name = some (some (.ref f))) (ht : PySem.W.isFn K (.ref f) = true) (hv : mA name = none) (h : Q (.ref f, [.ref x]) s) :
  wpAny (model prog w) A (getMethod (.ref x) name pl) Q E s := by
 obtain ⟨od, J, hl⟩ := I.look
 exact PySem.W.method_fn X J (PySem.W.plainGet_of hg).1 (PySem.W.plainGet_of hg).2 hf (beq_iff_eq.mp ht) (by show (PySem.W.lookIn name od).map (·.isSome) = some false; rw [hl, hv]; rfl) h
theorem Qu {ns : List Str} {Q : Unit -> Shared -> Prop} (X : K.In s.heap) (I : ObjM s.heap x dx C mA)
  (hs : PySem.W.findIn K (.ref C) "__setattr__" = some (some (.builtin "object.__setattr__"))) (hp : PySem.W.plainOver K C = true) (ht : PySem.W.takerIn K C name = some none) (hh : PySem.W.hasDictIn K C = true)
  (hw : PySem.Within mA ns) (hsz : ns.length <= sizeLine)
  (h : ∀ h', ObjM h' x dx C (fun y => if y = name then some v else mA y) -> Heap.SameBut dx s.heap h' -> Q () { s with heap := h', toks := s.toks + 2 }) :
  wpAny (model prog w) A (setAttr (.ref x) name v) Q E s := by
 obtain ⟨od, J, hl⟩ := I.look
 refine PySem.W.set_plain X J hs (PySem.W.osa_open (s := { s with toks := s.toks + 1 }) (r := none) X J hp ht fun b => ?_)
 obtain ⟨cd, hc, hd'⟩ := PySem.W.any_some hh
 have hx : s.heap.get? x = some ⟨.ref C, some dx, .plain, #[]⟩ := I.obj
 refine wpAny_bind (wpAny_pure (wpAny_bind (wpAny_bind (wpAny_loadPart hx (wpAny_bind (PySem.W.Looks.here (s := { s with toks := s.toks + 1 }) (PySem.W.looks_clsIn X hc) ?_))))))
 rw [hd']
 refine wpAny_pure (a := some dx) (wpAny_bind (wpAny_pure (wpAny_bind ?_)))
 refine wpAny_nsSet1 (s := { s with toks := s.toks + 1 }) I.ns fun h' hn2 hs2 => ?_
 obtain ⟨oD, esD, epD, hoD, hdD, hcD⟩ := hn2.count (PySem.Within.cons name v hw)
 refine wpAny_bind (wpAny_lookBehind hoD (by rw [hdD]; exact pastItsLine_dict (Nat.le_trans hcD (by rw [List.length_cons]; omega))) ?_)
 exact wpAny_pure (h _ ⟨(hs2.2 _ (Ne.symm I.ne)).trans I.obj, hn2, I.ne⟩ hs2)
theorem Mu {R : Result -> Shared -> Prop} {vs : List Value} {kw : List (Str × Value)} (X : K.In s.heap) (hm : PySem.W.makesIn K C = true)
  (hi : PySem.W.findIn K (.ref C) "__init__" = some (some (.ref f))) (hf : PySem.W.typeIn K (.ref f) = some (.type "function"))
  (h : codeAny (model prog w) (A.under (.builtin "type.__call__" ⟨.ref C :: vs, kw⟩)) (.call (.ref f) ⟨.ref (s.heap.objs.size + 1) :: vs, kw⟩) (PySem.W.InitBack (s.heap.objs.size + 1) R)
   { s with heap := (s.heap.push PySem.W.emptyDict).push (PySem.W.instObj C s.heap.objs.size) }) :
  codeAny (model prog w) A (.call (.ref C) ⟨vs, kw⟩) R s := by
 obtain ⟨hh, g, d, t, os⟩ := s
 exact PySem.W.make_core (PySem.W.makes_of X hm) (PySem.W.looks_findIn X hi) (fun self => PySem.W.bind_fn X self hf) (.inl rfl) h
end
def lD (f : Str) (v : V) : List (Str × V) -> List (Str × V)
 | [] => [(f, v)]
 | (g, x) :: r => if g = f then (g, v) :: r else (g, x) :: lD f v r
theorem vm (f g : Str) (v : V) : ∀ fs : List (Str × V), (lD f v fs).lookup g = if g = f then some v else fs.lookup g
 | [] => by
  show List.lookup g [(f, v)] = _
  by_cases h : g = f
  ·have hb : (g == f) = true := beq_iff_eq.mpr h
   simp only [List.lookup, hb, if_pos h]
  ·have hb : (g == f) = false := beq_eq_false_iff_ne.mpr h
   simp only [List.lookup, hb, if_neg h]
 | (k, x) :: r => by
  have ih := vm f g v r
  rw [show lD f v ((k, x) :: r) = (if k = f then (k, v) :: r else (k, x) :: lD f v r) from rfl]
  by_cases hk : k = f
  ·rw [if_pos hk]
   by_cases h : g = k
   ·have hb : (g == k) = true := beq_iff_eq.mpr h
    simp only [List.lookup, hb, if_pos (h.trans hk)]
   ·have hb : (g == k) = false := beq_eq_false_iff_ne.mpr h
    simp only [List.lookup, hb, if_neg (fun e : g = f => h (e.trans hk.symm))]
  ·rw [if_neg hk]
   by_cases h : g = k
   ·have hb : (g == k) = true := beq_iff_eq.mpr h
    simp only [List.lookup, hb, if_neg (fun e : g = f => hk (h.symm.trans e))]
   ·have hb : (g == k) = false := beq_eq_false_iff_ne.mpr h
    simp only [List.lookup, hb]
    exact ih
theorem uJ (f : Str) (v : V) : ∀ fs : List (Str × V), f ∈ (lD f v fs).map (·.1) /\ ∀ g, g ∈ fs.map (·.1) -> g ∈ (lD f v fs).map (·.1)
 | [] => ⟨by simp [lD], fun g h => by simp at h⟩
 | (k, x) :: r => by
  obtain ⟨i1, i2⟩ := uJ f v r
  rw [show lD f v ((k, x) :: r) = (if k = f then (k, v) :: r else (k, x) :: lD f v r) from rfl]
  by_cases hk : k = f
  ·rw [if_pos hk]
   subst hk
   exact ⟨by simp, fun g h => by simpa using h⟩
  ·rw [if_neg hk]
   refine ⟨?_, fun g h => ?_⟩
   ·rw [List.map_cons]
    exact List.mem_cons_of_mem _ i1
   ·rw [List.map_cons] at h ⊢
    rcases List.mem_cons.mp h with e | e
    ·exact List.mem_cons.mpr (.inl e)
    ·exact List.mem_cons_of_mem _ (i2 g e)
theorem vH (f : Str) (v : V) : ∀ fs : List (Str × V), (lD f v fs).length <= fs.length + 1
 | [] => by simp [lD]
 | (k, x) :: r => by
  have ih := vH f v r
  rw [show lD f v ((k, x) :: r) = (if k = f then (k, v) :: r else (k, x) :: lD f v r) from rfl]
  by_cases hk : k = f
  ·rw [if_pos hk, List.length_cons, List.length_cons]; omega
  ·rw [if_neg hk, List.length_cons, List.length_cons]; omega
theorem RelO.some_of {v : V} {o : Option Value} (r : RelO (some v) o) : ∃ u, o = some u /\ RelV v u := by
 cases o with
 | none => exact (show False from r).elim
 | some u => exact ⟨u, rfl, r⟩
theorem RelO.none_of {o : Option Value} (r : RelO none o) : o = none := by
 cases o with
 | none => rfl
 | some u => exact (show False from r).elim
theorem Jv {v : V} {u : Value} (r : RelV v u) : PySem.W.handedIn u = true := by
 cases v with
 | non => cases (show u = Value.none from r); rfl
 | bl b => cases (show u = Value.bool b from r); rfl
 | int i => obtain ⟨t, e⟩ := (show ∃ t, u = Value.int i t from r); cases e; rfl
 | str x => obtain ⟨t, e⟩ := (show ∃ t, u = Value.str x t from r); cases e; rfl
 | byt b => obtain ⟨t, e⟩ := (show ∃ t, u = Value.bytes b t from r); cases e; rfl
 | flt b => obtain ⟨t, e⟩ := (show ∃ t, u = Value.float b t from r); cases e; rfl
 | ref a => cases (show u = Value.ref a from r); rfl
 | ty n => cases (show u = Value.type n from r); rfl
section
variable {P : Program} {w : World} {H H' : Hp} {h h' : Heap} {a C dx : Addr} {fs fs' : List (Str × V)}
theorem wA (hok : HOk P w H h) (e : H a = some (.ins C dx fs)) : ∃ mA, ObjM h a dx C mA /\ (∀ f, RelO (fs.lookup f) (mA f)) /\ PySem.Within mA (fs.map (·.1)) /\ fs.length <= 1000 /\ H dx = some (.own a) := by
 obtain ⟨d, z, ne, ob, mA, n, r, q⟩ := (show ObjOk P w H h a (.ins C dx fs) from hok a _ e)
 exact ⟨mA, ⟨ob, n, ne⟩, r, q, z, d⟩
end
structure Cls (K : PySem.W.Frag) (C : Addr) : Prop where
 pg : PySem.W.plainGet K C Str.empty = true
 hd : PySem.W.hasDictIn K C = true
 po : PySem.W.plainOver K C = true
 sa : PySem.W.findIn K (.ref C) "__setattr__" = some (some (.builtin "object.__setattr__"))
theorem Cls.get {K : PySem.W.Frag} {C : Addr} (c : Cls K C) (f : Str) : PySem.W.plainGet K C f = true := c.pg
def NoAttr (K : PySem.W.Frag) (C : Addr) (f : Str) : Prop := PySem.W.findIn K (.ref C) f = some none
theorem NoAttr.taker {K : PySem.W.Frag} {C : Addr} {f : Str} (n : NoAttr K C f) : PySem.W.takerIn K C f = some none := by
 unfold PySem.W.takerIn
 rw [show PySem.W.findIn K (.ref C) f = some none from n]
 rfl
structure Meth (K : PySem.W.Frag) (C : Addr) (m : Str) (f : Addr) : Prop where
 at_ : PySem.W.findIn K (.ref C) m = some (some (.ref f))
 fn : PySem.W.isFn K (.ref f) = true
 kp : PySem.W.keepIn K (.ref f) = true
section
variable {X : Cx} {pins : List (Addr × Obj)} {σ : St} {H : Hp} {s : Shared} {a C dx : Addr} {fs : List (Str × V)} {f : Str} {v : V} {A : Around} {E : Value -> Shared -> Prop}
theorem Gy {b : Bool} {Q : Value -> Shared -> Prop} (I : Inv X pins σ H s) (e : H a = some (.ins C dx fs)) (c : Cls X.K C) (n : NoAttr X.K C f) (l : fs.lookup f = some v)
  (h : ∀ u s', Inv X pins σ H s' -> RelV v u -> Q u s') : wpAny (model X.prog X.w) A (getAttr (.ref a) f b) Q E s := by
 obtain ⟨mA, O, r, _, _, _⟩ := wA I.hok e
 obtain ⟨u, hu, ru⟩ := RelO.some_of (v := v) (o := mA f) (by rw [← l]; exact r f)
 exact Qz I.kIn O (c.get f) c.hd n hu (Jv ru) (h u _ (I.tok _) ru)
theorem xQ {m : Str} {g : Addr} {pl : Sem Bool} {Q : Value × List Value -> Shared -> Prop} (I : Inv X pins σ H s) (e : H a = some (.ins C dx fs)) (c : Cls X.K C) (k : Meth X.K C m g) (l : fs.lookup m = none)
  (h : Q (.ref g, [.ref a]) s) : wpAny (model X.prog X.w) A (getMethod (.ref a) m pl) Q E s := by
 obtain ⟨mA, O, r, _, _, _⟩ := wA I.hok e
 have hn : mA m = none := RelO.none_of (by rw [← l]; exact r m)
 exact Ng I.kIn O (c.get m) k.at_ k.fn hn h
theorem GD {y : V} {u : Value} {Q : Unit -> Shared -> Prop} (I : Inv X pins σ H s) (e : H a = some (.ins C dx fs)) (c : Cls X.K C) (n : NoAttr X.K C f) (hl : fs.length < 1000) (ry : RelV y u)
  (h : ∀ s', Inv X pins σ (upd H a (.ins C dx (lD f y fs))) s' -> Q () s') : wpAny (model X.prog X.w) A (setAttr (.ref a) f u) Q E s := by
 obtain ⟨mA, O, r, wi, _, ho⟩ := wA I.hok e
 have hz : (fs.map (·.1)).length <= sizeLine := by rw [List.length_map, sizeLine_eq]; omega
 refine Qu I.kIn O c.sa c.po n.taker c.hd wi hz fun h' O' sb => h _ ?_
 have hd : ∃ o, h'.get? dx = some o := let ⟨o, _, _, e', _⟩ := O'.ns; ⟨o, e'⟩
 refine I.write (x := a) (e := dx) (by rw [e]; exact True.intro) (.inr ho) (fun b q hb z => (sb.2 b hb).trans z) hd ?_
 refine ⟨by rw [aL O.ne]; exact ho, ?_, O.ne, O'.obj, _, O'.ns, fun g => ?_, fun g hg => ?_⟩
 ·have := vH f y fs; omega
 ·show RelO ((lD f y fs).lookup g) (if g = f then some u else mA g)
  rw [vm]
  by_cases q : g = f
  ·rw [if_pos q, if_pos q]; exact ry
  ·rw [if_neg q, if_neg q]; exact r g
 ·by_cases q : g = f
  ·rw [q]; exact (uJ f y fs).1
  ·refine (uJ f y fs).2 g (wi g fun z => hg ?_)
   show (if g = f then some u else mA g) = none
   rw [if_neg q]; exact z
theorem Inv.made (I : Inv X pins σ H s) : Inv X pins σ (upd (upd H s.heap.objs.size (.own (s.heap.objs.size + 1))) (s.heap.objs.size + 1) (.ins C s.heap.objs.size []))
  { s with heap := (s.heap.push PySem.W.emptyDict).push (PySem.W.instObj C s.heap.objs.size) } := by
 have e1 : (s.heap.push PySem.W.emptyDict).get? s.heap.objs.size = some PySem.W.emptyDict := Heap.get?_push_size s.heap rfl
 have e2 : ((s.heap.push PySem.W.emptyDict).push (PySem.W.instObj C s.heap.objs.size)).get? (s.heap.objs.size + 1) = some (PySem.W.instObj C s.heap.objs.size) := by
  have := Heap.get?_push_size (s.heap.push PySem.W.emptyDict) (o := PySem.W.instObj C s.heap.objs.size) rfl
  rwa [Heap.size_push] at this
 have e3 : (s.heap.push PySem.W.emptyDict).Ns s.heap.objs.size (fun _ => none) := ⟨PySem.W.emptyDict, #[], _, e1, rfl, (fun e he => absurd he (by simp)), fun _ => rfl⟩
 have I1 := I.laid (a := s.heap.objs.size) (o := .own (s.heap.objs.size + 1)) (h' := s.heap.push PySem.W.emptyDict) (t' := s.toks) (fun b u q => Heap.get?_push_of_some _ q) (Nat.le_refl _) ⟨_, e1⟩
 refine I1.laid (a := s.heap.objs.size + 1) (o := .ins C s.heap.objs.size []) (t' := s.toks) (fun b u q => Heap.get?_push_of_some _ q) (Nat.le_of_eq (Heap.size_push _ _)) ?_
 have ne : s.heap.objs.size ≠ s.heap.objs.size + 1 := Nat.ne_of_lt (Nat.lt_succ_self _)
 refine ⟨by rw [aL ne, aB], Nat.zero_le _, ne, e2, fun _ => none, (Heap.Ns1.of_empty e3).at fun o q => Heap.get?_push_of_some _ q, fun _ => True.intro, fun y hy => absurd rfl hy⟩
theorem Pk {prog : Program} {w : World} {env : Env} {e : Expr} {f : Str} {pos : Pos} {s : Shared} {Q : Value -> Shared -> Prop} (hb : attributeBase e f env (eval e env) = eval e env)
  (h : wpAny (model prog w) A (eval e env) (fun o s₁ => wpAny (model prog w) A (getAttr o f true) Q E s₁) E s) : wpAny (model prog w) A (eval (.Attribute e f pos) env) Q E s :=
 Attribute_any_ h (by rw [arm_eval_Attribute, hb])
end
def TX (K : PySem.W.Frag) (ta : TE) (f : Str) : TE := fun σ H Q => ta σ H fun x H1 => ∃ a C dx fs v, x = .ref a /\ H1 a = some (.ins C dx fs) /\ Cls K C /\ NoAttr K C f /\ fs.lookup f = some v /\ Q v H1
def KR (K : PySem.W.Frag) (ta tv : TE) (f : Str) : TS := fun D σ H => tv σ H fun y H1 => ta σ H1 fun x H2 => ∃ a C dx fs, x = .ref a /\ H2 a = some (.ins C dx fs) /\ Cls K C /\ NoAttr K C f /\ fs.length < 1000 /\
 D.nx σ (upd H2 a (.ins C dx (lD f y fs)))
section
variable {X : Cx} {o e value : Expr} {f : Str} {pos pos' tpos : Pos} {ta tv : TE}
theorem Th (he : PE X e ta) (hb : attributeBase e f X.env (eval e X.env) = eval e X.env) : PE X (.Attribute e f pos) (TX X.K ta f) := by
 intro pins s σ H Q I h
 refine Pk hb (thn (he pins s σ H _ I h) fun u s1 ⟨x, H1, I1, rx, a, C, dx, fs, v, ex, ea, c, n, l, q⟩ => ?_)
 subst ex
 obtain rfl : u = Value.ref a := rx
 exact Gy I1 ea c n l fun u' s2 I2 ru => ⟨v, H1, I2, ru, q⟩
theorem TF (ha : PE X o ta) (hv : PE X value tv) (hs : swapsWith value (some (.Attribute o f pos')) pos.line X.env = pure false) : PS X (.Assign [.Attribute o f pos'] value pos) (KR X.K ta tv f) := by
 intro pins s σ H D I h
 refine plainObj_wpAny_Assign_Attribute (thn (hv pins s σ H _ I h) fun u s1 ⟨y, H1, I1, ry, q⟩ => thn (ha pins s1 σ H1 _ I1 q) fun ov s2 ⟨x, H2, I2, rx, a, C, dx, fs, ex, ea, c, n, l, q2⟩ => ?_) hs
 subst ex
 obtain rfl : ov = Value.ref a := rx
 exact GD I2 ea c n l ry fun s3 I3 => ⟨σ, _, I3, q2⟩
end
section
variable {X : Cx} {pins : List (Addr × Obj)} {σ : St} {H : Hp} {s : Shared} {A : Around} {E : Value -> Shared -> Prop} {Q : Value -> Shared -> Prop} {c : Value} {b : Bool}
inductive TyOf (K : PySem.W.Frag) (H : Hp) : V -> Value -> Prop where
 | non : TyOf K H .non (.type "NoneType")
 | bl (x : Bool) : TyOf K H (.bl x) (.type "bool")
 | int (i : Int) : TyOf K H (.int i) (.type "int")
 | str (x : Str) : TyOf K H (.str x) (.type "str")
 | flt (x : UInt64) : TyOf K H (.flt x) (.type "float")
 | lst {a : Addr} {xs : List V} (e : H a = some (.lst xs)) : TyOf K H (.ref a) (.type "list")
 | frz {a : Addr} {o : Obj} {xs : List V} (e : H a = some (.frz o (.lst xs))) : TyOf K H (.ref a) (.type "list")
 | tup {a : Addr} {xs : List V} (e : H a = some (.tup xs)) : TyOf K H (.ref a) (.type "tuple")
 | dK {a : Addr} {kvs : List (Key × V)} (e : H a = some (.dK kvs)) : TyOf K H (.ref a) (.type "dict")
 | dT {a : Addr} {kvs : List (List Key × V)} (e : H a = some (.dT kvs)) : TyOf K H (.ref a) (.type "dict")
 | ins {a C dx : Addr} {fs : List (Str × V)} (e : H a = some (.ins C dx fs)) (cl : Cls K C) (ha : PySem.W.findIn K (.ref C) "__class__" = some (some (.builtin "object.__class__")))
   (hn : PySem.W.specialIn K (.builtin "object.__class__") "__get__" = some (some (.builtin "getset_descriptor.__get__"))) (htk : PySem.W.takesIn K (.builtin "object.__class__") = some true)
   (hm : PySem.W.mroIn K C (.type "object") = some true) : TyOf K H (.ref a) (.ref C)
theorem JQ {x : V} {u t : Value} (I : Inv X pins σ H s) (rx : RelV x u) (ty : TyOf X.K H x t) (e : PySem.W.kitOne X.K t c = some b) (h : ∀ tk, Q (.bool b) { s with toks := tk }) :
  wpAny (model X.prog X.w) A (call (.builtin "isinstance") [u, c]) Q E s := by
 cases ty with
 | non => cases (show u = Value.none from rx); exact PySem.W.kia_one PySem.W.kitx_none I.kIn True.intro e (fun z => nomatch z) h
 | bl y => cases (show u = Value.bool y from rx); exact PySem.W.kia_one PySem.W.kitx_bool I.kIn True.intro e (fun z => nomatch z) h
 | int i => obtain ⟨t, q⟩ := (show ∃ t, u = Value.int i t from rx); cases q; exact PySem.W.kia_one PySem.W.kitx_int I.kIn True.intro e (fun z => nomatch z) h
 | str y => obtain ⟨t, q⟩ := (show ∃ t, u = Value.str y t from rx); cases q; exact PySem.W.kia_one PySem.W.kitx_str I.kIn True.intro e (fun z => nomatch z) h
 | flt y => obtain ⟨t, q⟩ := (show ∃ t, u = Value.float y t from rx); cases q; exact PySem.W.kia_one PySem.W.kitx_float I.kIn True.intro e (fun z => nomatch z) h
 | @lst a xs ea =>
  cases (show u = Value.ref a from rx)
  obtain ⟨_, _, n, _, h1⟩ := (show ObjOk X.prog X.w H s.heap a (.lst xs) from I.hok a _ ea)
  exact PySem.W.kia_one PySem.W.kitx_list I.kIn ⟨_, h1, rfl⟩ e (fun z => nomatch z) h
 | @frz a ob xs ea =>
  cases (show u = Value.ref a from rx)
  obtain ⟨_, _, _, n, _, h1⟩ := (show ObjOk X.prog X.w H s.heap a (.frz ob (.lst xs)) from I.hok a _ ea)
  exact PySem.W.kia_one PySem.W.kitx_list I.kIn ⟨_, h1, rfl⟩ e (fun z => nomatch z) h
 | @tup a xs ea =>
  cases (show u = Value.ref a from rx)
  obtain ⟨_, _, _, p⟩ := (show ObjOk X.prog X.w H s.heap a (.tup xs) from I.hok a _ ea)
  obtain ⟨o, h1, h2, _⟩ := p
  exact PySem.W.kia_one PySem.W.kitx_tuple I.kIn ⟨o, h1, h2⟩ e (fun z => nomatch z) h
 | @dK a kvs ea =>
  cases (show u = Value.ref a from rx)
  obtain ⟨_, _, vs, _, p⟩ := (show ObjOk X.prog X.w H s.heap a (.dK kvs) from I.hok a _ ea)
  obtain ⟨o, es, ep, h1, h2, _⟩ := p
  exact PySem.W.kia_one PySem.W.kitx_dict I.kIn ⟨o, h1, h2.1⟩ e (fun z => nomatch z) h
 | @dT a kvs ea =>
  cases (show u = Value.ref a from rx)
  obtain ⟨_, _, xs, _, o, es, ep, h1, h2, _⟩ := (show ObjOk X.prog X.w H s.heap a (.dT kvs) from I.hok a _ ea)
  exact PySem.W.kia_one PySem.W.kitx_dict I.kIn ⟨o, h1, h2.1⟩ e (fun z => nomatch z) h
 | @ins a C dx fs ea cl ha hn htk hm =>
  cases (show u = Value.ref a from rx)
  obtain ⟨mA, O, _⟩ := wA I.hok ea
  obtain ⟨od, J, _⟩ := O.look
  exact PySem.W.kia_one (PySem.W.kitx_own (cl.get _) cl.hd ha hn htk hm) I.kIn J e (fun z => nomatch z) h
end
end L2
namespace L2
open PySem PySem.Spec PyProof.Rows
structure Room (k : Nat) (A : Around) : Prop where
 hd : A.handled = none
 dp : A.depth + 3 * k + 5 < recursionLimit
 un : A.units + 16 * k + 200 < cLine
theorem Room.mono {j k : Nat} {A : Around} (r : Room k A) (h : j <= k) : Room j A := ⟨r.hd, by have := r.dp; omega, by have := r.un; omega⟩
theorem Room.deeper {k : Nat} {A : Around} (r : Room (k + 1) A) (env : Env) : Room k (A.deeper env) :=
 ⟨r.hd, by have := r.dp; show A.depth + 1 + 3 * k + 5 < _; omega, by have := r.un; show A.units + 3 + 16 * k + 200 < _; omega⟩
theorem G3 {A : Around} {C : Addr} {us : List Value} {kw : List (Str × Value)} : (A.under (.builtin "type.__call__" ⟨.ref C :: us, kw⟩)).depth = A.depth + 1 := by
 first | rfl | simp [Around.under, Code.weight, Code.isCreation, Code.isGuard, Code.isCaller, Code.frames, Code.isFrame, guardIds]
theorem Gv {A : Around} {C : Addr} {us : List Value} {kw : List (Str × Value)} : (A.under (.builtin "type.__call__" ⟨.ref C :: us, kw⟩)).units = A.units + 1 := by
 first | rfl | simp [Around.under, Code.cUnits, Code.frames, Code.isFrame]
theorem Room.make {k : Nat} {A : Around} (r : Room (k + 1) A) (C : Addr) (us : List Value) (kw : List (Str × Value)) : Room k (A.under (.builtin "type.__call__" ⟨.ref C :: us, kw⟩)) :=
 ⟨r.hd, by have := r.dp; rw [G3]; omega, by have := r.un; rw [Gv]; omega⟩
theorem Room.depth {k : Nat} {A : Around} (r : Room k A) : A.depth < recursionLimit := by have := r.dp; omega
theorem Room.units {k : Nat} {A : Around} (r : Room k A) : A.units + 64 < cLine := by have := r.un; omega
theorem Room.units0 {k : Nat} {A : Around} (r : Room k A) : A.units < cLine := by have := r.un; omega
def Ez : TA := fun _ H Q => Q [] H
def wK (ta : TE) (tr : TA) : TA := fun σ H Q => ta σ H fun x H1 => tr σ H1 fun xs H2 => Q (x :: xs) H2
section
variable {X : Cx} {e : Expr} {es : List Expr} {te : TE} {t : TA} {pos : Pos}
theorem ak : PA X [] Ez := fun _ _ _ _ H Q I h => Calls.spliced_nil ⟨[], H, I, .nil, h⟩
theorem aa (ha : PE X e te) (hr : PA X es t) (hs : starEach (e :: es) X.env = (false, eval e X.env) :: starEach es X.env := by rfl) : PA X (e :: es) (wK te t) := by
 intro pos pins s σ H Q I h
 rw [hs]
 show wpAny _ _ (spliced ((false, eval e X.env) :: backTo pos (starEach es X.env))) _ _ s
 refine Calls.spliced_cons (thn (ha pins s σ H _ I h) fun u s1 ⟨x, H1, I1, r1, q1⟩ => ?_)
 exact thn (hr pos pins s1 σ H1 _ I1 q1) fun us s2 ⟨xs, H2, I2, r2, q2⟩ => ⟨x :: xs, H2, I2, .cons r1 r2, q2⟩
def Ux (t : TA) : TE := fun σ H Q => t σ H fun xs H1 => xs.length <= sizeLine /\ ∀ p, H1 p = none -> Q (.ref p) (upd H1 p (.tup xs))
def Wn (t : TA) : TE := fun σ H Q => t σ H fun xs H1 => xs.length <= sizeLine /\ ∀ p, H1 p = none -> Q (.ref p) (upd H1 p (.lst xs))
theorem dF {x1} (h : PA X es t) : PE X (.Tuple es x1 pos) (Ux t) := by
 intro pins s σ H Q I hq
 refine wpAny_Tuple_spliced (thn (h pos pins s σ H _ I hq) fun us s1 ⟨xs, H1, I1, r, z, q⟩ => ⟨by rw [← r.length]; exact z, ?_⟩)
 have hf : H1 s1.heap.objs.size = none := I1.hok.fresh (Nat.le_refl _)
 refine ⟨.ref s1.heap.objs.size, upd H1 s1.heap.objs.size (.tup xs), I1.laid (t' := s1.toks) (fun b u e => Heap.get?_push_of_some _ e) (Nat.le_refl _) ?_, rfl, q _ hf⟩
 exact ⟨z, us, r, IsTpl.new _ _⟩
theorem j7 (h : PA X es t) : PE X (.List es pos) (Wn t) := by
 intro pins s σ H Q I hq
 refine wpAny_List_spliced (thn (h pos pins s σ H _ I hq) fun us s1 ⟨xs, H1, I1, r, z, q⟩ => ⟨by rw [← r.length]; exact z, ?_⟩)
 have hf : H1 s1.heap.objs.size = none := I1.hok.fresh (Nat.le_refl _)
 refine ⟨.ref s1.heap.objs.size, upd H1 s1.heap.objs.size (.lst xs), I1.laid (t' := s1.toks) (fun b u e => Heap.get?_push_of_some _ e) (Nat.le_refl _) ?_, rfl, q _ hf⟩
 exact ⟨z, us, 0, r, Heap.get?_push_size _ rfl⟩
end
abbrev Sp := List V -> Hp -> VK -> XK -> Prop
abbrev CXT := List Env -> Hp -> Shared -> XK -> Value -> Shared -> Prop
structure Env0 (P : Program) (w : World) (K : PySem.W.Frag) (mg : Str -> Option Value) (base : Heap) (A : Around) (outer : List Env) (s : Shared) (H : Hp) : Prop where
 frames : A.frames = some outer
 mod : Mod K mg base
 bs : ∀ b o, base.get? b = some o -> s.heap.get? b = some o /\ H b = none
 bsz : base.objs.size <= s.heap.objs.size
 funs : s.heap.FunFrames base outer
 frf : ∀ b ∈ frs outer, H b = none
 hok : HOk P w H s.heap
 bare : AllBare s.gens
def CE (outer : List Env) (P : Program) (w : World) (H : Hp) (s : Shared) (Q : VK) (u : Value) (s' : Shared) : Prop :=
 ∃ v H', s'.os = s.os /\ AllBare s'.gens /\ Un (frs outer) [] H H' s.heap s'.heap /\ HOk P w H' s'.heap /\ RelV v u /\ Q v H'
def CR (CX : CXT) (outer : List Env) (P : Program) (w : World) (H : Hp) (s : Shared) (Q : VK) (E : XK) (r : Result) (s' : Shared) : Prop :=
 match r with
 | .ok (.ret u) => CE outer P w H s Q u s'
 | .ok _ => False
 | .error e => CX outer H s E e s'
structure FnOk (P : Program) (w : World) (K : PySem.W.Frag) (mg : Str -> Option Value) (base : Heap) (CX : CXT) (k : Nat) (f : Addr) (fd : FuncData) (ps : List Str) (sp : Sp) : Prop where
 len : ∀ vs H Q E, sp vs H Q E -> vs.length = ps.length
 run : ∀ (A : Around) (outer : List Env) (s : Shared) (H : Hp) (args : Args) (us : List Value) (vs : List V) (Q : VK) (E : XK), Room k A -> Env0 P w K mg base A outer s H -> BindsTo s fd args (ps.zip us) -> Vals vs us -> sp vs H Q E ->
  codeAny (model P w) A (.call (.ref f) args) (CR CX outer P w H s Q E) s
theorem FnOk.mono {P : Program} {w : World} {K : PySem.W.Frag} {mg : Str -> Option Value} {base : Heap} {CX : CXT} {j k : Nat} {f : Addr} {fd : FuncData} {ps : List Str} {sp : Sp} (F : FnOk P w K mg base CX j f fd ps sp) (h : j <= k) :
  FnOk P w K mg base CX k f fd ps sp := ⟨F.len, fun A outer s H args us vs Q E hr => F.run A outer s H args us vs Q E (hr.mono h)⟩
theorem Env0.make {P : Program} {w : World} {K : PySem.W.Frag} {mg : Str -> Option Value} {base : Heap} {A : Around} {outer : List Env} {s : Shared} {H : Hp} (e : Env0 P w K mg base A outer s H) (C : Addr) (us : List Value) (kw : List (Str × Value)) :
  Env0 P w K mg base (A.under (.builtin "type.__call__" ⟨.ref C :: us, kw⟩)) outer s H := ⟨by first | exact e.frames | (simpa [Around.under, Code.envs, Code.isFrame, pushEnvs] using e.frames), e.mod, e.bs, e.bsz, e.funs, e.frf, e.hok, e.bare⟩
section
variable {X : Cx} {pins : List (Addr × Obj)} {σ : St} {H : Hp} {s s' : Shared}
theorem Inv.env0 (I : Inv X pins σ H s) : Env0 X.prog X.w X.K X.mg X.base X.A X.stack s H :=
 ⟨I.ok.frames, I.ok.mod, I.bs, Nat.le_trans I.ok.bsz I.sz, I.stack, I.stkFree, I.hok, I.bare⟩
theorem Inv.after {Q : VK} {u : Value} (I : Inv X pins σ H s) (h : CE X.stack X.prog X.w H s Q u s') : EP X pins σ Q u s' := by
 obtain ⟨v, H', os, bare, un, hok, r, q⟩ := h
 obtain ⟨hh, g, d, t, os'⟩ := s'
 obtain rfl : os' = s.os := os
 exact ⟨v, H', I.call (h' := hh) (g' := g) (d' := d) (t' := t) (ch := []) un hok bare (fun b z => absurd z (by simp)), r, q⟩
end
def Hx (sp : Sp) (dvs : List V) (E : XK) (t : TA) : TE := fun σ H Q => t σ H fun vs H1 => sp (vs ++ dvs) H1 Q E
def Q9 (C : Addr) (sp : Sp) (dvs : List V) (E : XK) (t : TA) : TE := fun σ H Q => t σ H fun vs H1 => ∀ x dx, H1 x = none -> H1 dx = none -> dx ≠ x ->
 sp (.ref x :: (vs ++ dvs)) (upd (upd H1 dx (.own x)) x (.ins C dx [])) (fun v H2 => v = .non /\ Q (.ref x) H2) E
def Binds (K : PySem.W.Frag) (fd : FuncData) (ps : List Str) (ds : List Value) : Prop :=
 ∀ (s : Shared) (us : List Value), K.In s.heap -> (us ++ ds).length = ps.length -> BindsTo s fd ⟨us, []⟩ (ps.zip (us ++ ds))
theorem Binds.all {K : PySem.W.Frag} {fd : FuncData} {ps : List Str} (h : ∀ us : List Value, us.length = ps.length -> bindArgs fd ⟨us, []⟩ = pure (ps.zip us)) : Binds K fd ps [] := fun s us _ hl => by
 rw [List.append_nil] at hl ⊢
 exact .of_eq (h us hl)
def xM (CX : CXT) (X : Cx) (E : XK) : Prop := ∀ (pins : List (Addr × Obj)) (σ : St) (H : Hp) (s : Shared) (e : Value) (s' : Shared), Inv X pins σ H s -> CX X.stack H s E e s' -> X.xe e s'
section
variable {X : Cx} {CX : CXT} {k : Nat} {f C : Addr} {fd : FuncData} {ps : List Str} {sp : Sp} {dvs : List V} {ds : List Value} {E : XK} {x m : Str} {p pos apos : Pos} {e o : Expr} {es : List Expr} {ta : TE} {t : TA}
theorem sX {pins : List (Addr × Obj)} {σ : St} {H : Hp} {s : Shared} {Q : VK} {us : List Value} {vs : List V} (F : FnOk X.prog X.w X.K X.mg X.base CX k f fd ps sp) (hr : Room k X.A) (hb : Binds X.K fd ps ds) (hd : Vals dvs ds) (hx : xM CX X E)
  (I : Inv X pins σ H s) (r : Vals vs us) (h : sp (vs ++ dvs) H Q E) : wpAny (model X.prog X.w) X.A (call (.ref f) us) (EP X pins σ Q) X.xe s := by
 have r2 : Vals (vs ++ dvs) (us ++ ds) := r.append hd
 have hl : (us ++ ds).length = ps.length := by rw [← r2.length]; exact F.len _ _ _ _ h
 refine wpAny_call (codeAny_mono (F.run X.A X.stack s H ⟨us, []⟩ (us ++ ds) (vs ++ dvs) Q E hr I.env0 (hb s us I.kIn hl) r2 h) fun r s' hq => ?_)
 cases r with
 | error e => exact hx pins σ H s e s' I hq
 | ok fl =>
  cases fl with
  | ret u => exact I.after hq
  | next => exact False.elim hq
  | brk => exact False.elim hq
  | cont => exact False.elim hq
theorem Ov (F : FnOk X.prog X.w X.K X.mg X.base CX k f fd ps sp) (hr : Room k X.A) (hg : Gl X x) (hm : X.mg x = some (.ref f)) (hk : PySem.W.keepIn X.K (.ref f) = true) (hb : Binds X.K fd ps ds) (hd : Vals dvs ds) (hx : xM CX X E)
  (ha : PA X (e :: es) t) (hdb : (x == ("__debug__" : Str)) = false := by decide) (he : starEach (e :: es) X.env = (false, eval e X.env) :: starEach es X.env := by rfl) (hpl : (backTo pos (starEach es X.env)).any (·.1) = false := by rfl) :
  PE X (.Call (.Name x p) (e :: es) [] pos) (Hx sp dvs E t) := by
 intro pins s σ H Q I h
 refine wpAny_Call_Name_kw (uq I hg hm ?_ hdb)
 refine PySem.W.callWith_K (h₀ := X.base) I.ok.mod.kin hk (thn (ha pos pins s σ H _ I h) fun us s1 ⟨vs, H1, I1, r, q⟩ => ⟨I1.kIn, ?_⟩) he hpl
 exact sX F hr hb hd hx I1 r q
structure Mk (K : PySem.W.Frag) (C f : Addr) : Prop where
 makes : PySem.W.makesIn K C = true
 init : PySem.W.findIn K (.ref C) "__init__" = some (some (.ref f))
 fn : PySem.W.isFn K (.ref f) = true
 kp : PySem.W.keepIn K (.ref C) = true
theorem Nz {pins : List (Addr × Obj)} {σ : St} {H : Hp} {s : Shared} {Q : VK} {us : List Value} {vs : List V} (M : Mk X.K C f) (F : FnOk X.prog X.w X.K X.mg X.base CX k f fd ps sp) (hr : Room (k + 1) X.A) (hb : Binds X.K fd ps ds) (hd : Vals dvs ds)
  (hx : xM CX X E) (I : Inv X pins σ H s) (r : Vals vs us)
  (h : ∀ x dx, H x = none -> H dx = none -> dx ≠ x -> sp (.ref x :: (vs ++ dvs)) (upd (upd H dx (.own x)) x (.ins C dx [])) (fun v H2 => v = .non /\ Q (.ref x) H2) E) :
  wpAny (model X.prog X.w) X.A (call (.ref C) us) (EP X pins σ Q) X.xe s := by
 have hq := h (s.heap.objs.size + 1) s.heap.objs.size (I.hok.fresh (Nat.le_succ _)) (I.hok.fresh (Nat.le_refl _)) (Nat.ne_of_lt (Nat.lt_succ_self _))
 have I2 := Inv.made (C := C) I
 have r2 : Vals (V.ref (s.heap.objs.size + 1) :: (vs ++ dvs)) (Value.ref (s.heap.objs.size + 1) :: (us ++ ds)) := .cons rfl (r.append hd)
 have hl : (Value.ref (s.heap.objs.size + 1) :: us ++ ds).length = ps.length := by
  have e := r2.length
  rw [F.len _ _ _ _ hq] at e
  exact e.symm
 refine wpAny_call (Mu (f := f) I.kIn M.makes M.init (beq_iff_eq.mp M.fn) (codeAny_mono (F.run _ X.stack _ _ ⟨Value.ref (s.heap.objs.size + 1) :: us, []⟩ (Value.ref (s.heap.objs.size + 1) :: (us ++ ds)) _ _ E (hr.make C us [])
  (I2.env0.make C us []) (hb _ (Value.ref (s.heap.objs.size + 1) :: us) I2.kIn hl) r2 hq) fun r s' hq' => ?_))
 cases r with
 | error e => exact hx pins σ _ _ e s' I2 hq'
 | ok fl =>
  cases fl with
  | ret u =>
   obtain ⟨v, H', I3, rv, ev, q3⟩ := I2.after hq'
   subst ev
   exact ⟨rv, ⟨V.ref (s.heap.objs.size + 1), H', I3, rfl, q3⟩⟩
  | next => exact False.elim hq'
  | brk => exact False.elim hq'
  | cont => exact False.elim hq'
theorem zL (M : Mk X.K C f) (F : FnOk X.prog X.w X.K X.mg X.base CX k f fd ps sp) (hr : Room (k + 1) X.A) (hg : Gl X x) (hm : X.mg x = some (.ref C)) (hb : Binds X.K fd ps ds) (hd : Vals dvs ds) (hx : xM CX X E)
  (ha : PA X (e :: es) t) (hdb : (x == ("__debug__" : Str)) = false := by decide) (he : starEach (e :: es) X.env = (false, eval e X.env) :: starEach es X.env := by rfl) (hpl : (backTo pos (starEach es X.env)).any (·.1) = false := by rfl) :
  PE X (.Call (.Name x p) (e :: es) [] pos) (Q9 C sp dvs E t) := by
 intro pins s σ H Q I h
 refine wpAny_Call_Name_kw (uq I hg hm ?_ hdb)
 refine PySem.W.callWith_K (h₀ := X.base) I.ok.mod.kin M.kp (thn (ha pos pins s σ H _ I h) fun us s1 ⟨vs, H1, I1, r, q⟩ => ⟨I1.kIn, ?_⟩) he hpl
 exact Nz M F hr hb hd hx I1 r q
end
section
variable {X : Cx} {CX : CXT} {k : Nat} {f C : Addr} {fd : FuncData} {ps ks : List Str} {sp : Sp} {E : XK} {x m : Str} {p pos apos kpos : Pos} {e o : Expr} {es : List Expr} {kws : List Keyword} {te ta : TE} {t tk : TA} {nm : Option Str}
variable {g : List Value -> List Value -> List Value} {gV : List V -> List V -> List V}
end
structure FnScope (N P : List Str) (sc : Scope) : Prop where
 kind : sc.kind = .function
 co : sc.isCoroutine = false
 gen : sc.isGenerator = false
 nd : N.Nodup
 pre : N.take P.length = P
 par : ∀ x ∈ P, sc.names.lookup x = some .local ∨ sc.names.lookup x = some .cell
 nofree : ∀ y ∈ sc.names, y.2 ≠ .free
theorem zq {kindOf : Str -> Option NameKind} {x : Str} : ∀ {binds : List (Str × Value)} {m : Str -> Option Value}, (∀ v, (x, v) ∉ binds) -> bindL kindOf binds m x = m x
 | [], _, _ => rfl
 | (n, v) :: r, m, h => by
  unfold bindL
  rw [zq fun w hw => h w (List.mem_cons_of_mem _ hw)]
  split
  ·have : x ≠ n := by rintro rfl; exact h v List.mem_cons_self
   simp [this]
  ·rfl
theorem yU {kindOf : Str -> Option NameKind} {x : Str} : ∀ {binds : List (Str × Value)} {m : Str -> Option Value}, (∀ v, (x, v) ∉ binds) -> bindC kindOf binds m x = m x
 | [], _, _ => rfl
 | (n, v) :: r, m, h => by
  unfold bindC
  rw [yU fun w hw => h w (List.mem_cons_of_mem _ hw)]
  split
  ·rfl
  ·have : x ≠ n := by rintro rfl; exact h v List.mem_cons_self
   simp [this]
theorem yW {kindOf : Str -> Option NameKind} {x : Str} {v : Value} : ∀ {P : List Str} {vs : List Value} {i : Nat} {m : Str -> Option Value}, P.Nodup -> P[i]? = some x -> vs[i]? = some v -> kindOf x = some .local ->
  bindL kindOf (P.zip vs) m x = some v
 | [], _, _, _, _, h, _, _ => by simp at h
 | _ :: _, [], _, _, _, _, h, _ => by simp at h
 | p :: P, w :: vs, 0, m, nd, h1, h2, hk => by
  simp at h1 h2; subst h1; subst h2
  show bindL kindOf ((p, w) :: P.zip vs) m p = _
  unfold bindL
  rw [zq fun v hv => (List.nodup_cons.mp nd).1 (List.of_mem_zip hv).1, if_pos hk]
  simp
 | p :: P, w :: vs, i + 1, m, nd, h1, h2, hk => by
  show bindL kindOf ((p, w) :: P.zip vs) m x = _
  unfold bindL
  exact yW (i := i) (List.nodup_cons.mp nd).2 (by simpa using h1) (by simpa using h2) hk
theorem zG {kindOf : Str -> Option NameKind} {x : Str} {v : Value} : ∀ {P : List Str} {vs : List Value} {i : Nat} {m : Str -> Option Value}, P.Nodup -> P[i]? = some x -> vs[i]? = some v -> kindOf x ≠ some .local ->
  bindC kindOf (P.zip vs) m x = some v
 | [], _, _, _, _, h, _, _ => by simp at h
 | _ :: _, [], _, _, _, _, h, _ => by simp at h
 | p :: P, w :: vs, 0, m, nd, h1, h2, hk => by
  simp at h1 h2; subst h1; subst h2
  show bindC kindOf ((p, w) :: P.zip vs) m p = _
  unfold bindC
  rw [yU fun v hv => (List.nodup_cons.mp nd).1 (List.of_mem_zip hv).1, if_neg hk]
  simp
 | p :: P, w :: vs, i + 1, m, nd, h1, h2, hk => by
  show bindC kindOf ((p, w) :: P.zip vs) m x = _
  unfold bindC
  exact zG (i := i) (List.nodup_cons.mp nd).2 (by simpa using h1) (by simpa using h2) hk
def start (N : List Str) (vs : List V) : St := vs.map some ++ List.replicate (N.length - vs.length) none
def Jq (CX : CXT) (P : Program) (w : World) (K : PySem.W.Frag) (mg : Str -> Option Value) (base : Heap) (N : List Str) (qual : Str) (scope : Scope) (f : Addr) (cd : Value) (A : Around) (outer : List Env) (s : Shared) (H : Hp) (E : XK) : Cx where
 prog := P
 w := w
 K := K
 mg := mg
 base := base
 A := A.deeper (envOfC qual scope s.heap.objs.size f cd)
 N := N
 s₀ := s
 H₀ := H
 env := envOfC qual scope s.heap.objs.size f cd
 outer := outer
 stack := envOfC qual scope s.heap.objs.size f cd :: outer
 ex := []
 calm := true
 fn := fun _ => true
 pn := []
 xe := fun e s' => wpAny (model P w) (A.deeper (envOfC qual scope s.heap.objs.size f cd)) (leaving (envOfC qual scope s.heap.objs.size f cd) e) (fun _ s'' => CX outer H s E e s'') (fun e' s'' => CX outer H s E e' s'') s'
theorem Dn {sc : Scope} {n : Nat} {x : Str} (h : sc.names.lookup x = some .cell) : ∃ c, (cellsFrom n sc.names []).lookup x = some c := by
 have q := PySem.W.cellsFrom_some sc.names n [] (.inl h)
 exact Option.isSome_iff_exists.mp q
theorem Jf {CX : CXT} {P : Program} {w : World} {K : PySem.W.Frag} {mg : Str -> Option Value} {base : Heap} {N ps : List Str} {qual : Str} {scope : Scope} {f : Addr} {cd : Value} {A : Around} {outer : List Env} {s s1 : Shared} {H : Hp} {E : XK} {us : List Value} {vs : List V}
  (S : FnScope N ps scope) (hd : A.handled = none) (e0 : Env0 P w K mg base A outer s H) (hl : vs.length = ps.length) (r : Vals vs us)
  (x : InCallC s s.heap.objs.size (bindL (envOfC qual scope s.heap.objs.size f cd).kindOf (ps.zip us) fun _ => none) (cellsFrom (s.heap.objs.size + 1) scope.names []) (bindC (envOfC qual scope s.heap.objs.size f cd).kindOf (ps.zip us) fun _ => none) s1) :
  Inv (Jq CX P w K mg base N qual scope f cd A outer s H E) [] (start N vs) H s1 := by
 have hpl : ps.length <= N.length := by have := congrArg List.length S.pre; rw [List.length_take] at this; omega
 obtain ⟨h1, tk, rfl, hk⟩ := x.done
 have noA : ∀ b : Addr, b ∉ (Jq CX P w K mg base N qual scope f cd A outer s H E).ex := fun b z => absurd (show b ∈ ([] : List Addr) from z) (by simp)
 refine ⟨⟨e0.mod, S.kind, rfl, rfl, Nat.le_refl _, fun y z c h1 h2 => ?_, fun y hy => ?_, fun y c _ h => ?_, fun _ => hd, Around.frames_deeper e0.frames, .inr ⟨rfl, rfl⟩, fun b z => absurd z (noA b), e0.bs, e0.bsz, fun b _ _ => noA b, fun b z => absurd z (noA b), e0.funs, e0.frf⟩,
  rfl, e0.bare, Un.kept hk, ⟨_, x.toInCall.ns, fun i y v h1 h2 h3 => ?_⟩, fun y c h => ⟨_, x.cell y c h⟩, e0.hok.fresh (Nat.le_refl _), fun y c h => ?_, fun p hp => absurd (show p ∈ ([] : List (Addr × Obj)) from hp) (by simp), e0.hok.kept hk, ?_⟩
 ·exact name_of_addr x.apart (PySem.mem_of_lookup h1) (PySem.mem_of_lookup h2)
 ·have hy : scope.names.lookup y = some .cell ∨ scope.names.lookup y = some .free := hy
  rcases hy with hy | hy
  ·exact Dn hy
  ·exact absurd rfl (S.nofree _ (PySem.mem_of_lookup hy))
 ·exact Nat.le_of_lt (x.above y c (PySem.mem_of_lookup h))
 ·have hi : i < vs.length := by
   unfold start at h2
   by_cases hi : i < vs.length
   ·exact hi
   ·rw [List.getElem?_append_right (by simpa using hi)] at h2
    rw [List.getElem?_replicate] at h2
    split at h2 <;> cases h2
  have ha : vs[i]? = some v := by
   unfold start at h2
   rw [List.getElem?_append_left (by simpa using hi), List.getElem?_map] at h2
   cases e : vs[i]? with
   | none => rw [e] at h2; cases h2
   | some a => rw [e] at h2; cases h2; rfl
  obtain ⟨u, hu, rv⟩ := r.get ha
  have hp : ps[i]? = some y := by
   rw [← S.pre, List.getElem?_take_of_lt (by omega)]; exact h1
  have ndP : ps.Nodup := by rw [← S.pre]; exact S.nd.sublist (List.take_sublist _ _)
  refine ⟨u, rv, ?_⟩
  rcases S.par y (List.mem_of_getElem? hp) with k | k
  ·exact .inl ⟨k, yW ndP hp hu k⟩
  ·obtain ⟨c, e⟩ := Dn (n := s.heap.objs.size + 1) k
   refine .inr ⟨.inl k, c, e, ?_⟩
   have q := x.cell y c e
   rw [zG ndP hp hu (by show scope.names.lookup y ≠ _; rw [k]; decide)] at q
   exact q
 ·exact e0.hok.fresh (Nat.le_of_lt (x.above y c (PySem.mem_of_lookup h)))
 ·unfold start
  show _ = N.length
  rw [List.length_append, List.length_map, List.length_replicate]
  omega
theorem We {CX : CXT} {P : Program} {w : World} {K : PySem.W.Frag} {mg : Str -> Option Value} {base : Heap} {k : Nat} {f : Addr} {name qual : Str} {params : Arguments} {body : List Stmt} {scope : Scope} {dV kV doc pm cdv ct oc : Value} {an od : Option Addr}
  {osl : Array (Option Value)} {N ps : List Str} {sp : Sp} (lk : K.lookup f = some ⟨oc, od, .func (PySem.W.fnOf name qual params body scope dV kV doc pm an cdv ct), osl⟩) (hcd : PySem.W.codeIn K cdv qual = true) (S : FnScope N ps scope)
  (len : ∀ vs H Q E, sp vs H Q E -> vs.length = ps.length)
  (hbody : ∀ (A : Around) (outer : List Env) (s : Shared) (H : Hp) (vs : List V) (Q : VK) (E : XK), Room k (A.deeper (envOfC qual scope s.heap.objs.size f cdv)) -> sp vs H Q E ->
   ∃ t, PSs (Jq CX P w K mg base N qual scope f cdv A outer s H E) body t /\ t { nx := fun _ H' => Q .non H', rt := Q } (start N vs) H) :
  FnOk P w K mg base CX (k + 1) f (PySem.W.fnOf name qual params body scope dV kV doc pm an cdv ct) ps sp := by
 refine ⟨len, fun A outer s H args us vs Q E hr e0 hb r hsp => ?_⟩
 have hl := len _ _ _ _ hsp
 have KX : K.In s.heap := e0.mod.kin.keeps fun b o e => (e0.bs b o e).1
 have lim : s.heap.NoLimit := e0.mod.nolimit.keeps fun b o e => (e0.bs b o e).1
 have hkind : ∀ y ∈ ps.zip us, scope.names.lookup y.1 = some .local ∨ (scope.names.lookup y.1 = some .cell /\ ((cellsFrom (s.heap.objs.size + 1) scope.names []).lookup y.1).isSome = true) := fun ⟨n, v⟩ hy => by
  rcases S.par n (List.of_mem_zip hy).1 with q | q
  ·exact .inl q
  ·exact .inr ⟨q, PySem.W.cellsFrom_some _ _ _ (.inl q)⟩
 refine codeAny_call_function hr.depth (KX _ _ lk) rfl S.co S.gen rfl (PySem.W.codeRec_of KX hcd) (hb _ _ _ _ ?_)
 refine wpAny_newFunctionEnv_cells S.kind hkind fun env he s1 x => ?_
 subst he
 refine ⟨lim.keeps x.toInCall.keep, codeAny_func ?_⟩
 obtain ⟨t, ht, hq⟩ := hbody A outer s H vs Q E (hr.deeper _) hsp
 have I : Inv (Jq CX P w K mg base N qual scope f cdv A outer s H E) [] (start N vs) H s1 := Jf S hr.hd e0 hl r x
 refine wpAny_mono (ht [] s1 (start N vs) H _ I hq) (fun fl s' hs => ?_) fun e s' hs => hs
 have fin : ∀ {σ' : St} {H' : Hp} {v : V} {u : Value}, Inv (Jq CX P w K mg base N qual scope f cdv A outer s H E) [] σ' H' s' -> RelV v u -> Q v H' -> CE outer P w H s Q u s' :=
  fun {σ' H' v u} J rv q => ⟨v, H', J.os, J.bare, J.base, J.hok, rv, q⟩
 cases fl with
 | ret u =>
  obtain ⟨v, σ', H', J, rv, q⟩ := hs
  exact fin J rv q
 | next =>
  obtain ⟨σ', H', J, q⟩ := hs
  exact fin (v := V.non) (u := Value.none) J rfl q
 | brk =>
  obtain ⟨_, _, _, q⟩ := hs
  exact False.elim q
 | cont =>
  obtain ⟨_, _, _, q⟩ := hs
  exact False.elim q
end L2
namespace L2
open PySem PySem.Spec PyProof.Rows
section
variable {X : Cx} {x : Str} {p pos : Pos} {e : Expr} {es : List Expr} {t : TA} {id T : String} {r : List V -> Hp -> VK -> Prop}
def tCB (r : List V -> Hp -> VK -> Prop) (t : TA) : TE := fun σ H Q => t σ H fun vs H1 => r vs H1 Q
theorem bF (hc : fK X (.builtin id) r) (hg : Gl X x) (hm : X.mg x = none) (hv : bootBuiltins x = some (.builtin id)) (ha : PA X (e :: es) t) (hn : x ≠ "__name__" := by decide) (hdb : (x == ("__debug__" : Str)) = false := by decide)
  (he : starEach (e :: es) X.env = (false, eval e X.env) :: starEach es X.env := by rfl) (hpl : (backTo pos (starEach es X.env)).any (·.1) = false := by rfl) : PE X (.Call (.Name x p) (e :: es) [] pos) (tCB r t) := by
 intro pins s σ H Q I h
 refine wpAny_Call_Name_kw (o9 I hg hm hv ?_ hn hdb)
 exact PyProof.Rows.callWith_builtin1 (thn (ha pos pins s σ H _ I h) fun us s1 ⟨vs, H1, I1, r1, q1⟩ => hc pins s1 σ H1 vs us Q I1 r1 q1) he hpl
theorem bR (hc : fK X (.type T) r) (hg : Gl X x) (hm : X.mg x = none) (hv : bootBuiltins x = some (.type T)) (ha : PA X (e :: es) t) (hn : x ≠ "__name__" := by decide) (hdb : (x == ("__debug__" : Str)) = false := by decide)
  (he : starEach (e :: es) X.env = (false, eval e X.env) :: starEach es X.env := by rfl) (hpl : (backTo pos (starEach es X.env)).any (·.1) = false := by rfl) : PE X (.Call (.Name x p) (e :: es) [] pos) (tCB r t) := by
 intro pins s σ H Q I h
 refine wpAny_Call_Name_kw (o9 I hg hm hv ?_ hn hdb)
 exact PyProof.Rows.callWith_type1 (thn (ha pos pins s σ H _ I h) fun us s1 ⟨vs, H1, I1, r1, q1⟩ => hc pins s1 σ H1 vs us Q I1 r1 q1) he hpl
end
end L2
namespace L2
open PySem PySem.Spec PyProof.Rows
section
variable {κ : Type} [DecidableEq κ]
def fX (kvs : List (κ × V)) (k : κ) : Option V := (kvs.find? fun kv => decide (kv.1 = k)).map (·.2)
def putK (kvs : List (κ × V)) (k : κ) (v : V) : List (κ × V) :=
 if (kvs.any fun kv => decide (kv.1 = k)) = true then kvs.map (fun kv => if kv.1 = k then (kv.1, v) else kv) else kvs ++ [(k, v)]
theorem dN {p : κ × V} {r : List (κ × V)} {k : κ} (e : p.1 = k) : fX (p :: r) k = some p.2 := by simp [fX, List.find?_cons, e]
theorem eF {p : κ × V} {r : List (κ × V)} {k : κ} (e : ¬ p.1 = k) : fX (p :: r) k = fX r k := by simp [fX, List.find?_cons, e]
theorem nQ (k : κ) : ∀ kvs : List (κ × V), (kvs.any fun kv => decide (kv.1 = k)) = (fX kvs k).isSome
 | [] => rfl
 | p :: r => by
  rw [List.any_cons]
  by_cases e : p.1 = k
  ·simp only [dN e, decide_eq_true e, Bool.true_or, Option.isSome_some]
  ·rw [eF e, decide_eq_false e, Bool.false_or]; exact nQ k r
theorem De (k j : κ) (y : V) : ∀ kvs : List (κ × V), fX (kvs.map fun kv => if kv.1 = k then (kv.1, y) else kv) j = (fX kvs j).map fun x => if j = k then y else x
 | [] => rfl
 | p :: r => by
  have ih := De k j y r
  rw [List.map_cons]
  by_cases h : p.1 = k
  ·rw [if_pos h]
   by_cases e : p.1 = j
   ·rw [dN (p := (p.1, y)) e, dN e, Option.map_some, if_pos (e.symm.trans h)]
   ·rw [eF (p := (p.1, y)) e, eF e, ih]
  ·rw [if_neg h]
   by_cases e : p.1 = j
   ·rw [dN (p := p) e, dN e, Option.map_some, if_neg (fun z => h (e.trans z))]
   ·rw [eF (p := p) e, eF e, ih]
theorem yS (k j : κ) (y : V) : ∀ kvs : List (κ × V), fX kvs k = none -> fX (kvs ++ [(k, y)]) j = if j = k then some y else fX kvs j
 | [], _ => by
  by_cases e : k = j
  ·rw [if_pos e.symm]; exact dN (p := (k, y)) e
  ·rw [if_neg (fun z => e z.symm)]; exact eF (p := (k, y)) e
 | p :: r, hn => by
  rw [List.cons_append]
  have hk : ¬ p.1 = k := fun z => by rw [dN z] at hn; cases hn
  rw [eF hk] at hn
  have ih := yS k j y r hn
  by_cases e : p.1 = j
  ·rw [dN e, dN e, if_neg (fun z => hk (e.trans z))]
  ·rw [eF e, eF e, ih]
theorem Nq (kvs : List (κ × V)) (k j : κ) (y : V) : fX (putK kvs k y) j = if j = k then some y else fX kvs j := by
 unfold putK
 by_cases a : (kvs.any fun kv => decide (kv.1 = k)) = true
 ·rw [if_pos a, De]
  rw [nQ] at a
  by_cases e : j = k
  ·obtain ⟨x, hx⟩ := Option.isSome_iff_exists.mp a
   rw [if_pos e, e, hx, Option.map_some, if_pos rfl]
  ·rw [if_neg e]
   cases fX kvs j with
   | none => rfl
   | some x => rw [Option.map_some, if_neg e]
 ·rw [if_neg a]
  refine yS k j y kvs ?_
  rw [nQ] at a
  cases q : fX kvs k with
  | none => rfl
  | some x => rw [q] at a; exact (a rfl).elim
theorem mO (kvs : List (κ × V)) (k : κ) (v : V) : (putK kvs k v).length <= kvs.length + 1 := by
 unfold putK
 split
 ·rw [List.length_map]; omega
 ·rw [List.length_append, List.length_cons, List.length_nil]; omega
theorem RelO.isSome_eq {o : Option V} {u : Option Value} (r : RelO o u) : o.isSome = u.isSome := by
 cases o with
 | none => cases u with
  | none => rfl
  | some _ => exact (show False from r).elim
 | some _ => cases u with
  | none => exact (show False from r).elim
  | some _ => rfl
theorem RelO.getD {o : Option V} {u : Option Value} {d : V} {d' : Value} (r : RelO o u) (rd : RelV d d') : RelV (o.getD d) (u.getD d') := by
 cases o with
 | none => cases u with
  | none => exact rd
  | some _ => exact (show False from r).elim
 | some _ => cases u with
  | none => exact (show False from r).elim
  | some _ => exact r
theorem KV.val {kvs : List (κ × V)} {vs : List (κ × Value)} (r : KV kvs vs) (k : κ) : RelO (fX kvs k) (valueAt vs k) := by
 unfold KV at r
 induction r with
 | nil => exact True.intro
 | @cons p q ps qs h t ih =>
  obtain ⟨h1, h2⟩ := h
  by_cases e : p.1 = k
  ·have e' : q.1 = k := h1.symm.trans e
   have b : valueAt (q :: qs) k = some q.2 := by simp [valueAt, List.find?_cons, e']
   rw [dN e, b]; exact h2
  ·have e' : ¬ q.1 = k := fun z => e (h1.trans z)
   have b : valueAt (q :: qs) k = valueAt qs k := by simp [valueAt, List.find?_cons, e']
   rw [eF e, b]; exact ih
theorem KV.any {kvs : List (κ × V)} {vs : List (κ × Value)} (r : KV kvs vs) (k : κ) : (kvs.any fun kv => decide (kv.1 = k)) = vs.any fun kv => decide (kv.1 = k) := by
 unfold KV at r
 induction r with
 | nil => rfl
 | cons h t ih => rw [List.any_cons, List.any_cons, ih, h.1]
theorem KV.repl {kvs : List (κ × V)} {vs : List (κ × Value)} (r : KV kvs vs) (k : κ) {y : V} {u : Value} (ry : RelV y u) :
  KV (kvs.map fun kv => if kv.1 = k then (kv.1, y) else kv) (vs.map fun kv => if kv.1 = k then (kv.1, u) else kv) := by
 unfold KV at r ⊢
 induction r with
 | nil => exact .nil
 | @cons p q ps qs h t ih =>
  rw [List.map_cons, List.map_cons]
  refine .cons ?_ ih
  obtain ⟨h1, h2⟩ := h
  by_cases e : p.1 = k
  ·rw [if_pos e, if_pos (h1.symm.trans e)]; exact ⟨h1, ry⟩
  ·rw [if_neg e, if_neg (fun z => e (h1.trans z))]; exact ⟨h1, h2⟩
theorem KV.put {kvs : List (κ × V)} {vs : List (κ × Value)} (r : KV kvs vs) (k : κ) {y : V} {u : Value} (ry : RelV y u) : KV (putK kvs k y) (stored vs k u) := by
 unfold putK stored
 rw [r.any k]
 by_cases e : (vs.any fun kv => decide (kv.1 = k)) = true
 ·rw [if_pos e, if_pos e]; exact r.repl k ry
 ·rw [if_neg e, if_neg e]; exact Paired.snoc r ⟨rfl, ry⟩
theorem KV.length {kvs : List (κ × V)} {vs : List (κ × Value)} (r : KV kvs vs) : kvs.length = vs.length := Paired.length r
end
theorem zm {P : Program} {w : World} {k : Key} {u : Value} (r : RelV (kV k) u) : (bL P w).is k u = true := by
 cases k with
 | inl i => obtain ⟨t, e⟩ := (show ∃ t, u = Value.int i t from r); subst e; exact qt P w i t
 | inr x => obtain ⟨t, e⟩ := (show ∃ t, u = Value.str x t from r); subst e; exact Ek P w x t
theorem zE {P : Program} {w : World} : ∀ {ks : List Key} {us : List Value}, Vals (ks.map kV) us -> ItemsAre (bL P w) ks us
 | [], _, r => by rw [List.map_nil] at r; cases r; exact .nil
 | k :: ks, _, r => by
  rw [List.map_cons] at r
  cases r with
  | cons h t => exact .cons (zm h) (zE t)
abbrev KT (H : Hp) : List (List Key × V) -> List (List Key × Addr × Value) -> Prop := Paired fun p q => p.1 = q.1 /\ H q.2.1 = some (.tup (p.1.map kV)) /\ RelV p.2 q.2.2
theorem KT.val {H : Hp} {kvs : List (List Key × V)} {xs : List (List Key × Addr × Value)} (r : KT H kvs xs) (k : List Key) : RelO (fX kvs k) ((atKey xs k).map (·.2)) := by
 induction r with
 | nil => exact True.intro
 | @cons p q ps qs h t ih =>
  obtain ⟨h1, _, h2⟩ := h
  by_cases e : p.1 = k
  ·have e' : q.1 = k := h1.symm.trans e
   have b : atKey (q :: qs) k = some q.2 := by simp [atKey, List.find?_cons, e']
   rw [dN e, b]; exact h2
  ·have e' : ¬ q.1 = k := fun z => e (h1.trans z)
   have b : atKey (q :: qs) k = atKey qs k := by simp [atKey, List.find?_cons, e']
   rw [eF e, b]; exact ih
theorem KT.repl {H : Hp} {kvs : List (List Key × V)} {xs : List (List Key × Addr × Value)} (r : KT H kvs xs) (k : List Key) {y : V} {u : Value} (ry : RelV y u) :
  KT H (kvs.map fun kv => if kv.1 = k then (kv.1, y) else kv) (xs.map (putAt k u)) := by
 induction r with
 | nil => exact .nil
 | @cons p q ps qs h t ih =>
  rw [List.map_cons, List.map_cons]
  refine .cons ?_ ih
  obtain ⟨h1, h2, h3⟩ := h
  unfold putAt
  by_cases e : p.1 = k
  ·rw [if_pos e, if_pos (h1.symm.trans e)]; exact ⟨h1, h2, ry⟩
  ·rw [if_neg e, if_neg (fun z => e (h1.trans z))]; exact ⟨h1, h2, h3⟩
theorem KT.put {H : Hp} {kvs : List (List Key × V)} {xs : List (List Key × Addr × Value)} (r : KT H kvs xs) (k : List Key) {b : Addr} {y : V} {u : Value} (hb : H b = some (.tup (k.map kV))) (ry : RelV y u) :
  KT H (putK kvs k y) (storedH xs k b u) := by
 have e : (kvs.any fun kv => decide (kv.1 = k)) = (atKey xs k).isSome := by
  rw [nQ, (r.val k).isSome_eq, Option.isSome_map]
 unfold putK storedH
 rw [e]
 by_cases q : (atKey xs k).isSome = true
 ·rw [if_pos q, if_pos q]; exact r.repl k ry
 ·rw [if_neg q, if_neg q]; exact Paired.snoc r ⟨rfl, hb, ry⟩
theorem KT.keeps {H H' : Hp} {kvs : List (List Key × V)} {xs : List (List Key × Addr × Value)} (r : KT H kvs xs) (ht : ∀ b ys, H b = some (.tup ys) -> H' b = some (.tup ys)) : KT H' kvs xs :=
 Paired.mapP r fun _ _ z => ⟨z.1, ht _ _ z.2.1, z.2.2⟩
section
variable {P : Program} {w : World} {H : Hp} {h : Heap} {a : Addr}
theorem Rb {u : HO} (ok : HOk P w H h) (e : Rd H a u) : ObjOk P w H h a u := e.ok ok
theorem ul {kvs : List (Key × V)} (ok : HOk P w H h) (e : Rd H a (.dK kvs)) : kvs.length <= sizeLine /\ (a == sysModules) = false /\ ∃ vs, KV kvs vs /\ h.DictOf (bL P w) a vs :=
 show ObjOk P w H h a (.dK kvs) from Rb ok e
theorem QD {kvs : List (Key × V)} (ok : HOk P w H h) (e : H a = some (.dK kvs)) : kvs.length <= sizeLine /\ (a == sysModules) = false /\ ∃ vs, KV kvs vs /\ h.DictOf (bL P w) a vs := ul ok (.inl e)
theorem rN {ks : List Key} (ok : HOk P w H h) (e : H a = some (.tup (ks.map kV))) : (tupleKind (bL P w)).is h ks a := by
 obtain ⟨_, its, r, o, h1, h2, n, h3⟩ := (show ObjOk P w H h a (.tup (ks.map kV)) from ok a _ e)
 exact ⟨o, its.toArray, n, h1, h2, h3.1, by simpa using zE r⟩
theorem vA {kvs : List (List Key × V)} (ok : HOk P w H h) (e : Rd H a (.dT kvs)) : kvs.length <= sizeLine /\ (a == sysModules) = false /\
  ∃ xs, KT H kvs xs /\ h.DictOfH (tupleKind (bL P w)) a xs := by
 obtain ⟨z, y, xs, r, o, es, ep, h1, h2, h3, h4, h5⟩ := (show ObjOk P w H h a (.dT kvs) from Rb ok e)
 refine ⟨z, y, xs, r, o, es, ep, h1, h2, h3, h4, fun x hx => ?_, h5⟩
 have all : ∀ {l : List (List Key × V)} {m : List (List Key × Addr × Value)}, KT H l m -> ∀ x ∈ m, (tupleKind (bL P w)).is h x.1 x.2.1 := by
  intro l m q
  induction q with
  | nil => intro x hx; exact nomatch hx
  | @cons p q ps qs hq t ih =>
   intro x hx
   rcases List.mem_cons.mp hx with e | hx
   ·subst e
    exact rN ok (by rw [← hq.1]; exact hq.2.1)
   ·exact ih x hx
 exact all r x hx
theorem Vc {kvs : List (List Key × V)} (ok : HOk P w H h) (e : H a = some (.dT kvs)) : kvs.length <= sizeLine /\ (a == sysModules) = false /\
  ∃ xs, KT H kvs xs /\ h.DictOfH (tupleKind (bL P w)) a xs := vA ok (.inl e)
end
def DGet (H : Hp) (a : Addr) (y : V) (r : Option V) : Prop :=
 (∃ kvs k, Rd H a (.dK kvs) /\ y = kV k /\ r = fX kvs k) ∨ ∃ kvs k b, Rd H a (.dT kvs) /\ y = .ref b /\ H b = some (.tup (k.map kV)) /\ r = fX kvs k
def DPut (H : Hp) (a : Addr) (y v : V) (H' : Hp) : Prop :=
 (∃ kvs k, H a = some (.dK kvs) /\ y = kV k /\ kvs.length < sizeLine /\ H' = upd H a (.dK (putK kvs k v))) ∨
 ∃ kvs k b, H a = some (.dT kvs) /\ y = .ref b /\ H b = some (.tup (k.map kV)) /\ kvs.length < sizeLine /\ H' = upd H a (.dT (putK kvs k v))
theorem DGet.t {H : Hp} {a b : Addr} {kvs : List (List Key × V)} {k : List Key} (e : H a = some (.dT kvs)) (eb : H b = some (.tup (k.map kV))) : DGet H a (.ref b) (fX kvs k) := .inr ⟨kvs, k, b, .inl e, rfl, eb, rfl⟩
theorem DPut.t {H : Hp} {a b : Addr} {kvs : List (List Key × V)} {k : List Key} {v : V} (e : H a = some (.dT kvs)) (eb : H b = some (.tup (k.map kV))) (hl : kvs.length < sizeLine) :
  DPut H a (.ref b) v (upd H a (.dT (putK kvs k v))) := .inr ⟨kvs, k, b, e, rfl, eb, hl, rfl⟩
section
variable {X : Cx} {pins : List (Addr × Obj)} {σ : St} {H : Hp} {s : Shared} {a : Addr} {y v : V} {u r : Value} {o : Option V} {A : Around} {E : Value -> Shared -> Prop}
theorem Inv.big (I : Inv X pins σ H s) : sysModules < s.heap.objs.size := by
 have h : mainGlobals < s.heap.objs.size := (I.mod.glob.keeps I.bk).lt
 exact Nat.lt_trans (by decide) h
theorem Jc {Q : Value -> Shared -> Prop} (hu : A.units + 1 < cLine) (I : Inv X pins σ H s) (g : DGet H a y (some v)) (ry : RelV y u) (h : ∀ w' s', Inv X pins σ H s' -> RelV v w' -> Q w' s') :
  wpAny (model X.prog X.w) A (getItem (.ref a) u) Q E s := by
 rcases g with ⟨kvs, k, e, ey, l⟩ | ⟨kvs, k, b, e, ey, eb, l⟩
 ·subst ey
  obtain ⟨z, hd, vs, rel, dd⟩ := ul I.hok e
  obtain ⟨w', hw, rw'⟩ := RelO.some_of (v := v) (o := valueAt vs k) (by rw [l]; exact rel.val k)
  exact wpAny_getItem_of (zm ry) dd.mapOf hw (h w' _ (I.tok _) rw')
 ·subst ey
  cases (show u = Value.ref b from ry)
  obtain ⟨z, hd, xs, rel, dd⟩ := vA I.hok e
  obtain ⟨w', hw, rw'⟩ := RelO.some_of (v := v) (o := (atKey xs k).map (·.2)) (by rw [l]; exact rel.val k)
  obtain ⟨p, hp, hp2⟩ := Option.map_eq_some_iff.mp hw
  refine wpAny_getItem_heap (tupleKind_room_in1 hu) (rN I.hok eb) dd hp ?_
  rw [hp2]
  exact h w' _ (I.tok _) rw'
theorem Px {Q : Value -> Shared -> Prop} (hu : A.units + 1 < cLine) (I : Inv X pins σ H s) (g : DGet H a y o) (ry : RelV y u) (h : ∀ s', Inv X pins σ H s' -> Q (.bool (!o.isSome)) s') :
  wpAny (model X.prog X.w) A (compareOp .NotIn u (.ref a)) Q E s := by
 rcases g with ⟨kvs, k, e, ey, l⟩ | ⟨kvs, k, b, e, ey, eb, l⟩
 ·subst ey
  obtain ⟨z, hd, vs, rel, dd⟩ := ul I.hok e
  refine wpAny_notIn_of (zm ry) hd dd.mapOf ?_
  rw [← (rel.val k).isSome_eq, ← l]
  exact h _ (I.tok _)
 ·subst ey
  cases (show u = Value.ref b from ry)
  obtain ⟨z, hd, xs, rel, dd⟩ := vA I.hok e
  refine wpAny_notIn_heap (tupleKind_room_in1 hu) (rN I.hok eb) hd dd ?_
  have q := (rel.val k).isSome_eq
  rw [Option.isSome_map] at q
  rw [← q, ← l]
  exact h _ (I.tok _)
theorem Ir {h' : Heap} {t' : Nat} {ob : HO} (I : Inv X pins σ H s) (mu : Mut (H a)) (hs : Heap.SameBut a s.heap h') (he : ∃ q, h'.get? a = some q) (new : ObjOk X.prog X.w (upd H a ob) h' a ob) :
  Inv X pins σ (upd H a ob) { s with heap := h', toks := t' } :=
 I.write (x := a) (e := a) mu (.inl rfl) (fun b q hb z => (hs.2 b hb).trans z) he new
theorem Fj {P : Program} {w : World} {H' : Hp} {h' : Heap} {kvs : List (Key × V)} {vs : List (Key × Value)} (z : kvs.length <= sizeLine) (hd : (a == sysModules) = false) (rel : KV kvs vs) (dd : h'.DictOf (bL P w) a vs) :
  ObjOk P w H' h' a (.dK kvs) := ⟨z, hd, vs, rel, dd⟩
theorem JL {H' : Hp} {Q : Unit -> Shared -> Prop} (hu : A.units + 1 < cLine) (I : Inv X pins σ H s) (g : DPut H a y v H') (ry : RelV y u) (rv : RelV v r) (h : ∀ s', Inv X pins σ H' s' -> Q () s') :
  wpAny (model X.prog X.w) A (setItem (.ref a) u r) Q E s := by
 rcases g with ⟨kvs, k, e, ey, l, eH⟩ | ⟨kvs, k, b, e, ey, eb, l, eH⟩
 ·subst ey eH
  obtain ⟨z, hd, vs, rel, dd⟩ := QD I.hok e
  have hz : vs.length <= sizeLine := by rw [← rel.length]; exact z
  have hl : (putK kvs k v).length <= sizeLine := by have := mO kvs k v; omega
  refine wpAny_setItem_pairs (hsz := hz) (zm ry) dd fun h' dd' hs => h _ ?_
  have he : ∃ q, h'.get? a = some q := let ⟨q, _, _, hq, _⟩ := dd'; ⟨q, hq⟩
  exact Ir I (by rw [e]; exact True.intro) hs he (Fj hl hd (rel.put k rv) dd')
 ·subst ey eH
  cases (show u = Value.ref b from ry)
  obtain ⟨z, hd, xs, rel, dd⟩ := Vc I.hok e
  have hz : xs.length <= sizeLine := by rw [← Paired.length rel]; exact z
  have hl : (putK kvs k v).length <= sizeLine := by have := mO kvs k v; omega
  refine wpAny_setItem_heap (hsz := hz) (tupleKind_room_in1 hu) (rN I.hok eb) dd fun h' dd' hs => h _ ?_
  obtain ⟨q, es, ep, hq, h2, h3, h4, _, h5⟩ := dd'
  refine Ir I (by rw [e]; exact True.intro) hs ⟨q, hq⟩ ⟨hl, hd, _, (rel.put k eb rv).keeps fun c ys ec => ?_, q, es, ep, hq, h2, h3, h4, h5⟩
  rw [aL (nP ec e (fun z => nomatch z))]
  exact ec
end
section
variable {X : Cx} {pins : List (Addr × Obj)} {σ : St} {H : Hp} {s : Shared} {a : Addr} {kvs : List (Key × V)} {k : Key} {u : Value} {A : Around} {E : Value -> Shared -> Prop}
end
def V4 (i : Expr) : Prop := ∀ ov iv, subscripted i false ov iv = operate [ov, iv] (getItem ov iv)
theorem Qg {prog : Program} {w : World} {A : Around} {E : Value -> Shared -> Prop} {s : Shared} {env : Env} {value slice : Expr} {pos : Pos} {T id : String} {Q : Value -> Shared -> Prop}
  (hl : typeLookup (.type T) "__getitem__" = pure (some (.builtin id))) (hs : V4 slice)
  (h : wpAny (model prog w) A (eval value env) (fun o s₁ => wpAny (model prog w) A (eval slice env) (fun i s₂ => s₂.TypeIs o T /\ wpAny (model prog w) A (getItem o i) Q E s₂) E s₁) E s) :
  wpAny (model prog w) A (eval (.Subscript value slice pos) env) Q E s := by
 refine Subscript_ (wpAny_mono h (fun o s₁ h₁ => wpAny_mono h₁ (fun i s₂ h₂ => ?_) fun _ _ x => x) fun _ _ x => x)
 obtain ⟨hT, h₂⟩ := h₂
 unfold subscriptTail
 refine wpAny_bind ?_
 rw [getitemInPython_of_ne hT.not_modules]
 refine wpAny_bind (wpAny_specialOf hT hl ?_)
 have fin : wpAny (model prog w) A (subscripted slice false o i) (fun r s₃ => wpAny (model prog w) A (letTemporaryGo value o r >>= fun _ => pure r) Q E s₃) E s₂ := by
  rw [hs o i]
  exact wpAny_operating (wpAny_mono h₂ (fun r s₃ h₃ => wpAny_bind (wpAny_letTemporaryGo (wpAny_pure h₃))) fun _ _ x => x)
 first
  | exact wpAny_pure (wpAny_bind fin)
  | exact wpAny_bind (wpAny_pure (wpAny_bind fin))
  | exact wpAny_bind fin
theorem DR {X : Cx} {pins : List (Addr × Obj)} {σ : St} {H : Hp} {s : Shared} {a : Addr} {y : V} {o : Option V} (I : Inv X pins σ H s) (g : DGet H a y o) : s.TypeIs (.ref a) "dict" := by
 rcases g with ⟨kvs, k, e, _, _⟩ | ⟨kvs, k, b, e, _, _, _⟩
 ·obtain ⟨_, _, vs, _, dd⟩ := ul I.hok e
  exact dd.typeIs
 ·obtain ⟨_, _, xs, _, dd⟩ := vA I.hok e
  exact dd.typeIs
def Q0 (td ty : TE) : TE := fun σ H Q => td σ H fun x H1 => ty σ H1 fun y H2 => ∃ a v, x = .ref a /\ DGet H2 a y (some v) /\ Q v H2
def Hv (ty td : TE) : TE := fun σ H Q => ty σ H fun y H1 => td σ H1 fun x H2 => ∃ a o, x = .ref a /\ DGet H2 a y o /\ Q (.bl (!o.isSome)) H2
def Ho (td ty tv : TE) : TS := fun D σ H => tv σ H fun v H1 => td σ H1 fun x H2 => ty σ H2 fun y H3 => ∃ a H4, x = .ref a /\ DPut H3 a y v H4 /\ D.nx σ H4
section
variable {X : Cx} {o i e value : Expr} {pos pos' tpos : Pos} {td ty tv : TE}
theorem Aq (hu : X.A.units + 1 < cLine) (ho : PE X o td) (hi : PE X i ty) (hs : V4 i) : PE X (.Subscript o i pos) (Q0 td ty) := by
 intro pins s σ H Q I h
 refine Qg PySem.F.slot_dict_getitem.lookup hs (thn (ho pins s σ H _ I h) fun u s1 ⟨x, H1, I1, rx, q1⟩ => thn (hi pins s1 σ H1 _ I1 q1) fun iv s2 ⟨y, H2, I2, ry, a, v, ex, g, q2⟩ => ?_)
 subst ex
 obtain rfl : u = Value.ref a := rx
 exact ⟨DR I2 g, Jc hu I2 g ry fun w' s3 I3 rw' => ⟨v, H2, I3, rw', q2⟩⟩
theorem JD (hu : X.A.units + 1 < cLine) (hi : PE X i ty) (ho : PE X o td) : PC X .NotIn i o (Hv ty td) := by
 intro pins s σ H Q I h
 refine thn (hi pins s σ H _ I h) fun iv s1 ⟨y, H1, I1, ry, q1⟩ => thn (ho pins s1 σ H1 _ I1 q1) fun u s2 ⟨x, H2, I2, rx, a, ov, ex, g, q2⟩ => ?_
 subst ex
 obtain rfl : u = Value.ref a := rx
 exact Px hu I2 g ry fun s3 I3 => ⟨.bl (!ov.isSome), H2, I3, rfl, q2⟩
theorem q9 (hu : X.A.units + 1 < cLine) (ho : PE X o td) (hi : PE X i ty) (hv : PE X value tv) (hs : swapsWith value (some (.Subscript o i pos')) pos.line X.env = pure false) :
  PS X (.Assign [.Subscript o i pos'] value pos) (Ho td ty tv) := by
 intro pins s σ H D I h
 refine wpAny_Assign_Subscript (thn (hv pins s σ H _ I h) fun r s1 ⟨v, H1, I1, rv, q1⟩ => thn (ho pins s1 σ H1 _ I1 q1) fun u s2 ⟨x, H2, I2, rx, q2⟩ => thn (hi pins s2 σ H2 _ I2 q2) fun iv s3 ⟨y, H3, I3, ry, a, H4, ex, g, q3⟩ => ?_) hs
 subst ex
 obtain rfl : u = Value.ref a := rx
 exact JL hu I3 g ry rv fun s4 I4 => ⟨σ, H4, I4, q3⟩
end
theorem Kp {P : Program} {w : World} {H : Hp} (h : Heap) (hb : sysModules < h.objs.size) : ObjOk P w H (h.push { cls := .type "dict", data := .dict #[] }) h.objs.size (.dK []) :=
 ⟨Nat.zero_le _, beq_eq_false_iff_ne.mpr (Ne.symm (Nat.ne_of_lt hb)), [], .nil, Heap.DictOf.new h⟩
theorem Mi {P : Program} {w : World} {H : Hp} (h : Heap) (hb : sysModules < h.objs.size) : ObjOk P w H (h.push { cls := .type "dict", data := .dict #[] }) h.objs.size (.dT []) :=
 ⟨Nat.zero_le _, beq_eq_false_iff_ne.mpr (Ne.symm (Nat.ne_of_lt hb)), [], .nil, _, #[], 0, Heap.get?_push_size _ rfl, ⟨rfl, rfl, rfl⟩, rfl, rfl, List.nodup_nil⟩
def Ku : TE := fun _ H Q => ∀ p, H p = none -> Q (.ref p) (upd H p (.dK []))
def Tq : TE := fun _ H Q => ∀ p, H p = none -> Q (.ref p) (upd H p (.dT []))
section
variable {X : Cx} {pos : Pos}
theorem nu : PE X (.Dict [] [] pos) Ku := fun pins s σ H Q I h =>
 wpAny_Dict_empty ⟨.ref s.heap.objs.size, _, I.laid (a := s.heap.objs.size) (o := .dK []) (t' := s.toks) (fun _ _ q => Heap.get?_push_of_some _ q) (Nat.le_refl _) (Kp s.heap I.big), rfl, h _ (I.hok.fresh (Nat.le_refl _))⟩
theorem Cq : PE X (.Dict [] [] pos) Tq := fun pins s σ H Q I h =>
 wpAny_Dict_empty ⟨.ref s.heap.objs.size, _, I.laid (a := s.heap.objs.size) (o := .dT []) (t' := s.toks) (fun _ _ q => Heap.get?_push_of_some _ q) (Nat.le_refl _) (Mi s.heap I.big), rfl, h _ (I.hok.fresh (Nat.le_refl _))⟩
end
def Gr (kvs more : List (Key × V)) : List (Key × V) := more.foldl (fun acc kv => putK acc kv.1 kv.2) kvs
theorem KV.merge : ∀ {more : List (Key × V)} {rs : List (Key × Value)} {kvs : List (Key × V)} {vs : List (Key × Value)}, KV more rs -> KV kvs vs -> KV (Gr kvs more) (merged vs rs) := by
 intro more rs kvs vs r
 unfold KV at r
 induction r generalizing kvs vs with
 | nil => intro q; exact q
 | @cons p q ps qs h t ih =>
  intro r0
  have e : KV (putK kvs p.1 p.2) (stored vs q.1 q.2) := by
   have := r0.put p.1 h.2
   rw [← h.1]; exact this
  exact ih e
structure M1 (X : Cx) (o : Expr) (m : Str) (apos : Pos) (e : Expr) (cpos : Pos) : Prop where
 base : attributeBase o m X.env (eval o X.env) = eval o X.env
 few : ((backTo cpos (starEach [e] X.env)).all (fun x => !x.1) && (backToKw cpos (keywordEach [] X.env)).all (fun x => x.1.isSome)
  && decide (([e] : List Expr).length + ([] : List Keyword).length + (if ([] : List Keyword).isEmpty then 0 else 1) < 30)) = true
 line : (apos.endLine == cpos.line) = true
 trees : backTo cpos (starEach [e] X.env) = [(false, eval e X.env)]
structure M2 (X : Cx) (o : Expr) (m : Str) (apos : Pos) (e f : Expr) (cpos : Pos) : Prop where
 base : attributeBase o m X.env (eval o X.env) = eval o X.env
 few : ((backTo cpos (starEach [e, f] X.env)).all (fun x => !x.1) && (backToKw cpos (keywordEach [] X.env)).all (fun x => x.1.isSome)
  && decide (([e, f] : List Expr).length + ([] : List Keyword).length + (if ([] : List Keyword).isEmpty then 0 else 1) < 30)) = true
 line : (apos.endLine == cpos.line) = true
 trees : backTo cpos (starEach [e, f] X.env) = [(false, eval e X.env), (false, eval f X.env)]
def IsD (H : Hp) (a : Addr) : Prop := (∃ kvs, Rd H a (.dK kvs)) ∨ ∃ kvs, Rd H a (.dT kvs)
theorem JZ {X : Cx} {pins : List (Addr × Obj)} {σ : St} {H : Hp} {s : Shared} {a : Addr} (I : Inv X pins σ H s) (d : IsD H a) :
  s.TypeIs (.ref a) "dict" /\ (∀ b, Value.ref a = .ref b -> ∃ ob, s.heap.get? b = some ob /\ ob.dict = none) /\ (a == sysModules) = false := by
 rcases d with ⟨kvs, e⟩ | ⟨kvs, e⟩
 ·obtain ⟨_, hd, vs, _, dd⟩ := ul I.hok e
  refine ⟨dd.typeIs, fun b q => ?_, hd⟩
  cases q
  obtain ⟨ob, _, _, h1, h2, _⟩ := dd
  exact ⟨ob, h1, h2.2.1⟩
 ·obtain ⟨_, hd, xs, _, dd⟩ := vA I.hok e
  refine ⟨dd.typeIs, fun b q => ?_, hd⟩
  cases q
  obtain ⟨ob, _, _, h1, h2, _⟩ := dd
  exact ⟨ob, h1, h2.2.1⟩
section
variable {X : Cx} {pins : List (Addr × Obj)} {σ : St} {H : Hp} {s : Shared} {a : Addr} {y d : V} {u r : Value} {o : Option V} {A : Around} {E : Value -> Shared -> Prop}
theorem Rz {Q : Value -> Shared -> Prop} (hu : A.units + 1 < cLine) (I : Inv X pins σ H s) (g : DGet H a y o) (ry : RelV y u) (h : ∀ w' s', Inv X pins σ H s' -> RelV (o.getD .non) w' -> Q w' s') :
  wpAny (model X.prog X.w) A (call (.builtin "dict.get") [.ref a, u]) Q E s := by
 rcases g with ⟨kvs, k, e, ey, l⟩ | ⟨kvs, k, b, e, ey, eb, l⟩
 ·subst ey
  obtain ⟨z, hd, vs, rel, dd⟩ := ul I.hok e
  refine call_meetsIn PySem.F.slot_dict_get dd.typeIs PySem.F.entry_dict_get (PySem.F.args_dict_get_2 _ _) (meets_dict_get (bL X.prog X.w) a (zm ry) hd) ⟨_, dd.mapOf, h _ _ (I.tok _) ?_⟩
  rw [l]
  exact (rel.val k).getD rfl
 ·subst ey
  cases (show u = Value.ref b from ry)
  obtain ⟨z, hd, xs, rel, dd⟩ := vA I.hok e
  refine call_meetsIn PySem.F.slot_dict_get dd.typeIs PySem.F.entry_dict_get (PySem.F.args_dict_get_2 _ _) (meetsH_dict_get (tupleKind (bL X.prog X.w)) a b hd) ⟨tupleKind_room_in1 hu, k, xs, rN I.hok eb, dd, h _ _ (I.tok _) ?_⟩
  rw [l]
  exact (rel.val k).getD rfl
theorem Sv {Q : Value -> Shared -> Prop} (hu : A.units + 1 < cLine) (I : Inv X pins σ H s) (g : DGet H a y o) (ry : RelV y u) (rd : RelV d r) (h : ∀ w' s', Inv X pins σ H s' -> RelV (o.getD d) w' -> Q w' s') :
  wpAny (model X.prog X.w) A (call (.builtin "dict.get") [.ref a, u, r]) Q E s := by
 rcases g with ⟨kvs, k, e, ey, l⟩ | ⟨kvs, k, b, e, ey, eb, l⟩
 ·subst ey
  obtain ⟨z, hd, vs, rel, dd⟩ := ul I.hok e
  refine call_meetsIn PySem.F.slot_dict_get dd.typeIs PySem.F.entry_dict_get (PySem.F.args_dict_get_3 _ _ _) (meets_dict_get_default (bL X.prog X.w) a (zm ry) hd r) ⟨_, dd.mapOf, h _ _ (I.tok _) ?_⟩
  rw [l]
  exact (rel.val k).getD rd
 ·subst ey
  cases (show u = Value.ref b from ry)
  obtain ⟨z, hd, xs, rel, dd⟩ := vA I.hok e
  refine call_meetsIn PySem.F.slot_dict_get dd.typeIs PySem.F.entry_dict_get (PySem.F.args_dict_get_3 _ _ _) (meetsH_dict_get_default (tupleKind (bL X.prog X.w)) a b hd r) ⟨tupleKind_room_in1 hu, k, xs, rN I.hok eb, dd, h _ _ (I.tok _) ?_⟩
  rw [l]
  exact (rel.val k).getD rd
end
def J2 (td ty : TE) : TE := fun σ H Q => td σ H fun x H1 => ∃ a, x = .ref a /\ IsD H1 a /\ ty σ H1 fun y H2 => ∃ o, DGet H2 a y o /\ Q (o.getD .non) H2
def Nx (td ty tx : TE) : TE := fun σ H Q => td σ H fun x H1 => ∃ a, x = .ref a /\ IsD H1 a /\ ty σ H1 fun y H2 => tx σ H2 fun z H3 => ∃ o, DGet H3 a y o /\ Q (o.getD z) H3
section
variable {X : Cx} {o e f : Expr} {apos cpos : Pos} {td ty tx : TE}
theorem M6 (hu : X.A.units + 1 < cLine) (ho : PE X o td) (he : PE X e ty) (m : M1 X o "get" apos e cpos) : PE X (.Call (.Attribute o "get" apos) [e] [] cpos) (J2 td ty) := by
 intro pins s σ H Q I h
 refine wpAny_Call_method m.base m.few m.line PySem.F.plainAttrs_dict PySem.F.slot_dict_get PySem.F.type_dict_get (thn (ho pins s σ H _ I h) fun u s1 ⟨x, H1, I1, rx, a, ex, d, q1⟩ => ?_)
 subst ex
 obtain rfl : u = Value.ref a := rx
 obtain ⟨t1, t2, _⟩ := JZ I1 d
 refine ⟨t1, t2, ?_⟩
 rw [m.trees]
 refine Calls.callWith_builtin rfl (Calls.evalArgs_plain (Calls.spliced_cons (thn (he pins s1 σ H1 _ I1 q1) fun iv s2 ⟨y, H2, I2, ry, ov, g, q2⟩ => Calls.spliced_nil ?_)))
 exact Rz hu I2 g ry fun w' s3 I3 rw' => ⟨_, H2, I3, rw', q2⟩
theorem lY (hu : X.A.units + 1 < cLine) (ho : PE X o td) (he : PE X e ty) (hf : PE X f tx) (m : M2 X o "get" apos e f cpos) : PE X (.Call (.Attribute o "get" apos) [e, f] [] cpos) (Nx td ty tx) := by
 intro pins s σ H Q I h
 refine wpAny_Call_method m.base m.few m.line PySem.F.plainAttrs_dict PySem.F.slot_dict_get PySem.F.type_dict_get (thn (ho pins s σ H _ I h) fun u s1 ⟨x, H1, I1, rx, a, ex, d, q1⟩ => ?_)
 subst ex
 obtain rfl : u = Value.ref a := rx
 obtain ⟨t1, t2, _⟩ := JZ I1 d
 refine ⟨t1, t2, ?_⟩
 rw [m.trees]
 refine Calls.callWith_builtin rfl (Calls.evalArgs_plain (Calls.spliced_cons (thn (he pins s1 σ H1 _ I1 q1) fun iv s2 ⟨y, H2, I2, ry, q2⟩ =>
  Calls.spliced_cons (thn (hf pins s2 σ H2 _ I2 q2) fun fv s3 ⟨z, H3, I3, rz, ov, g, q3⟩ => Calls.spliced_nil ?_))))
 exact Sv hu I3 g ry rz fun w' s4 I4 rw' => ⟨_, H3, I4, rw', q3⟩
end
section
variable {X : Cx} {pins : List (Addr × Obj)} {σ : St} {H : Hp} {s : Shared} {a : Addr} {kvs : List (Key × V)} {A : Around} {E : Value -> Shared -> Prop}
end
section
variable {X : Cx} {pins : List (Addr × Obj)} {σ : St} {H : Hp} {s : Shared} {a : Addr} {y : V} {u : Value} {A : Around} {E : Value -> Shared -> Prop}
end
end L2
namespace HT
open PySem PyProof.Rows
def lexLt : List Int -> List Int -> Bool
 | [], [] => false
 | [], _ :: _ => true
 | _ :: _, [] => false
 | x :: xs, y :: ys => if x = y then lexLt xs ys else decide (x < y)
theorem oW (x y : Int) (xs ys : List Int) : lexLt (x :: xs) (y :: ys) = if x = y then lexLt xs ys else decide (x < y) := rfl
theorem yO : lexLt [] [] = false := rfl
theorem xU (y : Int) (ys : List Int) : lexLt [] (y :: ys) = true := rfl
theorem xF (x : Int) (xs : List Int) : lexLt (x :: xs) [] = false := rfl
theorem Ka (A : Around) (s : Shared) (a : Int) (t : Tok) (c : Int) (u : Tok) : ∃ e, SeqAt.EqAt A s (.int a t) (.int c u) e /\ (e = true ↔ a = c) :=
 ⟨(a == c), SeqAt.EqAt.int_int a t c u, by simp⟩
theorem My (A : Around) (s : Shared) (a : Int) (t : Tok) (c : Int) (u : Tok) (prog : Program) (w : World) (E : Value -> Shared -> Prop) (Q : Value -> Shared -> Prop) (h : Q (.bool (decide (a < c))) s) :
  wpAny (model prog w) A (richCompare .Lt (.int a t) (.int c u)) Q E s :=
 (PyProof.Rows.lt_int h : wpAny (model prog w) A (compareOp .Lt (.int a t) (.int c u)) Q E s)
section
open PySem.SeqAt
open PySem.AutoSeq1 (wpAny_loadPart')
open PySem.MeetsSeq PySem.MeetsSeq2 PySem.MeetsSeq3
theorem yE (l b : Addr) (items items2 : Array Value) (n n2 : Nat) (dd dd2 : Option Addr) (sl sl2 : Array (Option Value)) (ns ms : List Int) (hi : IntsAre items.toList ns) (hj : IntsAre items2.toList ms) :
  Meets (Builtin.«tuple.__lt__» ⟨[.ref l, .ref b], []⟩)
   (fun _ R s => s.heap.get? l = some { cls := .type "tuple", dict := dd, data := .seq items n, slots := sl } /\ s.heap.get? b = some { cls := .type "tuple", dict := dd2, data := .seq items2 n2, slots := sl2 } /\
    R (.ok (.ret (.bool (lexLt ns ms)))) s) :=
 .of_wp fun prog w A R s h => by
  obtain ⟨hp, g, d, tk, os⟩ := s; obtain ⟨hl, hb, h⟩ := h
  have f2 := AutoSeq1.sub_tuple_tuple
  have z1 : items.size = ns.length := by rw [← hi.length]; simp
  have z2 : items2.size = ms.length := by rw [← hj.length]; simp
  wp_walk using wpAny_loadPart' hl, wpAny_loadPart' hb, wpAny_forIn_list _ (fun rest b s' => b.1 = none /\ s' = ⟨hp, g, d, tk, os⟩ /\ ∃ (vs ws : List Value) (ns' ms' : List Int), rest = vs.zip ws /\
   IntsAre vs ns' /\ IntsAre ws ms' /\ ns'.length + items2.size = ms'.length + items.size /\ R (.ok (.ret (.bool (lexLt ns' ms')))) ⟨hp, g, d, tk, os⟩) _
  case turn =>
   rintro ⟨y, x⟩ rest b s' ⟨hb', rfl, vs, ws, ns', ms', hz, hvi, hwi, hlen, hR⟩
   cases hvi with
   | nil => rw [List.zip_nil_left] at hz; cases hz
   | cons a t hvi' =>
    cases hwi with
    | nil => rw [List.zip_nil_right] at hz; cases hz
    | cons c u hwi' =>
     rw [List.zip_cons_cons] at hz
     injection hz with hyx hrest
     injection hyx with hy hx
     subst hy hx
     rw [oW] at hR
     simp only [List.length_cons] at hlen
     obtain ⟨e, he, hiff⟩ := Ka A.in1 ⟨hp, g, d, tk, os⟩ a t c u
     refine wpAny_bind (he prog w _ _ ?_)
     cases e with
     | true =>
      rw [if_pos (hiff.mp rfl)] at hR
      wp_walk
      exact ⟨rfl, rfl, _, _, _, _, hrest, hvi', hwi', by omega, hR⟩
     | false =>
      rw [if_neg (fun q => absurd (hiff.mpr q) Bool.false_ne_true)] at hR
      have hri := My A.in1 ⟨hp, g, d, tk, os⟩ a t c u prog w
      wp_walk using hri
      exact ⟨_, rfl, by simpa using hR⟩
  case fin =>
   rintro ⟨b1, b2⟩ s' ⟨hb', rfl, vs, ws, ns', ms', hz, hvi, hwi, hlen, hR⟩
   simp only at hb'
   subst hb'
   have hv : lexLt ns' ms' = decide (items.size < items2.size) := by
    cases hvi with
    | nil =>
     cases hwi with
     | nil =>
      simp only [List.length_nil] at hlen
      rw [yO]
      exact (decide_eq_false (by omega)).symm
     | cons c u hw =>
      simp only [List.length_nil, List.length_cons] at hlen
      rw [xU]
      exact (decide_eq_true (by omega)).symm
    | cons a t hv =>
     cases hwi with
     | nil =>
      simp only [List.length_nil, List.length_cons] at hlen
      rw [xF]
      exact (decide_eq_false (by omega)).symm
     | cons c u hw =>
      rw [List.zip_cons_cons] at hz
      cases hz
   rw [hv] at hR
   wp_walk
   exact ⟨_, rfl, by simpa [Builtin.Tuple.tupleCompareSizes] using hR⟩
  case h =>
   exact ⟨rfl, rfl, items.toList, items2.toList, ns, ms, rfl, hi, hj, by omega, h⟩
end
section
variable {prog : Program} {w : World} {A : Around} {E : Value -> Shared -> Prop} {s : Shared}
theorem Gw {l b : Addr} {items items2 : Array Value} {ns ms : List Int} {Q : Value -> Shared -> Prop} (hl : IsTup s.heap l items) (hb : IsTup s.heap b items2) (hi : IntsAre items.toList ns) (hj : IntsAre items2.toList ms)
  (hu : A.units < cLine) (h : Q (.bool (lexLt ns ms)) s) : wpAny (model prog w) A (compareOp .Lt (.ref l) (.ref b)) Q E s := by
 obtain ⟨⟨cls, dd, data, sl⟩, ho, hc, n, hd⟩ := id hl
 obtain ⟨⟨cls2, dd2, data2, sl2⟩, ho2, hc2, n2, hd2⟩ := id hb
 simp only at hc hd hc2 hd2
 subst hc hd hc2 hd2
 exact richCompare_meets_room (op := .Lt) ⟨_, ho, rfl⟩ ⟨_, ho2, rfl⟩ PySem.F.slot_tuple_lt PySem.F.entry_tuple_lt (PySem.F.args_tuple_lt_2 _ _) (yE l b items items2 n n2 dd dd2 sl sl2 ns ms hi hj)
  ⟨ho, ho2, show Value.bool (lexLt ns ms) ≠ Value.notImplemented /\ Q (.bool (lexLt ns ms)) s from ⟨(fun x => nomatch x), h⟩⟩ hu
def sIx (n d : Nat) : Option Int -> Nat
 | none => d
 | some v => if v < 0 then (v + (n : Int)).toNat else min v.toNat n
theorem R8 (n d : Nat) (hd : d <= n) (o : Option Int) : sIx n d o <= n := by
 cases o with
 | none => exact hd
 | some v =>
  show (if v < 0 then (v + (n : Int)).toNat else min v.toNat n) <= n
  by_cases hv : v < 0
  ·rw [if_pos hv]; omega
  ·rw [if_neg hv]; exact Nat.min_le_right _ _
theorem Hw (v : Int) (n d : Nat) : (if v < 0 then max (v + (n : Int)) 0 else min v (n : Int)) = ((sIx n d (some v) : Nat) : Int) := by
 show (if v < 0 then max (v + (n : Int)) 0 else min v (n : Int)) = (((if v < 0 then (v + (n : Int)).toNat else min v.toNat n) : Nat) : Int)
 by_cases hv : v < 0
 ·simp only [if_pos hv]; omega
 ·simp only [if_neg hv]; omega
theorem Fg (lo hi : Option Int) (n : Nat) : Builtin.Slice.sliceAdjust lo hi 1 (n : Int) = (((sIx n 0 lo : Nat) : Int), ((sIx n n hi : Nat) : Int)) := by
 have h1 : ¬ ((1 : Int) < 0) := by omega
 unfold Builtin.Slice.sliceAdjust
 simp only [h1, if_false]
 refine Prod.ext ?_ ?_
 ·cases lo with
  | none => rfl
  | some v => exact Hw v n 0
 ·cases hi with
  | none => rfl
  | some v => exact Hw v n n
theorem FT (i j : Nat) : Builtin.Slice.slicePlaces (i : Int) (j : Int) 1 = j - i := by
 unfold Builtin.Slice.slicePlaces
 have h1 : (1 : Int) > 0 := by omega
 simp only [h1, if_true, Int.ediv_one]
 split <;> omega
theorem yz {v : Value} {o : Option Int} {Q : Option Int -> Shared -> Prop} (p : IsPart v o) (h : Q o s) : wpAny (model prog w) A (Builtin.Slice.slicePartIndex v) Q E s := by
 cases p with
 | none => exact slicePart_none h
 | int i t => exact slicePart_int h
theorem uX {sl : Addr} {vl vu : Value} {lo hi : Option Int} {n : Nat} {Q : Int × Int × Nat -> Shared -> Prop} (hs : s.heap.IsSliceOf sl vl vu .none) (pl : IsPart vl lo) (pu : IsPart vu hi)
  (h : Q (((sIx n 0 lo : Nat) : Int), 1, sIx n n hi - sIx n 0 lo) s) : wpAny (model prog w) A (Builtin.Slice.sliceApplied (.ref sl) (pure (n : Int))) Q E s := by
 obtain ⟨os, hos, hcs, hds⟩ := id hs
 unfold Builtin.Slice.sliceApplied Builtin.Slice.sliceFields
 refine wpAny_bind (wpAny_bind (wpAny_field hos hds (x := vl) rfl (wpAny_bind (wpAny_field hos hds (x := vu) rfl (wpAny_bind (wpAny_field hos hds (x := .none) rfl (wpAny_pure ?_)))))))
 refine wpAny_bind (slicePart_none ?_)
 show wpAny _ _ (if ((1 : Int) == 0) = true then _ else _) _ _ s
 rw [if_neg (by decide)]
 refine wpAny_bind (yz pl (wpAny_bind (yz pu (wpAny_bind (wpAny_pure ?_)))))
 show wpAny _ _ (match Builtin.Slice.sliceAdjust lo hi 1 (n : Int) with | (lo, hi) => pure (lo, (1 : Int), Builtin.Slice.slicePlaces lo hi 1)) _ _ s
 rw [Fg lo hi n]
 show wpAny _ _ (pure (((sIx n 0 lo : Nat) : Int), (1 : Int), Builtin.Slice.slicePlaces ((sIx n 0 lo : Nat) : Int) ((sIx n n hi : Nat) : Int) 1)) _ _ s
 rw [FT]
 exact wpAny_pure h
theorem Oa (xs : Array Value) (i k : Nat) : ((List.range k).filterMap fun (m : Nat) => xs[((i : Int) + (m : Int) * 1).toNat]?).toArray = ((xs.toList.drop i).take k).toArray := by
 have e : (fun (m : Nat) => xs[((i : Int) + (m : Int) * 1).toNat]?) = fun m => xs[i + m]? := by
  funext m
  have : ((i : Int) + (m : Int) * 1).toNat = i + m := by omega
  rw [this]
 rw [e]
 have := pick_run xs i k
 rw [List.filterMap_map] at this
 have e2 : ((fun x => xs[x]?) ∘ fun x => i + x) = fun m => xs[i + m]? := rfl
 rw [e2] at this
 rw [this]
theorem ug {t sl : Addr} {items : Array Value} {vl vu : Value} {lo hi : Option Int} {Q : Value -> Shared -> Prop} (ht : IsTup s.heap t items) (hs : s.heap.IsSliceOf sl vl vu .none) (pl : IsPart vl lo) (pu : IsPart vu hi)
  (hw : ¬ (sIx items.size 0 lo = 0 /\ sIx items.size items.size hi = items.size))
  (h : Q (.ref s.heap.objs.size) { s with heap := s.heap.push { cls := .type "tuple", data := .seq ((items.toList.drop (sIx items.size 0 lo)).take (sIx items.size items.size hi - sIx items.size 0 lo)).toArray } })
  (hsz : items.size <= sizeLine) : wpAny (model prog w) A (getItem (.ref t) (.ref sl)) Q E s := by
 have htake : sizeOk (.seq ((items.toList.drop (sIx items.size 0 lo)).take (sIx items.size items.size hi - sIx items.size 0 lo)).toArray) := by
  show ((items.toList.drop (sIx items.size 0 lo)).take (sIx items.size items.size hi - sIx items.size 0 lo)).toArray.size <= sizeLine
  rw [List.size_toArray, List.length_take, List.length_drop, Array.length_toList]
  omega
 have hj : sIx items.size items.size hi <= items.size := R8 _ _ (Nat.le_refl _) hi
 obtain ⟨os, hos, hcs, hds⟩ := id hs
 have hTs : s.TypeIs (.ref sl) "slice" := ⟨os, hos, hcs⟩
 unfold getItem
 try with_reducible refine wpAny_holding ?_
 first | refine wpAny_bind (wpAny_pure ?_) | skip
 refine wpAny_bind (wpAny_sequenceKey ht.typeIs (by decide) ?_)
 refine wpAny_bind (wpAny_callSpecial?_slot (name := Str.ofString "__getitem__") ht.typeIs PyProof.Rows.slot_tuple_getitem
  (wpAny_call_entry PyProof.Rows.slot_tuple_getitem ht.typeIs entry_tuple_getitem ?_ (args_tuple_getitem _ _)))
 show wpAny _ _ (Builtin.Tuple.tupleItemsOf (.ref t) >>= _) _ _ s
 refine wpAny_bind (tupleItemsOf_ ht ?_)
 refine wpAny_bind (wpAny_typeOf hTs ?_)
 rw [if_pos (by decide)]
 refine wpAny_bind (uX hs pl pu ?_)
 have hno : ¬ ((((sIx items.size 0 lo : Nat) : Int) == 0 && (1 : Int) == 1 && (sIx items.size items.size hi - sIx items.size 0 lo) == items.size) = true) := by
  intro q
  rw [Bool.and_eq_true, Bool.and_eq_true] at q
  have q1 : ((sIx items.size 0 lo : Nat) : Int) = 0 := eq_of_beq q.1.1
  have q2 : sIx items.size items.size hi - sIx items.size 0 lo = items.size := eq_of_beq q.2
  exact hw ⟨by omega, by omega⟩
 show wpAny _ _ (if (((sIx items.size 0 lo : Nat) : Int) == 0 && (1 : Int) == 1 && (sIx items.size items.size hi - sIx items.size 0 lo) == items.size) = true then _ else _) _ _ s
 rw [if_neg hno, Oa]
 first
  | exact wpAny_bind (m := Builtin.Tuple.tupleExact _) (wpAny_newObj_type (wpAny_pure ⟨_, rfl, wpAny_pure h⟩) htake)
  | exact wpAny_bind (m := Builtin.Tuple.tupleExact _) (wpAny_newObj_type (wpAny_bind (wpAny_pure (wpAny_pure ⟨_, rfl, wpAny_pure h⟩))) htake)
  | exact wpAny_bind (wpAny_bind (m := Builtin.Tuple.tupleExact _) (wpAny_newObj_type (wpAny_pure (wpAny_pure ⟨_, rfl, wpAny_pure h⟩)) htake))
  | exact wpAny_bind (wpAny_bind (m := Builtin.Tuple.tupleExact _) (wpAny_newObj_type (wpAny_pure ⟨_, rfl, wpAny_pure h⟩) htake))
end
end HT
namespace L2
open PySem PySem.Spec PyProof.Rows
abbrev TO := St -> Hp -> (Option Int -> Hp -> Prop) -> Prop
def PO (X : Cx) (e : Option Expr) (t : TO) : Prop :=
 ∀ (pins : List (Addr × Obj)) (s : Shared) (σ : St) (H : Hp) (Q : Option Int -> Hp -> Prop), Inv X pins σ H s -> t σ H Q ->
  wpAny (model X.prog X.w) X.A (evalPart e X.env) (fun u s' => ∃ o H', Inv X pins σ H' s' /\ IsPart u o /\ Q o H') X.xe s
def HR : TO := fun _ H Q => Q none H
def QW (t : TE) : TO := fun σ H Q => t σ H fun x H1 => ∃ i, x = .int i /\ Q (some i) H1
theorem intsAre_of {ns : List Int} : ∀ {us : List Value}, Vals (ns.map V.int) us -> IntsAre us ns := by
 induction ns with
 | nil => intro us r; rw [List.map_nil] at r; cases r; exact .nil
 | cons n ns ih =>
  intro us r
  rw [List.map_cons] at r
  cases r with
  | cons r1 r2 =>
   obtain ⟨t, e⟩ := r1
   subst e
   exact .cons n t (ih r2)
section
variable {X : Cx} {e : Expr} {te : TE} {lo hi : Option Expr} {tl th : TO} {pos p2 : Pos}
theorem ph : PO X none HR := by
 intro pins s σ H Q I h
 rw [evalPart_none]
 exact wpAny_pure ⟨none, H, I, .none, h⟩
theorem lA (h : PE X e te) : PO X (some e) (QW te) := by
 intro pins s σ H Q I hw
 rw [evalPart_some]
 refine thn (h pins s σ H _ I hw) fun u s1 ⟨x, H1, I1, r1, q1⟩ => ?_
 obtain ⟨i, rfl, q⟩ := q1
 obtain ⟨t, rfl⟩ := r1
 exact ⟨some i, H1, I1, .int i t, q⟩
def SlR (X : Cx) (r : V -> Option Int -> Option Int -> Hp -> VK -> Prop) : Prop :=
 ∀ (pins : List (Addr × Obj)) (s : Shared) (σ : St) (H : Hp) (x : V) (v vl vu : Value) (lo hi : Option Int) (sl : Addr) (Q : VK), Inv X pins σ H s -> RelV x v -> s.heap.IsSliceOf sl vl vu .none -> IsPart vl lo -> IsPart vu hi -> r x lo hi H Q ->
  ∃ T id, typeLookup (.type T) "__getitem__" = pure (some (.builtin id)) /\ s.TypeIs v T /\ wpAny (model X.prog X.w) X.A (getItem v (.ref sl)) (EP X pins σ Q) X.xe s
def tSl (r : V -> Option Int -> Option Int -> Hp -> VK -> Prop) (te : TE) (tl th : TO) : TE := fun σ H Q => te σ H fun x H1 => tl σ H1 fun l H2 => th σ H2 fun u H3 => r x l u H3 Q
theorem jY {r : V -> Option Int -> Option Int -> Hp -> VK -> Prop} (hr : SlR X r) (he : PE X e te) (hl : PO X lo tl) (hu : PO X hi th) : PE X (.Subscript e (.Slice lo hi none p2) pos) (tSl r te tl th) := by
 intro pins s σ H Q I h
 refine Subscript_ (thn (he pins s σ H _ I h) fun v s1 ⟨x, H1, I1, r1, q1⟩ => ?_)
 refine wpAny_Slice (thn (hl pins s1 σ H1 _ I1 q1) fun vl s2 ⟨l, H2, I2, pl, q2⟩ => thn (hu pins s2 σ H2 _ I2 q2) fun vu s3 ⟨u, H3, I3, pu, q3⟩ => ?_)
 rw [evalPart_none]
 refine wpAny_pure ?_
 have I4 : Inv X pins σ H3 { s3 with heap := s3.heap.push { cls := .type "slice", data := .fields #[vl, vu, .none] } } := I3.kept (t' := s3.toks) fun b ob q => Heap.get?_push_of_some _ q
 obtain ⟨T, id, hT, ht, hg⟩ := hr pins { s3 with heap := s3.heap.push { cls := .type "slice", data := .fields #[vl, vu, .none] } } σ H3 x v vl vu l u s3.heap.objs.size Q I4 r1 (Heap.IsSliceOf.new ..) pl pu q3
 show wpAny (model X.prog X.w) X.A (subscriptTail e (.Slice lo hi none p2) v (.ref s3.heap.objs.size)) (EP X pins σ Q) X.xe { s3 with heap := s3.heap.push { cls := .type "slice", data := .fields #[vl, vu, .none] } }
 exact tail_any (ops := [.ref s3.heap.objs.size, v]) ht hT hg (by with_unfolding_all rfl)
def jB (xs : List V) (lo hi : Option Int) : List V := (xs.drop (HT.sIx xs.length 0 lo)).take (HT.sIx xs.length xs.length hi - HT.sIx xs.length 0 lo)
theorem vh (xs : List V) (lo hi : Option Int) : (jB xs lo hi).length <= xs.length := by
 unfold jB
 rw [List.length_take, List.length_drop]
 omega
def Vm (K : PySem.W.Frag) : V -> Option Int -> Option Int -> Hp -> VK -> Prop := fun x lo hi H Q => ∃ a xs, x = .ref a /\ SqT K H a xs /\
 ¬ (HT.sIx xs.length 0 lo = 0 /\ HT.sIx xs.length xs.length hi = xs.length) /\ ∀ p, H p = none -> Q (.ref p) (upd H p (.tup (jB xs lo hi)))
theorem RP : SlR X (Vm X.K) := by
 intro pins s σ H x v vl vu lo hi sl Q I rx hs pl pu h
 obtain ⟨a, xs, rfl, hx, hw, q⟩ := h
 cases rx
 obtain ⟨its, r, ht, hz⟩ := I.tuple hx
 have hlen : its.toArray.size = xs.length := by rw [List.size_toArray]; exact r.length.symm
 refine ⟨"tuple", _, PyProof.Rows.slot_tuple_getitem.lookup, ht.typeIs, ?_⟩
 refine HT.ug ht hs pl pu (by rw [hlen]; exact hw) ?_ (by rw [hlen]; exact hz)
 rw [hlen]
 refine ⟨.ref s.heap.objs.size, _, I.laid (t' := s.toks) (o := .tup (jB xs lo hi)) (fun b ob q => Heap.get?_push_of_some _ q) (Nat.le_refl _) ?_, rfl, q _ (I.hok.fresh (Nat.le_refl _))⟩
 exact ⟨Nat.le_trans (vh xs lo hi) hz, _, (r.drop (HT.sIx xs.length 0 lo)).take (HT.sIx xs.length xs.length hi - HT.sIx xs.length 0 lo), IsTpl.new _ _⟩
end
end L2
namespace L2
open PySem PySem.Spec PyProof.Rows
def ixN (n : Nat) (i : Int) : Option Nat := if 0 <= i then (if i < n then some i.toNat else none) else if -(n : Int) <= i then some (i + n).toNat else none
def atI {α : Type} (xs : List α) (i : Int) : Option α := (ixN xs.length i).bind fun j => xs[j]?
theorem Ou {n : Nat} {i : Int} {j : Nat} (h : ixN n i = some j) : seqIndex? i n = some j /\ j < n /\ -(n : Int) <= i /\ i < n := by
 unfold ixN at h
 by_cases h0 : 0 <= i
 ·rw [if_pos h0] at h
  by_cases h1 : i < n
  ·rw [if_pos h1] at h
   have e : i.toNat = j := Option.some.inj h
   exact ⟨by rw [seqIndex_of h0 h1, e], by omega, by omega, h1⟩
  ·rw [if_neg h1] at h; cases h
 ·rw [if_neg h0] at h
  by_cases h1 : -(n : Int) <= i
  ·rw [if_pos h1] at h
   have e : (i + n).toNat = j := Option.some.inj h
   exact ⟨by rw [seqIndex_neg (by omega) h1, e], by omega, h1, by omega⟩
  ·rw [if_neg h1] at h; cases h
theorem zO {α : Type} {xs : List α} {i : Int} {v : α} (h : atI xs i = some v) : ∃ j, seqIndex? i xs.length = some j /\ xs[j]? = some v /\ j < xs.length /\ -(xs.length : Int) <= i /\ i < xs.length := by
 unfold atI at h
 cases e : ixN xs.length i with
 | none => rw [e] at h; cases h
 | some j =>
  rw [e] at h
  obtain ⟨h1, h2, h3, h4⟩ := Ou e
  exact ⟨j, h1, h, h2, h3, h4⟩
theorem jh {α : Type} {xs : List α} {j : Nat} {v : α} (h : xs[j]? = some v) : atI xs (j : Int) = some v := by
 have hj : j < xs.length := (List.getElem?_eq_some_iff.mp h).1
 have e : ixN xs.length (j : Int) = some j := by
  unfold ixN
  rw [if_pos (by omega), if_pos (by omega)]; simp
 unfold atI; rw [e]; exact h
theorem Nr {α : Type} (xs : List α) (v : α) : atI (xs ++ [v]) (-1) = some v := by
 have hl : (xs ++ [v]).length = xs.length + 1 := by simp
 have e : ixN (xs ++ [v]).length (-1) = some xs.length := by
  unfold ixN
  rw [hl, if_neg (by decide), if_pos (by omega)]
  congr 1
  omega
 unfold atI
 rw [e]
 show (xs ++ [v])[xs.length]? = some v
 simp
def Qp (b : Expr) : Prop := ∀ o i, subscripted b false o i = operate [o, i] (getItem o i)
def IxR (X : Cx) (r : R2) : Prop :=
 ∀ (value slice : Expr) (pins : List (Addr × Obj)) (s : Shared) (σ : St) (H : Hp) (x y : V) (v u : Value) (Q : VK), Inv X pins σ H s -> RelV x v -> RelV y u -> r x y H Q ->
  subscripted slice false v u = operate [v, u] (getItem v u) -> wpAny (model X.prog X.w) X.A (subscriptTail value slice v u) (EP X pins σ Q) X.xe s
def MtR (X : Cx) (id : String) (r : V -> List V -> Hp -> VK -> Prop) : Prop :=
 ∀ (pins : List (Addr × Obj)) (s : Shared) (σ : St) (H : Hp) (x : V) (xs : List V) (v : Value) (us : List Value) (Q : VK), Inv X pins σ H s -> RelV x v -> Vals xs us -> r x xs H Q ->
  wpAny (model X.prog X.w) X.A (call (.builtin id) (v :: us)) (EP X pins σ Q) X.xe s
section
variable {X : Cx} {a b : Expr} {ta tb : TE} {pos : Pos}
theorem IxR.or {r r' : R2} (h : IxR X r) (h' : IxR X r') : IxR X (fun x y H Q => r x y H Q ∨ r' x y H Q) := by
 intro value slice pins s σ H x y v u Q I rx ry q hs
 rcases q with q | q
 ·exact h value slice pins s σ H x y v u Q I rx ry q hs
 ·exact h' value slice pins s σ H x y v u Q I rx ry q hs
theorem aX {r : R2} (hr : IxR X r) (ha : PE X a ta) (hb : PE X b tb) (hs : Qp b) : PE X (.Subscript a b pos) (tOp r ta tb) := by
 intro pins s σ H Q I h
 exact Subscript_ (Sw ha hb I h fun v u s2 x y H2 I2 rx ry q => hr a b pins s2 σ H2 x y v u Q I2 rx ry q (hs _ _))
def Qq (K : PySem.W.Frag) : R2 := fun x y H Q => ∃ p xs i v, x = .ref p /\ y = .int i /\ SqL K H p xs /\ atI xs i = some v /\ Q v H
def Qy (K : PySem.W.Frag) : R2 := fun x y H Q => ∃ p xs i v, x = .ref p /\ y = .int i /\ SqT K H p xs /\ atI xs i = some v /\ Q v H
def Va : R2 := fun x y H Q => ∃ z i c, x = .str z /\ y = .int i /\ z.length <= sizeLine /\ atI z.cps.toList i = some c /\ Q (.str ⟨#[c]⟩) H
theorem ix_list : IxR X (Qq X.K) := by
 intro value slice pins s σ H x y v u Q I rx ry h hs
 obtain ⟨p, xs, i, z, rfl, rfl, hq, he, q⟩ := h
 cases rx
 obtain ⟨t, rfl⟩ := ry
 obtain ⟨its, r, pl, hz⟩ := I.list hq
 obtain ⟨j, h1, h2, h3, h4, h5⟩ := zO he
 obtain ⟨w, ew, rw'⟩ := r.get h2
 have hl := r.length
 have hn := uz
 have fin : EP X pins σ Q w s := ⟨z, H, I, rw', q⟩
 by_cases h0 : 0 <= i
 ·have hj : i.toNat = j := by
   rw [seqIndex_of h0 h5] at h1
   exact Option.some.inj h1
  exact item_listR pl.isList h0 (by omega) (by rw [hj]; simpa using ew) fin hs
 ·have hj : (i + (its.toArray.size : Int)).toNat = j := by
   rw [seqIndex_neg (by omega) h4] at h1
   rw [List.size_toArray, ← hl]
   exact Option.some.inj h1
  exact subscriptTail_builtinR (x := w) pl.isList.typeIs slot_list_getitem.lookup
   (wpAny_getItem_list_neg (Q := fun r s' => r = w /\ EP X pins σ Q r s') pl.isList (by omega) (by rw [List.size_toArray] <;> omega) (by omega) (by rw [hj]; simpa using ew) ⟨rfl, fin⟩) hs
theorem ix_tup : IxR X (Qy X.K) := by
 intro value slice pins s σ H x y v u Q I rx ry h hs
 obtain ⟨p, xs, i, z, rfl, rfl, hq, he, q⟩ := h
 cases rx
 obtain ⟨t, rfl⟩ := ry
 obtain ⟨its, r, pl, hz⟩ := I.tuple hq
 obtain ⟨j, h1, h2, h3, h4, h5⟩ := zO he
 obtain ⟨w, ew, rw'⟩ := r.get h2
 have hl := r.length
 have hn := uz
 have fin : EP X pins σ Q w s := ⟨z, H, I, rw', q⟩
 exact subscriptTail_builtinR (x := w) pl.typeIs slot_tuple_getitem.lookup
  (getItem_tuple (j := j) (Q := fun r s' => r = w /\ EP X pins σ Q r s') pl (by omega) (by omega) (by rw [List.size_toArray, ← hl]; exact h1) (by simpa using ew) ⟨rfl, fin⟩) hs
theorem Uq : IxR X Va := by
 intro value slice pins s σ H x y v u Q I rx ry h hs
 obtain ⟨z, i, c, rfl, rfl, hz, he, q⟩ := h
 obtain ⟨t, rfl⟩ := rx
 obtain ⟨t', rfl⟩ := ry
 obtain ⟨j, h1, h2, h3, h4, h5⟩ := zO he
 have hl : z.cps.toList.length = z.length := by simp [Str.length]
 rw [hl] at h1 h4 h5
 have hn := uz
 exact tail_any (typeIs_str s z t) slot_str_getitem.lookup (getItem_str (c := c) (by
  have e1 : decide (i < -(2 ^ 63 : Int)) = false := decide_eq_false (by omega)
  have e2 : decide (i ≥ 2 ^ 63) = false := decide_eq_false (by omega)
  rw [e1, e2, Bool.or_false]) (by rw [h1]; simpa using h2) ⟨.str ⟨#[c]⟩, H, I.tok _, ⟨_, rfl⟩, q⟩) hs
def rIx (K : PySem.W.Frag) : R2 := fun x y H Q => Qq K x y H Q ∨ Qy K x y H Q ∨ Va x y H Q
theorem Sx : IxR X (rIx X.K) := ix_list.or (ix_tup.or Uq)
theorem Am (lo hi : Option Int) (n : Nat) : (sliceBounds lo hi none n).1 = ((HT.sIx n 0 lo : Nat) : Int) /\ (sliceBounds lo hi none n).2.1 = ((HT.sIx n n hi : Nat) : Int) /\ (sliceBounds lo hi none n).2.2 = 1 := by
 refine ⟨?_, ?_, rfl⟩
 ·cases lo with
  | none => simp [sliceBounds, HT.sIx]
  | some i =>
   simp only [sliceBounds, HT.sIx, Option.getD_none, show (1 : Int) > 0 by decide, if_true]
   by_cases h : i < 0
   ·simp only [h, if_true] <;> omega
   ·simp only [h, if_false] <;> omega
 ·cases hi with
  | none => simp [sliceBounds, HT.sIx]
  | some i =>
   simp only [sliceBounds, HT.sIx, Option.getD_none, show (1 : Int) > 0 by decide, if_true]
   by_cases h : i < 0
   ·simp only [h, if_true] <;> omega
   ·simp only [h, if_false] <;> omega
theorem yM (its : List Value) (lo hi : Option Int) : slicePick its.toArray lo hi none = ((its.drop (HT.sIx its.length 0 lo)).take (HT.sIx its.length its.length hi - HT.sIx its.length 0 lo)).toArray := by
 obtain ⟨h1, h2, h3⟩ := Am lo hi its.toArray.size
 unfold slicePick
 rw [h1, h2, h3]
 simp only [sliceRange_one, pick_run, List.size_toArray] <;> rfl
def Ul (K : PySem.W.Frag) : V -> Option Int -> Option Int -> Hp -> VK -> Prop := fun x lo hi H Q => ∃ a xs, x = .ref a /\ SqL K H a xs /\ ∀ p, H p = none -> Q (.ref p) (upd H p (.lst (jB xs lo hi)))
theorem O1 : SlR X (Ul X.K) := by
 intro pins s σ H x v vl vu lo hi sl Q I rx hs pl pu h
 obtain ⟨a, xs, rfl, hx, q⟩ := h
 cases rx
 obtain ⟨its, r, ht, hz⟩ := I.list hx
 have hlen := r.length
 refine ⟨"list", _, slot_list_getitem.lookup, ht.isList.typeIs, ?_⟩
 refine wpAny_getItem_list_slice ht.isList hs pl pu .none (by simp) ?_ (by rw [List.size_toArray] <;> omega)
 rw [yM, ← hlen]
 refine ⟨.ref s.heap.objs.size, _, I.laid (t' := s.toks) (o := .lst (jB xs lo hi)) (fun b ob q => Heap.get?_push_of_some _ q) (Nat.le_refl _) ?_, rfl, q _ (I.hok.fresh (Nat.le_refl _))⟩
 exact ⟨Nat.le_trans (vh xs lo hi) hz, _, 0, (r.drop (HT.sIx xs.length 0 lo)).take (HT.sIx xs.length xs.length hi - HT.sIx xs.length 0 lo), Heap.get?_push_size _ rfl⟩
theorem z7 : fK X (.builtin "len") (fun xs H Q => ∃ p ys, xs = [.ref p] /\ (SqL X.K H p ys ∨ SqT X.K H p ys) /\ Q (.int ys.length) H) := by
 intro pins s σ H xs us Q I r h
 obtain ⟨p, ys, rfl, hq, q⟩ := h
 obtain ⟨u, rfl, rx⟩ := vals1 r
 cases rx
 have hn := uz
 rcases hq with hq | hq
 ·obtain ⟨its, r', pl, hz⟩ := I.list hq
  have hlen := r'.length
  exact Calls.call_len_list pl.isList (by simp only [List.size_toArray] <;> omega) ⟨.int ys.length, H, I.tok _, ⟨s.toks + 1, by rw [List.size_toArray, hlen]⟩, q⟩
 ·obtain ⟨its, r', pl, hz⟩ := I.tuple hq
  have hlen := r'.length
  exact len_tuple pl (by simp only [List.size_toArray] <;> omega) ⟨.int ys.length, H, I.tok _, ⟨s.toks + 1, by rw [List.size_toArray, hlen]⟩, q⟩
theorem Ah : fK X (.type "list") (fun xs H Q => ∃ p ys, xs = [.ref p] /\ (SqL X.K H p ys ∨ SqT X.K H p ys) /\ ∀ l, H l = none -> Q (.ref l) (upd H l (.lst ys))) := by
 intro pins s σ H xs us Q I r h
 obtain ⟨p, ys, rfl, hq, q⟩ := h
 obtain ⟨u, rfl, rx⟩ := vals1 r
 cases rx
 have fin : ∀ (its : List Value), Vals ys its -> ys.length <= sizeLine -> ∀ (h' : Heap) (c' : Nat), (∀ b o', s.heap.get? b = some o' -> h'.get? b = some o') ->
   h'.get? s.heap.objs.size = some { cls := .type "list", dict := none, data := .seq its.toArray c', slots := #[] } -> EP X pins σ Q (.ref s.heap.objs.size) { s with heap := h' } := fun its r' hz h' c' kp e =>
  ⟨.ref s.heap.objs.size, _, I.laid (t' := s.toks) kp (Nat.le_refl _) (show ObjOk X.prog X.w _ h' _ (.lst ys) from ⟨hz, its, c', r', e⟩), rfl, q _ (I.hok.fresh (Nat.le_refl _))⟩
 rcases hq with hq | hq
 ·obtain ⟨its, r', pl, hz⟩ := I.list hq
  have hlen := r'.length
  obtain ⟨o, ho, hc, n, hd⟩ := pl.isList
  exact call_list_seq p (.inl rfl) ho hc hd (fun h' c' kp e => fin its r' hz h' c' kp e) (by simp only [List.size_toArray] <;> omega)
 ·obtain ⟨its, r', pl, hz⟩ := I.tuple hq
  have hlen := r'.length
  obtain ⟨o, ho, hc, n, hd⟩ := pl
  exact call_list_seq p (.inr rfl) ho hc hd (fun h' c' kp e => fin its r' hz h' c' kp e) (by simp only [List.size_toArray] <;> omega)
theorem yK : fK X (.type "tuple") (fun xs H Q => ∃ p ys, xs = [.ref p] /\ ((SqL X.K H p ys /\ ∀ l, H l = none -> Q (.ref l) (upd H l (.tup ys))) ∨ (SqT X.K H p ys /\ Q (.ref p) H))) := by
 intro pins s σ H xs us Q I r h
 obtain ⟨p, ys, rfl, h⟩ := h
 obtain ⟨u, rfl, rx⟩ := vals1 r
 cases rx
 rcases h with ⟨hq, q⟩ | ⟨hq, q⟩
 ·obtain ⟨its, r', pl, hz⟩ := I.list hq
  have hlen := r'.length
  refine call_tuple_list pl.isList (fun h' kp => ?_) (by simp only [List.size_toArray] <;> omega)
  have I1 : Inv X pins σ H { s with heap := h' } := I.kept (t' := s.toks) kp
  have I2 : Inv X pins σ (upd H h'.objs.size (.tup ys)) { s with heap := h'.push { cls := .type "tuple", data := .seq its.toArray } } :=
   I1.laid (t' := s.toks) (fun b o e => Heap.get?_push_of_some _ e) (Nat.le_refl _) (show ObjOk X.prog X.w _ _ _ (.tup ys) from ⟨hz, its, r', IsTpl.new _ _⟩)
  exact ⟨.ref h'.objs.size, _, I2, rfl, q _ (I1.hok.fresh (Nat.le_refl _))⟩
 ·obtain ⟨its, r', pl, hz⟩ := I.tuple hq
  exact call_tuple_same pl ⟨.ref p, H, I, rfl, q⟩
def tyV (K : PySem.W.Frag) (T : String) (x : V) (H : Hp) : Prop := match x with
 | .str _ => T = "str"
 | .int _ => T = "int"
 | .ref p => (T = "list" /\ ∃ xs, SqL K H p xs) ∨ (T = "tuple" /\ ∃ o, K.lookup p = some o /\ o.cls = .type "tuple" /\ o.dict = none) ∨
   (T = "dict" /\ ((∃ kvs, H p = some (.dK kvs)) ∨ ∃ kvs, H p = some (.dT kvs))) ∨ (T = "set" /\ ∃ S n, H p = some (.set S n))
 | _ => False
theorem Ac {pins : List (Addr × Obj)} {σ : St} {H : Hp} {s : Shared} {T : String} {x : V} {v : Value} (I : Inv X pins σ H s) (r : RelV x v) (ty : tyV X.K T x H) :
  s.TypeIs v T /\ ∀ a, v = .ref a -> ∃ ob, s.heap.get? a = some ob /\ ob.dict = none := by
 cases x with
 | str z =>
  obtain ⟨t, rfl⟩ := r
  cases (show T = "str" from ty)
  exact ⟨typeIs_str s z t, fun _ e => nomatch e⟩
 | int i =>
  obtain ⟨t, rfl⟩ := r
  cases (show T = "int" from ty)
  exact ⟨typeIs_int s i t, fun _ e => nomatch e⟩
 | ref p =>
  cases r
  rcases ty with ⟨rfl, xs, hq⟩ | ⟨rfl, o, hk, hc, hd⟩ | ⟨rfl, hk⟩ | ⟨rfl, S, n, hk⟩
  ·obtain ⟨its, _, pl, _⟩ := I.list hq
   refine ⟨pl.isList.typeIs, fun a e => ?_⟩
   cases e
   obtain ⟨o, n, e, c, hd, _⟩ := pl
   exact ⟨o, e, hd⟩
  ·refine ⟨⟨o, I.kIn p o hk, hc⟩, fun a e => ?_⟩
   cases e
   exact ⟨o, I.kIn _ o hk, hd⟩
  ·have z : ∃ o, s.heap.get? p = some o /\ o.ExactDict := by
    rcases hk with ⟨kvs, hk⟩ | ⟨kvs, hk⟩
    ·obtain ⟨_, _, _, _, o, _, _, e, ex, _⟩ := I.hok p _ hk
     exact ⟨o, e, ex⟩
    ·obtain ⟨_, _, _, _, o, _, _, e, ex, _⟩ := I.hok p _ hk
     exact ⟨o, e, ex⟩
   obtain ⟨o, e, ex⟩ := z
   refine ⟨⟨o, e, ex.1⟩, fun a e2 => ?_⟩
   cases e2
   exact ⟨o, e, ex.2.1⟩
  ·obtain ⟨o, _, _, _, e, ex, _⟩ := I.hok p _ hk
   refine ⟨⟨o, e, ex.1⟩, fun a e2 => ?_⟩
   cases e2
   exact ⟨o, e, ex.2.1⟩
 | _ => exact False.elim ty
def V2 (K : PySem.W.Frag) (T : String) (r : V -> List V -> Hp -> VK -> Prop) (to : TE) : TE := fun σ H Q => to σ H fun x H1 => tyV K T x H1 /\ r x [] H1 Q
def tBM (K : PySem.W.Frag) (T : String) (r : V -> List V -> Hp -> VK -> Prop) (to : TE) (t : TA) : TE := fun σ H Q => to σ H fun x H1 => tyV K T x H1 /\ t σ H1 fun xs H2 => r x xs H2 Q
variable {o e : Expr} {es : List Expr} {to : TE} {t : TA} {name : Str} {apos cpos : Pos} {T id : String} {r : V -> List V -> Hp -> VK -> Prop}
theorem Ss (pa : PlainAttrs T) (slot : Slot T name id) (hty : typeOf (.builtin id) = pure (.type "method_descriptor")) (hm : MtR X id r) (ho : PE X o to)
  (hbase : attributeBase o name X.env (eval o X.env) = eval o X.env := by rfl) (hline : (apos.endLine == cpos.line) = true := by rfl) : PE X (.Call (.Attribute o name apos) [] [] cpos) (V2 X.K T r to) := by
 intro pins s σ H Q I h
 refine wpAny_Call_method0_late hbase hline (thn (ho pins s σ H _ I h) fun v s1 ⟨x, H1, I1, r1, ty, q1⟩ => ?_)
 obtain ⟨h1, h2⟩ := Ac I1 r1 ty
 exact ⟨T, id, pa, slot, hty, h1, h2, Calls.callWith_builtin rfl (PySem.evalArgs_none (hm pins s1 σ H1 x [] v [] Q I1 r1 .nil q1))⟩
theorem wY (pa : PlainAttrs T) (slot : Slot T name id) (hty : typeOf (.builtin id) = pure (.type "method_descriptor")) (hm : MtR X id r) (ho : PE X o to) (ha : PA X (e :: es) t)
  (hbase : attributeBase o name X.env (eval o X.env) = eval o X.env := by rfl)
  (hfew : ((backTo cpos (starEach (e :: es) X.env)).all (fun x => !x.1) && (backToKw cpos (keywordEach [] X.env)).all (fun x => x.1.isSome)
   && decide ((e :: es).length + ([] : List Keyword).length + (if ([] : List Keyword).isEmpty then 0 else 1) < 30)) = true := by rfl)
  (hline : (apos.endLine == cpos.line) = true := by rfl) (hs : starEach (e :: es) X.env = (false, eval e X.env) :: starEach es X.env := by rfl) (hplain : (backTo cpos (starEach es X.env)).any (·.1) = false := by rfl) :
  PE X (.Call (.Attribute o name apos) (e :: es) [] cpos) (tBM X.K T r to t) := by
 intro pins s σ H Q I h
 refine wpAny_Call_method_late hbase hfew hline rfl (thn (ho pins s σ H _ I h) fun v s1 ⟨x, H1, I1, r1, ty, q1⟩ => ?_)
 obtain ⟨h1, h2⟩ := Ac I1 r1 ty
 refine ⟨T, id, pa, slot, hty, h1, h2, ?_⟩
 have hA := ha cpos pins s1 σ H1 _ I1 q1
 rw [hs] at hA ⊢
 refine Calls.callWith_builtin (by show (false || (backTo cpos (starEach es X.env)).any (·.1)) = false; rw [hplain] <;> rfl) (Calls.evalArgs_plain ?_)
 exact thn hA fun us s2 ⟨vs, H2, I2, r2, q2⟩ => hm pins s2 σ H2 x vs v us Q I2 r1 r2 q2
end
end L2
namespace L2
open PySem PySem.Spec PyProof.Rows
def MtM (X : Cx) (id : String) (r : V -> List V -> Hp -> VK -> Prop) : Prop :=
 ∀ (pins : List (Addr × Obj)) (s : Shared) (σ : St) (H : Hp) (x : V) (xs : List V) (v : Value) (us : List Value) (Q : VK), Inv X pins σ H s -> RelV x v -> Vals xs us -> r x xs H Q ->
  wpAny (model X.prog X.w) X.A (call (.builtin id) (v :: us)) (EP X pins σ Q) X.xe s
theorem Vals.one : ∀ {x : V} {us : List Value}, Vals [x] us -> ∃ u, us = [u] /\ RelV x u
 | _, _, .cons r .nil => ⟨_, rfl, r⟩
theorem Vals.two : ∀ {x y : V} {us : List Value}, Vals [x, y] us -> ∃ u v, us = [u, v] /\ RelV x u /\ RelV y v
 | _, _, _, .cons r (.cons q .nil) => ⟨_, _, rfl, r, q⟩
section
variable {X : Cx} {pins : List (Addr × Obj)} {σ : St} {H : Hp} {s : Shared} {l b : Addr} {xs ys zs : List V}
theorem Inv.lset {its its' : List Value} {n : Nat} {f : Array Value -> Array Value} {t' : Nat} (I : Inv X pins σ H s) (hH : H l = some (.lst xs))
  (e : s.heap.get? l = some { cls := .type "list", data := .seq its.toArray n }) (hf : f its.toArray = its'.toArray) (hv : Vals ys its') (hz : ys.length <= sizeLine) :
  Inv X pins σ (upd H l (.lst ys)) { s with heap := s.heap.update l (Obj.mapSeq f), toks := t' } := by
 have q := PySem.IsL.update e f
 rw [hf] at q
 refine I.write (x := l) (e := l) (by rw [hH]; exact trivial) (.inl rfl) (fun b' u hb hu => (Heap.get?_update_other s.heap (Obj.mapSeq f) (Ne.symm hb)).trans hu) ⟨_, q⟩ ?_
 exact ⟨hz, its', _, hv, q⟩
theorem Inv.lnew {its : List Value} {t' : Nat} (I : Inv X pins σ H s) (hv : Vals ys its) (hz : ys.length <= sizeLine) :
  Inv X pins σ (upd H s.heap.objs.size (.lst ys)) { s with heap := s.heap.push { cls := .type "list", data := .seq its.toArray }, toks := t' } :=
 I.laid (fun _ _ q => Heap.get?_push_of_some _ q) (Nat.le_refl _) ⟨hz, its, 0, hv, Heap.get?_push_size _ rfl⟩
theorem Inv.fresh (I : Inv X pins σ H s) : H s.heap.objs.size = none := I.hok.fresh (Nat.le_refl _)
theorem Inv.lstM (I : Inv X pins σ H s) (hH : H l = some (.lst xs)) : xs.length <= sizeLine /\ ∃ (its : List Value) (n : Nat), Vals xs its /\ xs.length = its.length /\ s.heap.get? l = some { cls := .type "list", data := .seq its.toArray n } := by
 obtain ⟨z, its, n, r, e⟩ := I.hok l _ hH
 exact ⟨z, its, n, r, r.length, e⟩
theorem KJ {n : Nat} (h : n <= sizeLine) : Builtin.List.listTooLong n = false := by
 unfold Builtin.List.listTooLong
 exact decide_eq_false (by omega)
end
section
variable {X : Cx}
def ww : V -> List V -> Hp -> VK -> Prop := fun x vs H Q => ∃ l xs y, x = .ref l /\ vs = [y] /\ H l = some (.lst xs) /\ xs.length < sizeLine /\ Q .non (upd H l (.lst (xs ++ [y])))
theorem lF : MtM X "list.append" ww := by
 intro pins s σ H x vs v us Q I rx rv h
 obtain ⟨l, xs, y, rfl, rfl, hH, hz, q⟩ := h
 cases rx
 obtain ⟨u, rfl, ru⟩ := rv.one
 obtain ⟨z, its, n, r, hl, e⟩ := I.lstM hH
 refine call_meets F.slot_list_append ⟨_, e, rfl⟩ F.entry_list_append (F.args_list_append_2 _ _) (PySem.list_append l its.toArray n u (by rw [List.size_toArray]; omega)) ⟨e, ?_⟩
 refine ⟨.non, _, I.lset (its' := its ++ [u]) hH e (by simp) (r.append (.cons ru .nil)) ?_, rfl, q⟩
 rw [List.length_append, List.length_singleton]
 omega
def PQ : V -> List V -> Hp -> VK -> Prop := fun x vs H Q => ∃ l b xs zs, x = .ref l /\ vs = [.ref b] /\ H l = some (.lst xs) /\ H b = some (.lst zs) /\ xs.length + zs.length <= sizeLine /\ Q .non (upd H l (.lst (xs ++ zs)))
theorem Iw : MtM X "list.extend" PQ := by
 intro pins s σ H x vs v us Q I rx rv h
 obtain ⟨l, b, xs, zs, rfl, rfl, hH, hB, hz, q⟩ := h
 cases rx
 obtain ⟨u, rfl, ru⟩ := rv.one
 cases ru
 obtain ⟨z, its, n, r, hl, e⟩ := I.lstM hH
 obtain ⟨z2, its2, n2, r2, hl2, e2⟩ := I.lstM hB
 have hsz : its.toArray.size + its2.toArray.size <= sizeLine := by rw [List.size_toArray, List.size_toArray]; omega
 have hlong : ¬ (!its.toArray.isEmpty && Builtin.List.listTooLong (its.toArray.size + its2.toArray.size)) = true := by
  rw [KJ hsz, Bool.and_false]
  exact Bool.false_ne_true
 refine call_meets F.slot_list_extend ⟨_, e, rfl⟩ F.entry_list_extend (F.args_list_extend_2 _ _)
  (AutoSeq1.list_extend_list_list_0 l its.toArray n b its2.toArray n2 hlong (by rw [List.size_toArray]; omega) (by omega)) ⟨e, e2, ?_⟩
 refine ⟨.non, _, I.lset (its' := its ++ its2) hH e (by simp) (r.append r2) ?_, rfl, q⟩
 rw [List.length_append]
 omega
def Wq : R2 := fun x y H Q => ∃ l b xs zs, x = .ref l /\ y = .ref b /\ H l = some (.lst xs) /\ H b = some (.lst zs) /\ xs.length + zs.length <= sizeLine /\ ∀ p, H p = none -> Q (.ref p) (upd H p (.lst (xs ++ zs)))
theorem Gq : OpR X (binaryOp .Add) Wq := by
 intro pins s σ H x y v u Q I rx ry h
 obtain ⟨l, b, xs, zs, rfl, rfl, hH, hB, hz, q⟩ := h
 cases rx
 cases ry
 obtain ⟨z, its, n, r, hl, e⟩ := I.lstM hH
 obtain ⟨z2, its2, n2, r2, hl2, e2⟩ := I.lstM hB
 refine PySem.P.add_list e e2 ?_ (by rw [List.size_toArray, List.size_toArray]; omega)
 have ea : its.toArray ++ its2.toArray = (its ++ its2).toArray := by simp
 rw [ea]
 exact ⟨.ref _, _, I.lnew (t' := s.toks) (r.append r2) (by rw [List.length_append]; omega), rfl, q _ I.fresh⟩
end
section
variable {prog : Program} {w : World} {A : Around} {E : Value -> Shared -> Prop} {s : Shared}
end
section
variable {X : Cx}
end
end L2
namespace Att
open PySem PySem.W PySem.Calls PyProof.Rows
theorem vM {P : Params} {h : Heap} : ∀ (ns : List Int) (vs : List Value), WellAll P h vs (ns.map WData.int) -> IntsAre vs ns := by
 intro ns
 induction ns with
 | nil =>
  intro vs w
  rw [List.map_nil] at w
  cases w
  exact .nil
 | cons n ns ih =>
  intro vs w
  rw [List.map_cons] at w
  cases w with
  | cons a b =>
   cases a
   exact .cons _ _ (ih _ b)
theorem JB {l : OpenLaw} {n : Nat} (hn : l.most = some n) {P : Params} {h : Heap} {args : List WData} {vals : List Value}
  (hpre : l.row.toRowW.claim.pre args = true) (hwl : WellAll P h vals args) :
  ∃ a vs ns, vals = [Value.ref a] /\ args = [WData.list (ns.map WData.int)] /\ h.get? a = some { cls := .type "list", data := .seq vs.toArray } /\ IntsAre vs ns /\ ns.length <= n := by
 have hsh : WShape.hasAll [] args [.list .int] = true := (pre_splitW hpre).1
 have hc : l.pre.holds [] { args := args } = true := (pre_splitW hpre).2
 obtain ⟨d, r, rfl, h1, h2⟩ := hasAllW_cons hsh
 obtain rfl := hasAllW_nil h2
 obtain ⟨xs, rfl, h3⟩ := hasW_list h1
 obtain ⟨ns, rfl⟩ := items_int h3
 have hlen : ns.length <= n := by
  unfold OpenLaw.pre at hc
  have h4 : (WTm.not (.lt (.lit (.int (n : Int))) (.len (.arg 0)))).holds [] { args := [.list (ns.map .int)] } = true := by
   have h4 := (holds_andW hc).1
   rw [hn] at h4
   exact h4
  have h5 := condW_of h4 (w_not (w_lt w_lit (w_len_list (w_arg rfl))))
  rw [List.length_map] at h5
  refine Nat.le_of_not_lt fun q => ?_
  have q' : (n : Int) < ((ns.length : Nat) : Int) := by omega
  first
   | (rw [decide_eq_true q'] at h5; exact absurd h5 (by decide))
   | (simp at h5; omega)
 cases hwl with
 | cons w1 w2 =>
  cases w2
  cases w1 with
  | list ho hall => exact ⟨_, _, ns, rfl, rfl, ho, vM ns _ hall, hlen⟩
theorem Iu (l : OpenLaw) (args : List WData) : l.row.toRowW.claim.post args (.bool true) args = true :=
 postW_of (r := l.row.toRowW) (X := (true == true))
  (show WShape.has [] (.bool true) .bool = true by first | rfl | decide | simp [WShape.has, WShape.arms, WShape.armsAll])
  (show (WTm.eq .res (.lit (.bool true))).value [] { args := args, res := some (.bool true), after := args } = some (.bool (true == true)) from w_eq_bool (w_res rfl) w_lit) rfl
theorem attach_call {l : OpenLaw} {n : Nat} {q : Program} {loose : List Str} {XP : (Str -> Option Value) -> Heap -> Prop} {YP : World -> Heap -> Prop} {d : DefRec}
  (hn : l.most = some n) (hdf : d.params.defaults = [])
  (call : ∀ (w : World) (s₀ s₁ : Shared) (mg mb : Str -> Option Value) (fa : Addr) (o : Obj) (pm cd doc : Value) (a : Addr) (vs : List Value) (ns : List Int),
   Ground q loose [] XP w s₀ mg mb s₁.heap -> YP w s₁.heap ->
   s₁.heap.get? fa = some o -> o.data = .func (docDef d.name d.params d.body d.scope pm cd doc) -> s₁.heap.CodeRec cd d.name -> mg d.name = some (.ref fa) ->
   s₁.heap.get? a = some { cls := .type "list", data := .seq vs.toArray } -> IntsAre vs ns -> ns.length <= n -> s₁.gens = #[] ->
   codeAny (model l.prog w) callerA (.call (.ref fa) ⟨[.ref a], []⟩) (fun r s' => r = .ok (.ret (.bool true)) /\ OldK s₁.heap s'.heap /\ s'.os = s₁.os /\ AllBare s'.gens) s₁) :
  WalkO q loose XP YP l.row.toRowW d [] (fun f vs => PySem.call f vs) := by
 intro w s₀ s₁ mg mb G Y fa o pm cd doc dV kV ho hd hcd hD hmg hg args vals as hpre hlay hrd hwl hlo
 obtain rfl : dV = .none := Dflts.none hD hdf
 obtain rfl : kV = .none := Dflts.noKw hD
 obtain ⟨a, vs, ns, rfl, rfl, hobj, hints, hlen⟩ := JB hn hpre hwl
 refine enter_call (codeAny_mono (call w s₀ s₁ mg mb fa o pm cd doc a vs ns G Y ho (fd_plain hd) hcd hmg hobj hints hlen hg) fun r s' hq => ?_)
 obtain ⟨rfl, h2, h3, h4⟩ := hq
 exact ⟨.inl ⟨.bool true, .bool true, [], rfl, fun _ => rfl, .bool true, Iu l _, fun _ => ⟨List.Pairwise.nil, fun _ hm => (nomatch hm)⟩⟩, h2, h3, h4⟩
section
variable {prog : Program} {w : World} {A : Around} {E : Value -> Shared -> Prop} {s : Shared} {K : Frag}
end
end Att
namespace L2
open PySem PySem.Spec PyProof.Rows
theorem qR : ∀ {vs : List Value} {ns : List Int}, IntsAre vs ns -> Vals (ns.map V.int) vs
 | _, _, .nil => .nil
 | _, _, .cons n t h => .cons ⟨t, rfl⟩ (qR h)
def Only (H : Hp) : Prop := ∀ b, H b = none ∨ ∃ o xs, H b = some (.frz o (.lst xs))
theorem J4 {P : Program} {w : World} {K : PySem.W.Frag} {mg mb : Str -> Option Value} {CX : CXT} {k : Nat} {fa a : Addr} {fd : FuncData} {x : Str} {sp : Sp} {s₁ : Shared} {vs : List Value} {ns : List Int}
  (KX : K.In s₁.heap) (hns : s₁.heap.Ns mainGlobals mg) (hb : s₁.heap.Ns builtinsNs mb) (hbb : ∀ x : Str, x ≠ "__name__" -> mb x = bootBuiltins x) (hlim : s₁.heap.NoLimit) (hg : s₁.gens = #[])
  (ha : s₁.heap.get? a = some { cls := .type "list", data := .seq vs.toArray }) (hi : IntsAre vs ns) (hl : ns.length <= sizeLine) (hr : Room k callerA)
  (F : ∀ base : Heap, K.In base -> base.Ns mainGlobals mg -> FnOk P w K mg base CX k fa fd [x] sp) (hbind : ∀ (s : Shared) (u : Value), BindsTo s fd ⟨[u], []⟩ [(x, u)])
  (hsp : ∀ H : Hp, Only H -> SqL K H a (ns.map V.int) -> sp [.ref a] H (fun v _ => v = .bl true) fun _ _ _ => False)
  (hCX : ∀ H e s', CX [] H s₁ (fun _ _ _ => False) e s' -> False) :
  codeAny (model P w) callerA (.call (.ref fa) ⟨[.ref a], []⟩) (fun r s' => r = .ok (.ret (.bool true)) /\ OldK s₁.heap s'.heap /\ s'.os = s₁.os /\ AllBare s'.gens) s₁ := by
 have rv := qR hi
 have lenV := hi.length
 -- from an abstract heap in which nothing but the script may be tracked
 have core : ∀ H : Hp, Only H -> SqL K H a (ns.map V.int) -> HOk P w H s₁.heap -> (∀ b, H b ≠ none -> b = a) -> (H a ≠ none -> K.lookup a = none) ->
   codeAny (model P w) callerA (.call (.ref fa) ⟨[.ref a], []⟩) (fun r s' => r = .ok (.ret (.bool true)) /\ OldK s₁.heap s'.heap /\ s'.os = s₁.os /\ AllBare s'.gens) s₁ := by
  intro H hO hS hok hA hK
  have base_of : ∀ {b : Addr} {o : Obj}, s₁.heap.get? b = some o -> H b = none -> (Bg s₁.heap H).get? b = some o := fun e n => Lk e n
  have noA : ∀ {b : Addr} {o : Obj} {es : Array DictEntry} {ep : Nat}, s₁.heap.get? b = some o -> o.data = .dict es ep -> H b = none := fun {b o es ep} e d => by
   cases q : H b with
   | none => rfl
   | some u =>
    have e' : b = a := hA b (by rw [q]; simp)
    subst e'
    rw [ha] at e; cases e
    have d' : Data.seq vs.toArray _ = Data.dict es ep := d
    cases d'
  have nsK : ∀ {b : Addr} {m : Str -> Option Value}, s₁.heap.Ns b m -> (Bg s₁.heap H).Ns b m := fun {b m} ⟨o, es, ep, e, d, r⟩ => ⟨o, es, ep, base_of e (noA e d), d, r⟩
  have hKb : K.In (Bg s₁.heap H) := fun b o e => base_of (KX b o e) (by
   cases q : H b with
   | none => rfl
   | some u =>
    have e' : b = a := hA b (by rw [q]; simp)
    subst e'
    rw [hK (by rw [q]; simp)] at e; cases e)
  have hM : Mod K mg (Bg s₁.heap H) := ⟨hKb, nsK hns, ⟨mb, nsK hb, hbb⟩, let ⟨mc, h1, h2⟩ := hlim; ⟨mc, nsK h1, h2⟩⟩
  have e0 : Env0 P w K mg (Bg s₁.heap H) callerA [] s₁ H := ⟨rfl, hM, fun b o e => Qk e, Nat.le_of_eq (Iz _ _), trivial, fun b hb => absurd (show b ∈ ([] : List Addr) from hb) (by simp), hok, .of_eq hg⟩
  refine codeAny_mono ((F _ hKb (nsK hns)).run callerA [] s₁ H ⟨[.ref a], []⟩ [.ref a] [.ref a] _ _ hr e0 (hbind s₁ (.ref a)) (.cons rfl .nil) (hsp H hO hS)) fun r s' h => ?_
  cases r with
  | error e => exact (hCX H e s' h).elim
  | ok fl =>
   cases fl with
   | next => exact False.elim h
   | brk => exact False.elim h
   | cont => exact False.elim h
   | ret u =>
    obtain ⟨v, H', os, bare, un, hok', r', q⟩ := h
    have q' : v = .bl true := q
    subst q'
    obtain rfl : u = Value.bool true := r'
    refine ⟨rfl, OldK.of_keep fun b o e => ?_, os, bare⟩
    cases q : H b with
    | none => exact un.keep b o e q (by intro z; exact absurd (show b ∈ ([] : List Addr) from z) (by simp)) (by simp)
    | some u =>
     rcases hO b with z | ⟨ob, xs, z⟩
     ·rw [q] at z; cases z
     ·have z2 := un.frzs b ob _ z
      obtain ⟨e1, _⟩ := hok b _ z
      obtain ⟨e2, _⟩ := hok' b _ z2
      rw [e] at e1; cases e1
      exact e2
 cases hk : K.lookup a with
 | some o =>
  -- the script is one of the module's own objects
  have e := KX a o hk
  rw [ha] at e
  cases e
  refine core (fun _ => none) (fun _ => .inl rfl) (.inr ⟨_, vs.toArray, _, hk, rfl, rfl, rfl, by rw [List.size_toArray, lenV]; exact hl, by simpa using rv⟩) (fun b u z => by have z' : (none : Option HO) = some u := z; cases z') (fun b z => absurd rfl z) fun z => absurd rfl z
 | none =>
  refine core (fun b => if b = a then some (.frz { cls := .type "list", data := .seq vs.toArray } (.lst (ns.map V.int))) else none) (fun b => ?_) (.inl (.inr ⟨{ cls := .type "list", data := .seq vs.toArray }, if_pos rfl⟩)) (fun b u z => ?_) (fun b z => ?_) fun _ => hk
  ·by_cases hb : b = a
   ·exact .inr ⟨_, _, if_pos hb⟩
   ·exact .inl (if_neg hb)
  ·by_cases hb : b = a
   ·have z' := (if_pos hb).symm.trans z
    cases z'
    subst hb
    exact ⟨ha, by rw [List.length_map]; exact hl, vs, _, rv, ha⟩
   ·have z' := (if_neg hb).symm.trans z
    cases z'
  ·by_cases hb : b = a
   ·exact hb
   ·exact absurd (if_neg hb) z
end L2
namespace L2
open PySem PySem.Spec PyProof.Rows
theorem OD {l : PySem.W.OpenLaw} {n k : Nat} {q : Program} {loose : List Str} {XP : (Str -> Option Value) -> Heap -> Prop} {YP : World -> Heap -> Prop} {d : DefRec} {K : Params -> PySem.W.Frag} {CX : World -> CXT} {sp : World -> Sp} {x : Str}
  (hn : l.most = some n) (hn2 : n <= sizeLine) (hdf : d.params.defaults = []) (hr : Room k callerA)
  (hY : ∀ (w : World) (h : Heap), YP w h -> (K w.params).In h)
  (F : ∀ (w : World) (mg : Str -> Option Value) (fa : Addr) (h : Heap), (K w.params).In h -> h.Ns mainGlobals mg -> mg d.name = some (.ref fa) ->
   ∃ fd : FuncData, (∀ (s : Shared) (u : Value), BindsTo s fd ⟨[u], []⟩ [(x, u)]) /\
    ∀ base : Heap, (K w.params).In base -> base.Ns mainGlobals mg -> FnOk l.prog w (K w.params) mg base (CX w) k fa fd [x] (sp w))
  (hsp : ∀ (w : World) (H : Hp) (a : Addr) (ns : List Int), ns.length <= n -> Only H -> SqL (K w.params) H a (ns.map V.int) -> sp w [.ref a] H (fun v _ => v = .bl true) fun _ _ _ => False)
  (hCX : ∀ (w : World) (H : Hp) (s : Shared) (e : Value) (s' : Shared), CX w [] H s (fun _ _ _ => False) e s' -> False) :
  PySem.W.WalkO q loose XP YP l.row.toRowW d [] (fun f vs => PySem.call f vs) := by
 refine Att.attach_call hn hdf fun w s₀ s₁ mg mb fa o pm cd doc a vs ns G Y ho hd hcd hmg hobj hints hlen hg => ?_
 have KX := hY w _ Y
 obtain ⟨fd, hb, hF⟩ := F w mg fa _ KX G.T.g hmg
 exact J4 KX G.T.g G.T.b G.T.builtins G.T.nolimit hg hobj hints (Nat.le_trans hlen hn2) hr hF hb (fun H hO hS => hsp w H a ns hlen hO hS) fun H e s' => hCX w H s₁ e s'
end L2
namespace L2
open PySem PySem.Spec PyProof.Rows
def inClass (s : Stmt) (j : Nat) : Stmt := match s with
 | .ClassDef _ _ _ body _ _ _ _ _ _ _ => body.getD j (.Pass ⟨0, 0, 0, 0⟩)
 | _ => .Pass ⟨0, 0, 0, 0⟩
def aR (s : Stmt) : Arguments := match s with
 | .FunctionDef _ a _ _ _ _ _ _ _ _ => a
 | _ => { posonlyargs := [], args := [], vararg := none, kwonlyargs := [], kw_defaults := [], kwarg := none, defaults := [] }
def aQ (s : Stmt) : List Stmt := match s with
 | .FunctionDef _ _ b _ _ _ _ _ _ _ => b
 | _ => []
def ao (s : Stmt) : Scope := match s with
 | .FunctionDef _ _ _ _ _ _ sc _ _ _ => sc
 | _ => { kind := .function, names := [], isGenerator := false, isCoroutine := false }
abbrev CX0 : CXT := fun _ _ _ _ _ _ => False
abbrev E0 : XK := fun _ _ _ => False
theorem wR {X : Cx} : xM CX0 X E0 := fun _ _ _ _ _ _ _ h => h.elim
structure Fun (K : PySem.W.Frag) (x qual : Str) (st : Stmt) (f : Addr) (fd : FuncData) : Prop where
 ex : ∃ (oc : Value) (od : Option Addr) (kV doc pm : Value) (an : Option Addr) (cdv ct : Value) (osl : Array (Option Value)),
  fd = PySem.W.fnOf x qual (aR st) (aQ st) (ao st) .none kV doc pm an cdv ct /\ K.lookup f = some ⟨oc, od, .func fd, osl⟩ /\ PySem.W.codeIn K cdv qual = true
 kp : PySem.W.keepIn K (.ref f) = true
section
variable {P : Program} {w : World} {K : PySem.W.Frag} {mg : Str -> Option Value} {base : Heap}
theorem Fun.ok {x qual : Str} {st : Stmt} {f : Addr} {fd : FuncData} {N ps : List Str} {k : Nat} {sp : Sp} (F : Fun K x qual st f fd) (S : FnScope N ps (ao st)) (len : ∀ vs H Q E, sp vs H Q E -> vs.length = ps.length)
  (hbody : ∀ (cdv : Value) (A : Around) (outer : List Env) (s : Shared) (H : Hp) (vs : List V) (Q : VK) (E : XK), Room k (A.deeper (envOfC qual (ao st) s.heap.objs.size f cdv)) -> sp vs H Q E ->
   ∃ t, PSs (Jq CX0 P w K mg base N qual (ao st) f cdv A outer s H E).nox (aQ st) t /\ t { nx := fun _ H' => Q .non H', rt := Q } (start N vs) H) : FnOk P w K mg base CX0 (k + 1) f fd ps sp := by
 obtain ⟨oc, od, kV, doc, pm, an, cdv, ct, osl, rfl, lk, hcd⟩ := F.ex
 refine We lk hcd S len fun A outer s H vs Q E hr hsp => ?_
 obtain ⟨t, h, q⟩ := hbody cdv A outer s H vs Q E hr hsp
 exact ⟨t, h.nox, q⟩
theorem Fun.binds {x qual : Str} {st : Stmt} {f : Addr} {fd : FuncData} {ps : List Str} (F : Fun K x qual st f fd)
  (h : ∀ (kV doc pm : Value) (an : Option Addr) (cdv ct : Value) (us : List Value), us.length = ps.length -> bindArgs (PySem.W.fnOf x qual (aR st) (aQ st) (ao st) .none kV doc pm an cdv ct) ⟨us, []⟩ = pure (ps.zip us)) : Binds K fd ps [] := by
 obtain ⟨oc, od, kV, doc, pm, an, cdv, ct, osl, rfl, lk, hcd⟩ := F.ex
 exact .all (h kV doc pm an cdv ct)
theorem bh {x qual : Str} {st : Stmt} {f : Addr} {oc : Value} {od an : Option Addr} {osl : Array (Option Value)} {kV doc pm cdv ct : Value} (l : K.lookup f = some ⟨oc, od, .func (PySem.W.fnOf x qual (aR st) (aQ st) (ao st) .none kV doc pm an cdv ct), osl⟩)
  (c : PySem.W.codeIn K cdv qual = true) (k : PySem.W.keepIn K (.ref f) = true) : Fun K x qual st f (PySem.W.fnOf x qual (aR st) (aQ st) (ao st) .none kV doc pm an cdv ct) := ⟨⟨oc, od, kV, doc, pm, an, cdv, ct, osl, rfl, l, c⟩, k⟩
end
theorem bH {A : Around} {k : Nat} (hr : Room k A) : A.units + 1 < cLine := Nat.lt_of_le_of_lt (Nat.add_le_add_left (by decide : 1 <= 64) _) hr.units
theorem aJ {n : Nat} (h : n <= 1000) : n < sizeLine := Nat.lt_of_le_of_lt h (by decide)
section
variable {X : Cx}
theorem pv (i : Nat) {x : Str} {pos : Pos} (hN : X.N[i]? = some x := by rfl) (hv : Vis X.env.scope x := by first | exact Or.inl rfl | exact Or.inr (Or.inl rfl) | exact Or.inr (Or.inr rfl)) (hd : (x == ("__debug__" : Str)) = false := by decide)
  (hcd : (x == ("__classdict__" : Str)) = false := by decide) : PE X (.Name x pos) (JF i) := Tv hN hv hd hcd
end
theorem Wy {A B : Prop} (h : B) : if false = true then A else B := by
 rw [if_neg Bool.false_ne_true]
 exact h
theorem Vj {A B : Prop} (h : A) : if true = true then A else B := by
 rw [if_pos rfl]
 exact h
theorem jr {c A B : Prop} [Decidable c] (h1 : c -> A) (h2 : ¬ c -> B) : if c then A else B := by
 by_cases h : c
 ·rw [if_pos h]
  exact h1 h
 ·rw [if_neg h]
  exact h2 h
def Same (H H' : Hp) : Prop := ∀ b o, H b = some o -> H' b = some o
theorem Same.refl (H : Hp) : Same H H := fun _ _ h => h
theorem Same.trans {H H1 H2 : Hp} (a : Same H H1) (b : Same H1 H2) : Same H H2 := fun c o h => b c o (a c o h)
theorem Same.free {H H' : Hp} (e : Same H H') {l : Addr} (h : H' l = Option.none) : H l = Option.none := by
 cases q : H l with
 | none => rfl
 | some o =>
  rw [e l o q] at h
  cases h
theorem Same.seq {K : PySem.W.Frag} {H H' : Hp} {a : Addr} {xs : List V} (e : Same H H') (h : SqL K H a xs) : SqL K H' a xs := by
 rcases h with (h | ⟨o, h⟩) | h
 ·exact .inl (.inl (e _ _ h))
 ·exact .inl (.inr ⟨o, e _ _ h⟩)
 ·exact .inr h
section
variable {κ : Type} [DecidableEq κ]
end
end L2
namespace GX
open PySem
theorem wX {α β : Type} {f : α -> β -> Sem (ForInStep β)} (g : α -> β -> β) : ∀ (l : List α) (b : β), (∀ x ∈ l, ∀ b, f x b = pure (.yield (g x b))) ->
  forIn l b f = pure (l.foldl (fun b x => g x b) b)
 | [], b, _ => rfl
 | x :: l, b, h => by
  rw [List.forIn_cons, h x List.mem_cons_self, pure_bind]
  exact wX g l (g x b) fun y hy => h y (List.mem_cons_of_mem _ hy)
def sI (env : Env) (x : Str × NameKind) (cs : List (Str × Addr)) : List (Str × Addr) := if x.2 == .free then (x.1, (env.cells.lookup x.1).getD 0) :: cs else cs
theorem Ge {env : Env} {sc : Scope} (h : ∀ y ∈ sc.names, y.2 = .free -> ∃ c, env.cells.lookup y.1 = some c) :
  closureFor sc env = pure (sc.names.foldl (fun b x => sI env x b) []) := by
 simp only [closureFor]
 rw [wX (sI env) sc.names [] (fun x hx b => by
  obtain ⟨n, k⟩ := x
  unfold sI
  by_cases hk : k = .free
  ·subst hk
   obtain ⟨c, hc⟩ := h _ hx rfl
   have e : cellOf env n = pure c := by unfold cellOf; rw [hc]
   simp only [beq_self_eq_true, if_true]
   rw [e, hc]
   rfl
  ·have hb : (k == NameKind.free) = false := by simpa using hk
   simp only [hb, Bool.false_eq_true, if_false])]
 rfl
theorem xx {env : Env} : ∀ (l : List (Str × NameKind)) (acc : List (Str × Addr)), (∀ y ∈ l, y.2 = .free -> ∃ c, env.cells.lookup y.1 = some c) -> (∀ p ∈ acc, env.cells.lookup p.1 = some p.2) ->
  ∀ p ∈ l.foldl (fun b x => sI env x b) acc, env.cells.lookup p.1 = some p.2
 | [], acc, _, ha => ha
 | x :: l, acc, h, ha => by
  refine xx l _ (fun y hy => h y (List.mem_cons_of_mem _ hy)) fun p hp => ?_
  unfold sI at hp
  dsimp only at hp
  by_cases hk : x.2 = .free
  ·obtain ⟨c, hc⟩ := h x List.mem_cons_self hk
   rw [hk] at hp
   simp only [beq_self_eq_true, if_true] at hp
   rcases List.mem_cons.mp hp with rfl | hp
   ·rw [hc]; rfl
   ·exact ha p hp
  ·have hb : (x.2 == NameKind.free) = false := by simpa using hk
   simp only [hb, Bool.false_eq_true, if_false] at hp
   exact ha p hp
theorem xq {env : Env} {n : Str} : ∀ (l : List (Str × NameKind)) (acc : List (Str × Addr)), ((∃ c, (n, c) ∈ acc) ∨ (n, NameKind.free) ∈ l) -> ∃ c, (n, c) ∈ l.foldl (fun b x => sI env x b) acc
 | [], acc, h => by
  rcases h with h | h
  ·exact h
  ·cases h
 | x :: l, acc, h => by
  refine xq l _ ?_
  unfold sI
  dsimp only
  rcases h with ⟨c, h⟩ | h
  ·refine .inl ⟨c, ?_⟩
   split
   ·exact List.mem_cons_of_mem _ h
   ·exact h
  ·rcases List.mem_cons.mp h with h | h
   ·refine .inl ?_
    subst h
    simp only [beq_self_eq_true, if_true]
    exact ⟨_, List.mem_cons_self⟩
   ·exact .inr h
theorem rC {n : Str} {c : Addr} : ∀ {l : List (Str × Addr)}, (n, c) ∈ l -> ∃ c', l.lookup n = some c'
 | [], h => by cases h
 | (m, d) :: l, h => by
  rw [List.lookup_cons]
  cases e : n == m with
  | true => exact ⟨d, rfl⟩
  | false =>
   rcases List.mem_cons.mp h with h | h
   ·cases h
    simp at e
   ·exact rC h
theorem Mw {n : Str} {c : Addr} : ∀ {l : List (Str × Addr)}, l.lookup n = some c -> (n, c) ∈ l
 | [], h => by cases h
 | (m, d) :: l, h => by
  rw [List.lookup_cons] at h
  cases e : n == m with
  | true =>
   rw [e] at h
   have e' : n = m := by simpa using e
   have h' : d = c := Option.some.inj h
   rw [e', h']
   exact List.mem_cons_self
  | false =>
   rw [e] at h
   exact List.mem_cons_of_mem _ (Mw h)
theorem xu {env : Env} {sc : Scope} (h : ∀ y ∈ sc.names, y.2 = .free -> ∃ c, env.cells.lookup y.1 = some c) :
  ∃ cl, closureFor sc env = pure cl /\ (∀ x c, cl.lookup x = some c -> env.cells.lookup x = some c) /\ (∀ n, (n, NameKind.free) ∈ sc.names -> ∃ c, cl.lookup n = some c) := by
 refine ⟨_, Ge h, fun x c e => ?_, fun n hn => ?_⟩
 ·exact xx sc.names [] h (fun p hp => by cases hp) (x, c) (Mw e)
 ·obtain ⟨c, hc⟩ := xq (env := env) sc.names [] (.inr hn)
  exact rC hc
theorem lZ {env : Env} {x : Str} : ∀ {names : List (Str × NameKind)}, 
  (names.map fun (n, k) => if (k == NameKind.free && env.scope.kind == .function && env.kindOf n == some .cell) then (n, NameKind.cell) else (n, k)).lookup x
   = (names.lookup x).map fun k => if (k == NameKind.free && env.scope.kind == .function && env.kindOf x == some .cell) then NameKind.cell else k
 | [] => rfl
 | (n, k) :: r => by
  have ih := @lZ env x r
  show List.lookup x ((if (k == NameKind.free && env.scope.kind == .function && env.kindOf n == some .cell) = true then (n, NameKind.cell) else (n, k)) :: _) = _
  cases hx : x == n with
  | true =>
   have e : x = n := by simpa using hx
   subst e
   simp only [List.lookup_cons, hx]
   split <;> simp_all
  | false =>
   simp only [List.lookup_cons, hx]
   by_cases hc : (k == NameKind.free && env.scope.kind == .function && env.kindOf n == some .cell) = true
   ·rw [if_pos hc]; simp only [List.lookup_cons, hx]; exact ih
   ·rw [if_neg hc]; simp only [List.lookup_cons, hx]; exact ih
theorem BZ {prog : Program} {w : World} {A : Around} {R : Result -> Shared -> Prop} {s : Shared} {elt target iter : Expr} {ifs : List Expr} {scope : Scope} {pos : Pos} {it acc : Value} {env : Env} (I : Nat -> Shared -> Prop)
  (turn : ∀ n s, I n s -> wpAny (model prog w) A (pyNext it) (fun r s₁ => match r with
   | none => R (.ok .next) s₁
   | some v => wpAny (model prog w) A (letOwnedTupleGo target it v) (fun _ s₀ => wpAny (model prog w) A (assign target env v) (fun _ s₂ =>
     wpAny (model prog w) A (forIn ifs true fun c r => if r = true then do let ok ← isTrue c env (eval c env); pure (ForInStep.yield ok) else pure (ForInStep.yield r)) (fun ok s₃ =>
      if ok = true then wpAny (model prog w) A (eval elt env) (fun x s₄ =>
       wpAny (model prog w) A (call (.builtin "list.append") [acc, x]) (fun _ s₅ => ∃ m, m < n /\ I m s₅) (fun _ _ => False) s₄) (fun _ _ => False) s₃
      else ∃ m, m < n /\ I m s₃) (fun _ _ => False) s₂) (fun _ _ => False) s₀) (fun _ _ => False) s₁) (fun _ _ => False) s)
  (n : Nat) (h : I n s) :
  codeAny (model prog w) A (.compLoop (.ListComp elt [⟨target, iter, ifs, 0⟩] scope pos) 0 it acc env) R s := by
 refine codeAny_loop rfl I (fun n s hI => ?_) n h
 show wpAny _ A ((compTurn (.ListComp elt [⟨target, iter, ifs, 0⟩] scope pos) 0 it acc env).onRaise (fun x => do noteFrame x env; theTreesLotGoes x)) _ _ s
 refine wpAny_noted ?_
 rw [compTurn_list]
 refine wpAny_bind (wpAny_standAt (wpAny_bind (wpAny_mono (turn n s hI) (fun r s₁ h₁ => ?_) fun _ _ h' => h'.elim)))
 cases r with
 | none => exact wpAny_pure h₁
 | some v =>
  refine wpAny_bind (wpAny_mono h₁ (fun _ s₀ h₀ => ?_) fun _ _ h' => h'.elim)
  refine wpAny_bind (wpAny_mono h₀ (fun _ s₂ h₂ => wpAny_bind (wpAny_mono h₂ (fun ok s₃ h₃ => ?_) fun _ _ h' => h'.elim)) fun _ _ h' => h'.elim)
  cases ok with
  | false => exact wpAny_pure ⟨rfl, h₃⟩
  | true =>
   exact wpAny_bind (wpAny_bind (wpAny_mono h₃ (fun x s₄ h₄ => wpAny_bind (wpAny_mono h₄ (fun _ s₅ h₅ => wpAny_pure (wpAny_pure ⟨rfl, h₅⟩)) fun _ _ h' => h'.elim)) fun _ _ h' => h'.elim))
end GX
namespace GX
open PySem
section
variable {prog : Program} {w : World} {A : Around} {R : Result -> Shared -> Prop} {I : Addr} {fp wr : List Addr} {n : Nat} {P : Nat -> Value -> Prop} {St : Nat -> Heap -> Prop}
end
end GX
namespace GX
open PySem
end GX
namespace GB
end GB
namespace GB
def Pj (l : List Nat) : Nat := l.foldl (fun a h => a ||| 2 ^ h) 0
end GB
namespace L2
open PySem PySem.Spec PyProof.Rows
def Wd (N : List Str) (sc : Scope) (x : Str) : Option Nat -> Bool
 | none => true
 | some j => decide (N[j]? = some x) && decide (sc.names.lookup x = some .free)
def Kf (N N' : List Str) (src : List (Option Nat)) (esc sc : Scope) : Prop :=
 (∀ y ∈ sc.names, y.2 ≠ .cell) /\ (∀ y ∈ sc.names, y.2 = .local -> sc.names.lookup y.1 = some .local) /\
 (∀ y ∈ sc.names, y.2 = .free -> esc.names.lookup y.1 = some .cell ∨ esc.names.lookup y.1 = some .free) /\
 N'.Nodup /\ src.length = N'.length /\ ∀ p ∈ N'.zip src, Wd N sc p.1 p.2 = true
instance (N N' : List Str) (src : List (Option Nat)) (esc sc : Scope) : Decidable (Kf N N' src esc sc) := by unfold Kf; infer_instance
def Ds (src : List (Option Nat)) (σ : St) : St := src.map fun o => o.bind fun j => (σ[j]?).bind fun v => v
def Cx.blk (X : Cx) (N' : List Str) (sc : Scope) (cl : List (Str × Addr)) (C : Addr) (s2 : Shared) (H2 : Hp) (fp : List Addr) : Cx :=
 { X with N := N', s₀ := s2, H₀ := H2, env := compEnvC sc cl C X.env, outer := X.stack, ex := fp, fn := fun _ => false, pn := [], xe := fun _ _ => False }
def PIf (X : Cx) (ifs : List Expr) (t : TT) : Prop :=
 ∀ (pins : List (Addr × Obj)) (s : Shared) (σ : St) (H : Hp) (Q : Bool -> Hp -> Prop), Inv X pins σ H s -> t σ H Q ->
  wpAny (model X.prog X.w) X.A (forIn ifs true fun c r => if r = true then do let ok ← isTrue c X.env (eval c X.env); pure (ForInStep.yield ok) else pure (ForInStep.yield r)) (TP X pins σ Q) X.xe s
def Rt : TT := fun _ H Q => Q true H
theorem fM {X : Cx} : PIf X [] Rt := fun _ _ _ H _ I h => wpAny_tests_nil ⟨H, I, h⟩
theorem mH {X : Cx} {c : Expr} {t : TT} (h : PT X c t) : PIf X [c] t := fun pins s σ H Q I hw => wpAny_tests_one (h pins s σ H Q I hw)
theorem Un.but {fs ex : List Addr} {H H' : Hp} {h h1 h2 : Heap} {C : Addr} (u : Un fs ex H H' h h1) (sb : Heap.SameBut C h1 h2) (hC : h.get? C = none) : Un fs ex H H' h h2 :=
 have ne : ∀ b o, h.get? b = some o -> b ≠ C := fun b o e z => by rw [z, hC] at e; cases e
 ⟨fun b o e n hb hx => (sb.2 b (ne b o e)).trans (u.keep b o e n hb hx), fun b o e n hb hx => let ⟨sl, z⟩ := u.slot b o e n hb hx; ⟨sl, (sb.2 b (ne b o e)).trans z⟩, u.free,
  fun b o e hx => let ⟨o', z⟩ := u.there b o e hx; ⟨o', (sb.2 b (ne b o e)).trans z⟩, u.tups, u.frzs, u.tbls⟩
theorem HOk.but {P : Program} {w : World} {H : Hp} {h h' : Heap} {C : Addr} (x : HOk P w H h) (sb : Heap.SameBut C h h') (hC : H C = none) : HOk P w H h' := fun b ob e => by
 refine (x b ob e).stay (fun c v hc q => (sb.2 c ?_).trans q) (fun _ q => q) fun _ _ q => q
 rintro rfl
 rcases hc with rfl | hc
 ·rw [hC] at e; cases e
 ·rw [hC] at hc; cases hc
def mF (g : TG) (tt : TT) (te : TE) (D : Addr) (N : St -> Hp -> Prop) (x : V) (σ : St) (H : Hp) : Prop :=
 g x σ H fun σ2 H2 => tt σ2 H2 fun b H3 => if b = true then te σ2 H3 fun y H4 => ∃ ys, H4 D = some (.lst ys) /\ ys.length < sizeLine /\ N σ2 (upd H4 D (.lst (ys ++ [y]))) else N σ2 H3
def J6 (src : List (Option Nat)) (wi : TI) (g : TG) (tt : TT) (te : TE) : TE := fun σ H Q => wi σ H fun J H1 => ∀ D, H1 D = none -> ∃ W : Nat -> Nat -> St -> Hp -> Prop, (∃ m, W 0 m (Ds src σ) (upd H1 D (.lst []))) /\
 ∀ i m σ' H', W i m σ' H' -> (J.stop i H' /\ Q (.ref D) H') ∨ (J.go i H' /\ ∃ N : St -> Hp -> Prop, (∀ σ2 H2, N σ2 H2 -> ∃ m', m' < m /\ W (i + 1) m' σ2 H2) /\
  ∀ x H'', J.yld i H' x H'' -> mF g tt te D N x σ' H'')
theorem zF {X : Cx} {elt tg iter : Expr} {ifs : List Expr} {sc : Scope} {pos : Pos} {g : TG} {tt : TT} {te : TE} {N' : List Str} {src : List (Option Nat)} {cl : List (Str × Addr)} {pins : List (Addr × Obj)} {σ : St} {H2 : Hp} {s2 : Shared} {it : Addr} {fp : List Addr}
  {tn : Nat -> Heap -> Prop} {J : It} {W : Nat -> Nat -> St -> Hp -> Prop} {m0 : Nat} {Qe : Hp -> Prop} {RR : Value -> Addr -> Result -> Shared -> Prop}
  (hc : X.calm = true) (hk : sc.kind = .function) (hB : Kf X.N N' src X.env.scope sc) (hsub : ∀ x c, cl.lookup x = some c -> X.env.cells.lookup x = some c) (hhas : ∀ n, (n, NameKind.free) ∈ sc.names -> ∃ c, cl.lookup n = some c)
  (hg : ∀ cl C s2 H2 fp, N'.Nodup -> PG (X.blk N' sc cl C s2 H2 fp) tg g)
  (ht : ∀ cl C s2 H2 fp, PIf (X.blk N' sc cl C s2 H2 fp) ifs tt)
  (he : ∀ cl C s2 H2 fp, PE (X.blk N' sc cl C s2 H2 fp) elt te)
  (I2 : Inv X pins σ H2 s2) (T : Turn X.prog X.w X.K tg J fp it tn) (st2 : tn 0 s2.heap) (f2 : ∀ b ∈ fp, nG X pins H2 b)
  (w0 : W 0 m0 (Ds src σ) (upd H2 s2.heap.objs.size (.lst [])))
  (turn : ∀ i m σ' H', W i m σ' H' -> (J.stop i H' /\ Qe H') ∨ (J.go i H' /\ ∃ N : St -> Hp -> Prop, (∀ σ2 H2, N σ2 H2 -> ∃ m', m' < m /\ W (i + 1) m' σ2 H2) /\
   ∀ x H'', J.yld i H' x H'' -> mF g tt te s2.heap.objs.size N x σ' H''))
  (fin : ∀ C s4 σ3 H3, s2.heap.objs.size <= C -> Inv (X.blk N' sc cl C s2 H2 fp) [] σ3 H3 s4 -> Qe H3 -> RR (.ref s2.heap.objs.size) C (.ok .next) s4) :
  wpAny (model X.prog X.w) X.A (newList []) (fun acc s₃ => wpAny (model X.prog X.w) X.A (newFunctionEnv sc X.env.globals cl [] X.env.qual none .none (some X.env)) (fun cenv s₄ =>
   codeAny (model X.prog X.w) X.A (.compStart (.ListComp elt [⟨tg, iter, ifs, 0⟩] sc pos) 0 (.ref it) acc { cenv with scope := relabel sc X.env }) (RR acc cenv.locals) s₄) X.xe s₃) X.xe s2 := by
 obtain ⟨b1, b2, b3, b4, b5, b6⟩ := hB
 refine wpAny_newObj_type (wpAny_newFunctionEnv b1 (by intro y hy; simp at hy) (fun h₁ ns₁ sb₁ => ?_) hk)
 dsimp only at ns₁ sb₁ ⊢
 generalize hP : s2.heap.push { cls := .type "list", dict := none, data := .seq ([] : List Value).toArray } = Hl at ns₁ sb₁ ⊢
 have hC : Hl.objs.size = s2.heap.objs.size + 1 := by rw [← hP, Heap.size_push]
 have nDC : s2.heap.objs.size ≠ Hl.objs.size := by rw [hC]; exact Nat.ne_of_lt (Nat.lt_succ_self _)
 have below : ∀ {b : Addr} {o : Obj}, s2.heap.get? b = some o -> b ≠ Hl.objs.size := fun {b o} z => by
  have := Heap.lt_size z
  rw [hC]
  exact Nat.ne_of_lt (Nat.lt_succ_of_lt this)
 have old : ∀ b o, s2.heap.get? b = some o -> h₁.get? b = some o := fun b o z => sb₁.extBut b o (below z) (Heap.get?_push_of_some _ (hP ▸ Heap.get?_push_of_some _ z))
 have hD1 : h₁.get? s2.heap.objs.size = some { cls := .type "list", data := .seq ([] : List Value).toArray } := sb₁.extBut _ _ nDC (Heap.get?_push_of_some _ (hP ▸ Heap.get?_push_size _ rfl))
 have fD : H2 s2.heap.objs.size = none := I2.hok.fresh (Nat.le_refl _)
 have fC : H2 Hl.objs.size = none := I2.hok.fresh (by rw [hC]; exact Nat.le_succ _)
 have ok : (X.blk N' sc cl Hl.objs.size s2 H2 fp).Ok := by
  refine ⟨I2.ok.mod, hk, I2.ok.glob, I2.ok.blt, ?_, fun x y c h1 h2 => I2.ok.inj x y c (hsub x c h1) (hsub y c h2), fun x hx => ?_, fun x c z => ?_, I2.ok.hd, I2.ok.frames, .inl rfl, fun b hb => ⟨?_, fun x c z => (f2 b hb).2.2.2.2.1 x c (hsub x c z)⟩,
   I2.bs, Nat.le_trans I2.ok.bsz I2.sz, fun b o z hb => ?_, fun b hb z => ?_, I2.stack, I2.stkFree⟩
  ·show s2.heap.objs.size <= Hl.objs.size
   rw [hC]; exact Nat.le_succ _
  ·have hx' : (sc.names.map fun (n, k) => if (k == NameKind.free && X.env.scope.kind == .function && X.env.kindOf n == some .cell) then (n, NameKind.cell) else (n, k)).lookup x = some .cell ∨
     (sc.names.map fun (n, k) => if (k == NameKind.free && X.env.scope.kind == .function && X.env.kindOf n == some .cell) then (n, NameKind.cell) else (n, k)).lookup x = some .free := hx
   rw [GX.lZ] at hx'
   cases e : sc.names.lookup x with
   | none =>
    rw [e] at hx'
    simp at hx'
   | some k =>
    rw [e] at hx'
    by_cases hf : k = .free
    ·subst hf
     exact hhas x (PySem.mem_of_lookup e)
    ·have hb : (k == NameKind.free) = false := by simpa using hf
     have e2 : ((some k).map fun k => if (k == NameKind.free && X.env.scope.kind == .function && X.env.kindOf x == some .cell) then NameKind.cell else k) = some k := by
      show some (if (k == NameKind.free && X.env.scope.kind == .function && X.env.kindOf x == some .cell) = true then NameKind.cell else k) = some k
      rw [hb, Bool.false_and, Bool.false_and]
      rfl
     rw [e2] at hx'
     rcases hx' with z | z
     ·exact absurd (Option.some.inj z) (b1 _ (PySem.mem_of_lookup e))
     ·exact absurd (Option.some.inj z) hf
  ·cases z
  ·obtain ⟨o, z, _⟩ := T.obj 0 _ st2 b hb
   exact below z
  ·rcases (f2 b hb).2.2.2.1 with f3 | f3
   ·exact I2.ok.noex b o z f3
   ·have l1 := Heap.lt_size z
    have l2 := I2.ok.bsz
    exact absurd (Nat.lt_of_lt_of_le l1 (Nat.le_trans l2 f3)) (Nat.lt_irrefl _)
  ·rcases List.mem_cons.mp (I2.stkSub b z) with z | z
   ·exact (f2 b hb).2.1 z
   ·exact (f2 b hb).2.2.1 z
 have IY : Inv (X.blk N' sc cl Hl.objs.size s2 H2 fp) [] (Ds src σ) (upd H2 s2.heap.objs.size (.lst [])) { s2 with heap := h₁, toks := s2.toks + ([] : List (Str × Value)).length } := by
  refine ⟨ok, rfl, I2.bare, Un.laid old (Nat.le_refl _) fD, ⟨_, ns₁, fun i x v e1 e2 _ => ?_⟩, fun x c z => ?_, ?_, fun x c z => ?_, fun p hp => ?_, I2.hok.laid old (Nat.le_refl _) ⟨Nat.zero_le _, [], 0, .nil, hD1⟩, ?_⟩
  ·have e1' : N'[i]? = some x := e1
   unfold Ds at e2
   rw [List.getElem?_map] at e2
   cases es : src[i]? with
   | none => rw [es] at e2; cases e2
   | some o =>
    rw [es] at e2
    cases o with
    | none => cases e2
    | some j =>
     have e3 : (σ[j]?).bind (fun v => v) = some v := Option.some.inj e2
     have e4 : σ[j]? = some (some v) := by
      cases q : σ[j]? with
      | none => rw [q] at e3; cases e3
      | some w => rw [q] at e3; exact congrArg some e3
     have hz : (x, some j) ∈ N'.zip src := List.mem_of_getElem? (i := i) (by rw [List.getElem?_zip_eq_some]; exact ⟨e1', es⟩)
     have hcap := b6 _ hz
     have hcap' : (decide (X.N[j]? = some x) && decide (sc.names.lookup x = some .free)) = true := hcap
     rw [Bool.and_eq_true] at hcap'
     have c1 : X.N[j]? = some x := of_decide_eq_true hcap'.1
     have c2 : sc.names.lookup x = some .free := of_decide_eq_true hcap'.2
     have hfree := PySem.mem_of_lookup c2
     have vis := b3 _ hfree rfl
     obtain ⟨m, hn, hl⟩ := I2.loc
     obtain ⟨u, ru, lk⟩ := hl j x v c1 e4 (.inr vis)
     rcases lk with ⟨k1, _⟩ | ⟨_, c, k2, z⟩
     ·have k1' : X.env.scope.names.lookup x = some .local := k1
      rcases vis with v | v <;> (rw [k1'] at v; cases v)
     ·obtain ⟨c', k3⟩ := hhas x hfree
      have k4 := hsub x c' k3
      rw [k2] at k4
      cases k4
      refine ⟨u, ru, .inr ⟨?_, c, k3, z.keeps old⟩⟩
      show (sc.names.map fun (n, k) => if (k == NameKind.free && X.env.scope.kind == .function && X.env.kindOf n == some .cell) then (n, NameKind.cell) else (n, k)).lookup x = some .cell ∨
       (sc.names.map fun (n, k) => if (k == NameKind.free && X.env.scope.kind == .function && X.env.kindOf n == some .cell) then (n, NameKind.cell) else (n, k)).lookup x = some .free
      rw [GX.lZ, c2]
      show some (if _ then NameKind.cell else NameKind.free) = _ ∨ some (if _ then NameKind.cell else NameKind.free) = _
      split
      ·exact .inl rfl
      ·exact .inr rfl
  ·obtain ⟨v, q⟩ := I2.cell x c (hsub x c z)
   exact ⟨v, q.keeps old⟩
  ·show upd H2 s2.heap.objs.size (.lst []) Hl.objs.size = none
   rw [aL (Ne.symm nDC)]
   exact fC
  ·obtain ⟨v, q⟩ := I2.cell x c (hsub x c z)
   rw [aL (Nat.ne_of_lt q.lt)]
   exact I2.freeC x c (hsub x c z)
  ·exact absurd (show p ∈ ([] : List (Addr × Obj)) from hp) (by simp)
  ·show (src.map _).length = N'.length
   rw [List.length_map]
   exact b5
 have stat : ∀ {H' : Hp}, (∀ b ∈ fp, H' b = none) -> ∀ b ∈ fp, nG (X.blk N' sc cl Hl.objs.size s2 H2 fp) [] H' b := fun hn b hb =>
  ⟨hn b hb, (ok.exf b hb).1, ok.exfs b hb, .inl hb, (ok.exf b hb).2, fun p hp => absurd (show p ∈ ([] : List (Addr × Obj)) from hp) (by simp)⟩
 have loop : codeAny (model X.prog X.w) X.A (.compLoop (.ListComp elt [⟨tg, iter, ifs, 0⟩] sc pos) 0 (.ref it) (.ref s2.heap.objs.size) (compEnvC sc cl Hl.objs.size X.env))
   (RR (.ref s2.heap.objs.size) Hl.objs.size) { s2 with heap := h₁, toks := s2.toks + ([] : List (Str × Value)).length } := by
  refine GX.BZ (fun n s' => ∃ i σ' H', Inv (X.blk N' sc cl Hl.objs.size s2 H2 fp) [] σ' H' s' /\ tn i s'.heap /\ (∀ b ∈ fp, H' b = none) /\ W i n σ' H') ?_ m0
   ⟨0, _, _, IY, T.keep 0 _ _ st2 (fun b _ o z => old b o z), fun b hb => ?_, w0⟩
  ·rintro n s3 ⟨i, σ3, H3, I3, st3, fr3, w3⟩
   rcases turn i n σ3 H3 w3 with ⟨stop, qn⟩ | ⟨go, N, hN, step⟩
   ·refine thn (T.done (X.blk N' sc cl Hl.objs.size s2 H2 fp) rfl rfl rfl hc i [] s3 σ3 H3 (fun _ _ => False) I3 (stat fr3) st3 stop) fun r s4 ⟨hr, I4⟩ => ?_
    subst hr
    exact fin _ s4 σ3 H3 (by rw [hC]; exact Nat.le_succ _) I4 qn
   ·refine thn (T.item (X.blk N' sc cl Hl.objs.size s2 H2 fp) rfl rfl rfl hc i [] s3 σ3 H3 (fun _ _ => False) I3 (stat fr3) st3 go) fun r s4 ⟨u, hr, h4⟩ => ?_
    subst hr
    refine thn h4 fun _ s5 ⟨x, H5, I5, r5, y5, st5, fr5⟩ => ?_
    have I5' := I5.pinned (stat fr5) (T.obj _ _ st5)
    have again : ∀ {σ7 : St} {H7 : Hp} {s7 : Shared}, Inv (X.blk N' sc cl Hl.objs.size s2 H2 fp) ([] ++ qH fp s5.heap) σ7 H7 s7 -> N σ7 H7 ->
      ∃ m, m < n /\ ∃ i σ' H', Inv (X.blk N' sc cl Hl.objs.size s2 H2 fp) [] σ' H' s7 /\ tn i s7.heap /\ (∀ b ∈ fp, H' b = none) /\ W i m σ' H' := fun {σ7 H7 s7} I7 n7 => by
     obtain ⟨m', hm, w7⟩ := hN σ7 H7 n7
     refine ⟨m', hm, i + 1, σ7, H7, I7.unpinned, T.keep _ _ _ st5 fun b hb o z => (I7.pin (b, o) (List.mem_append_right _ (List.mem_append_right _ (eO hb z)))).1, fun b hb => ?_, w7⟩
     obtain ⟨o, z, _⟩ := T.obj _ _ st5 b hb
     exact (I7.pin (b, o) (List.mem_append_right _ (List.mem_append_right _ (eO hb z)))).2.1
    refine thn (hg cl Hl.objs.size s2 H2 fp b4 _ s5 σ3 H5 x u _ I5' r5 (step x H5 y5)) fun _ s6 ⟨σ6, H6, I6, q6⟩ => ?_
    refine thn (ht cl Hl.objs.size s2 H2 fp _ s6 σ6 H6 _ I6 q6) fun ok s7 ⟨H7, I7, q7⟩ => ?_
    cases ok with
    | true =>
     rw [if_pos rfl] at q7 ⊢
     refine thn (he cl Hl.objs.size s2 H2 fp _ s7 σ6 H7 _ I7 q7) fun yv s8 ⟨y, H8, I8, r8, ys, hD, hz, n8⟩ => ?_
     exact thn (lF (X := X.blk N' sc cl Hl.objs.size s2 H2 fp) _ s8 σ6 H8 (.ref s2.heap.objs.size) [y] (.ref s2.heap.objs.size) [yv] (fun _ H' => N σ6 H') I8 rfl (.cons r8 .nil) ⟨_, ys, y, rfl, rfl, hD, hz, n8⟩)
      fun _ s9 ⟨_, H9, I9, _, n9⟩ => again I9 n9
    | false =>
     rw [if_neg Bool.false_ne_true] at q7 ⊢
     exact again I7 q7
  ·obtain ⟨o, z, _⟩ := T.obj 0 _ st2 b hb
   rw [aL (Nat.ne_of_lt (Heap.lt_size z))]
   exact (f2 b hb).1
 exact codeAny_compStart_list loop (T.self X.A 0 _ _ _ (T.keep 0 _ _ st2 (fun b _ o z => old b o z)) loop)
theorem cI {X : Cx} {elt tg iter : Expr} {ifs : List Expr} {sc : Scope} {pos : Pos} {wi : TI} {g : TG} {tt : TT} {te : TE} (N' : List Str) (src : List (Option Nat))
  (hc : X.calm = true) (hk : sc.kind = .function) (hB : decide (Kf X.N N' src X.env.scope sc) = true) (hi : PI X tg iter wi)
  (hg : ∀ cl C s2 H2 fp, N'.Nodup -> PG (X.blk N' sc cl C s2 H2 fp) tg g)
  (ht : ∀ cl C s2 H2 fp, PIf (X.blk N' sc cl C s2 H2 fp) ifs tt)
  (he : ∀ cl C s2 H2 fp, PE (X.blk N' sc cl C s2 H2 fp) elt te)
  (hs : ∀ x, foldedSetIterable iter X.env x = pure x := by intro _; rfl) :
  PE X (.ListComp elt [⟨tg, iter, ifs, 0⟩] sc pos) (J6 src wi g tt te) := by
 intro pins s σ H Q I h
 have B := of_decide_eq_true hB
 obtain ⟨cl, hclos, hsub, hhas⟩ := GX.xu (env := X.env) (sc := sc) fun y hy hf => I.ok.has y.1 (B.2.2.1 y hy hf)
 rw [eval_ListComp]
 refine wpAny_comprehension_free (use := none) rfl hs hclos hk B.2.1 (thn (hi pins s σ H _ I h) fun v s1 h1 => thn h1 fun itv s2 h2 => ?_)
 obtain ⟨it, fp, tn, J, H2, e, I2, T, st2, f2, q⟩ := h2
 subst e
 obtain ⟨W, ⟨m0, w0⟩, turn⟩ := q s2.heap.objs.size (I2.hok.fresh (Nat.le_refl _))
 refine zF (RR := fun acc C => compPost (model X.prog X.w) X.A X.xe none (EP X pins σ Q) acc C) (Qe := fun H' => Q (.ref s2.heap.objs.size) H') hc hk B hsub hhas hg ht he I2 T st2 f2 w0 turn fun C s4 σ3 H3 hC I4 qn => ?_
 obtain ⟨m, hn, _⟩ := I4.loc
 refine ⟨m, hn, fun h' sb => ⟨.ref s2.heap.objs.size, H3, ?_, rfl, qn⟩⟩
 exact I2.call' (s' := { s4 with heap := h' }) (ch := fp) I4.os (I4.base.but sb (Heap.get?_none_of_le hC)) (I4.hok.but sb I4.free) I4.bare fun b hb => ⟨(f2 b hb).2.2.2.1, (f2 b hb).2.1, (f2 b hb).2.2.2.2.1, (f2 b hb).2.2.2.2.2⟩
theorem zY {X : Cx} {elt tg iter : Expr} {ifs : List Expr} {sc : Scope} {pos py spos : Pos} {y : Str} {i : Nat} {wi : TI} {g : TG} {tt : TT} {te : TE} (N' : List Str) (src : List (Option Nat))
  (hN : X.N.Nodup) (hy : X.N[i]? = some y) (hl : Loc X.env.scope y) (hc : X.calm = true) (hk : sc.kind = .function) (hB : decide (Kf X.N N' src X.env.scope sc) = true) (hi : PI X tg iter wi)
  (hg : ∀ cl C s2 H2 fp, N'.Nodup -> PG (X.blk N' sc cl C s2 H2 fp) tg g)
  (ht : ∀ cl C s2 H2 fp, PIf (X.blk N' sc cl C s2 H2 fp) ifs tt)
  (he : ∀ cl C s2 H2 fp, PE (X.blk N' sc cl C s2 H2 fp) elt te)
  (hsw : swapsWith (.ListComp elt [⟨tg, iter, ifs, 0⟩] sc pos) (some (.Name y py)) spos.line X.env = pure true := by rfl)
  (hs : ∀ x, foldedSetIterable iter X.env x = pure x := by intro _; rfl) (hf : X.fn y = true ∨ X.env.scope.names.lookup y = some .local := by first | exact .inl rfl | exact .inr rfl) :
  PS X (.Assign [.Name y py] (.ListComp elt [⟨tg, iter, ifs, 0⟩] sc pos) spos) (J5 (J6 src wi g tt te) (yl i)) := by
 intro pins s σ H D I h
 have B := of_decide_eq_true hB
 obtain ⟨cl, hclos, hsub, hhas⟩ := GX.xu (env := X.env) (sc := sc) fun y hy hf => I.ok.has y.1 (B.2.2.1 y hy hf)
 rw [exec_Assign_Name_used _ _ _ _ hsw]
 refine wpAny_bind (wpAny_standAt (wpAny_bind ?_))
 show wpAny _ X.A (do let _ ← comprehension (.ListComp elt [⟨tg, iter, ifs, 0⟩] sc pos) sc X.env _ (newList []) false (eval iter X.env) (some (assign (.Name y py) X.env))) _ _ s
 refine wpAny_bind (wpAny_mono (wpAny_comprehension_free (use := some (assign (.Name y py) X.env)) (Q := fun _ s' => SP X pins D .next s') rfl hs hclos hk B.2.1
  (thn (hi pins s σ H _ I h) fun v s1 h1 => thn h1 fun itv s2 h2 => ?_)) (fun _ s' hq => wpAny_pure (wpAny_pure hq)) fun _ _ e => e)
 obtain ⟨it, fp, tn, J, H2, e, I2, T, st2, f2, q⟩ := h2
 subst e
 obtain ⟨W, ⟨m0, w0⟩, turn⟩ := q s2.heap.objs.size (I2.hok.fresh (Nat.le_refl _))
 refine zF (RR := fun acc C => compPost (model X.prog X.w) X.A X.xe (some (assign (.Name y py) X.env)) (fun _ s' => SP X pins D .next s') acc C) (Qe := fun H' => D.nx (σ.set i (some (.ref s2.heap.objs.size))) H') hc hk B hsub hhas hg ht he I2 T st2 f2 w0 turn
  fun C s4 σ3 H3 hC I4 qn => ?_
 have IX : Inv X pins σ H3 s4 := I2.call' (ch := fp) I4.os I4.base I4.hok I4.bare fun b hb => ⟨(f2 b hb).2.2.2.1, (f2 b hb).2.1, (f2 b hb).2.2.2.2.1, (f2 b hb).2.2.2.2.2⟩
 have nC : ∀ {b : Addr} {o : Obj}, s2.heap.get? b = some o -> C ≠ b := fun {b o} z => Nat.ne_of_gt (Nat.lt_of_lt_of_le (Heap.lt_size z) hC)
 have nL : C ≠ X.env.locals := Nat.ne_of_gt (Nat.lt_of_lt_of_le I2.lt hC)
 have nK : ∀ x c, X.env.cells.lookup x = some c -> c ≠ C := fun x c z => by
  obtain ⟨v, o, ho, _⟩ := I2.cell x c z
  exact Ne.symm (nC ho)
 obtain ⟨m, hn, _⟩ := I4.loc
 show wpAny _ X.A (assign (.Name y py) X.env (.ref s2.heap.objs.size)) _ _ s4
 refine wpAny_assign_Name (yR IX hN hy hl (v := .ref s2.heap.objs.size) rfl (fun s5 I5 h5 => ?_) hf)
 obtain ⟨a, sb, ha⟩ := h5
 have na : C ≠ a := by
  rcases ha with z | z
  ·rw [z]; exact nL
  ·exact Ne.symm (nK _ _ z)
 refine ⟨m, hn.sameBut sb na, fun h' sb' => ⟨_, H3, ?_, qn⟩⟩
 exact I5.turned (it := C) (t' := s5.toks) (fun b o hb z => (sb'.2 b hb).trans z) I4.free nL (.inr (Nat.le_trans I2.sz hC)) nK fun p hp => Ne.symm (nC (I2.pin p hp).1)
theorem KQ {i : Nat} {te : TE} {D : Addr} {N : St -> Hp -> Prop} {x : V} {σ : St} {H : Hp} (h : te (σ.set i (some x)) H fun y H4 => ∃ ys, H4 D = some (.lst ys) /\ ys.length < sizeLine /\ N (σ.set i (some x)) (upd H4 D (.lst (ys ++ [y])))) : mF (yl i) Rt te D N x σ H := by
 show (if true = true then te (σ.set i (some x)) H (fun y H4 => ∃ ys, H4 D = some (.lst ys) /\ ys.length < sizeLine /\ N (σ.set i (some x)) (upd H4 D (.lst (ys ++ [y])))) else N (σ.set i (some x)) H)
 rw [if_pos rfl]
 exact h
theorem FP {lo : Int} {n : Nat} {g : TG} {tt : TT} {te : TE} {σ : St} {H : Hp} {D : Addr} {Qe : Hp -> Prop} (Pv : Nat -> St -> Hp -> Prop) (h0 : Pv 0 σ H)
  (hs : ∀ i σ H, i < n -> Pv i σ H -> mF g tt te D (Pv (i + 1)) (.int (lo + i)) σ H) (hd : ∀ σ H, Pv n σ H -> Qe H) :
  ∃ W : Nat -> Nat -> St -> Hp -> Prop, (∃ m, W 0 m σ H) /\ ∀ i m σ' H', W i m σ' H' -> ((Itr lo n).stop i H' /\ Qe H') ∨ ((Itr lo n).go i H' /\ ∃ N : St -> Hp -> Prop, (∀ σ2 H2, N σ2 H2 -> ∃ m', m' < m /\ W (i + 1) m' σ2 H2) /\
   ∀ x H'', (Itr lo n).yld i H' x H'' -> mF g tt te D N x σ' H'') := by
 refine ⟨fun i m σ H => m = n - i /\ i <= n /\ Pv i σ H, ⟨n, by simp, Nat.zero_le _, h0⟩, ?_⟩
 rintro i m σ H ⟨rfl, hi, p⟩
 by_cases hlt : i < n
 ·refine .inr ⟨hlt, Pv (i + 1), fun σ' H' p' => ⟨n - (i + 1), by omega, rfl, hlt, p'⟩, fun x H' y => ?_⟩
  obtain ⟨e, y⟩ := y
  subst e y
  exact hs i σ _ hlt p
 ·have e : i = n := by omega
  subst e
  exact .inl ⟨Nat.le_refl _, hd σ H p⟩
theorem bJ {K : PySem.W.Frag} {a : Addr} {xs : List V} {g : TG} {tt : TT} {te : TE} {σ : St} {H : Hp} {D : Addr} {Qe : Hp -> Prop} (Pv : Nat -> St -> Hp -> Prop) (h0 : Pv 0 σ H) (hl : ∀ i σ H, i <= xs.length -> Pv i σ H -> SqL K H a xs)
  (hs : ∀ i x σ H, xs[i]? = some x -> Pv i σ H -> mF g tt te D (Pv (i + 1)) x σ H) (hd : ∀ σ H, Pv xs.length σ H -> Qe H) :
  ∃ W : Nat -> Nat -> St -> Hp -> Prop, (∃ m, W 0 m σ H) /\ ∀ i m σ' H', W i m σ' H' -> ((Itl K a).stop i H' /\ Qe H') ∨ ((Itl K a).go i H' /\ ∃ N : St -> Hp -> Prop, (∀ σ2 H2, N σ2 H2 -> ∃ m', m' < m /\ W (i + 1) m' σ2 H2) /\
   ∀ x H'', (Itl K a).yld i H' x H'' -> mF g tt te D N x σ' H'') := by
 refine ⟨fun i m σ H => m = xs.length - i /\ i <= xs.length /\ Pv i σ H, ⟨xs.length, by simp, Nat.zero_le _, h0⟩, ?_⟩
 rintro i m σ H ⟨rfl, hi, p⟩
 have q := hl i σ H hi p
 by_cases hlt : i < xs.length
 ·refine .inr ⟨⟨xs, xs[i], q, by simp [hlt]⟩, Pv (i + 1), fun σ' H' p' => ⟨xs.length - (i + 1), by omega, rfl, hlt, p'⟩, fun x H' y => ?_⟩
  obtain ⟨e, y⟩ := y
  subst e
  exact hs i x σ _ (y xs q) p
 ·have e : i = xs.length := by omega
  subst e
  exact .inl ⟨⟨xs, q, Nat.le_refl _⟩, hd σ H p⟩
end L2
namespace L2
open PySem PySem.Spec PyProof.Rows
section
variable {X : Cx}
def QF (_ j : Int) : Prop := 0 < j /\ j < 18446744073709551616
theorem N8 : OpR X (binaryOp .FloorDiv) (rI QF fun i j => .int (i / j)) := opI fun i j _ _ _ _ _ hc q => by
 have h1 : (0 : Int) < j := hc.1
 have h2 : j < 18446744073709551616 := hc.2
 refine floordiv_int (by omega) (by rw [Int.fdiv_eq_ediv_of_nonneg i (by omega)]; exact q) (.inl (PyProof.noPylong_of_log2 ?_))
 have h3 : j.natAbs.log2 < 64 := (Nat.log2_lt (by omega)).mpr (by omega)
 omega
theorem Ed : fK X (.builtin "isinstance") (fun xs H Q => ∃ (x : V) (t : Value) (T : String) (b : Bool), xs = [x, .ty T] /\ TyOf X.K H x t /\ PySem.W.kitOne X.K t (.type T) = some b /\ Q (.bl b) H) := by
 intro pins s σ H xs us Q I r h
 obtain ⟨x, t, T, b, rfl, ty, e, q⟩ := h
 obtain ⟨u, w', rfl, r1, r2⟩ := vals2 r
 obtain rfl : w' = Value.type T := r2
 exact JQ I r1 ty e fun tk => ⟨.bl b, H, I.tok tk, rfl, q⟩
theorem all_range : ∀ (bs : List Bool), (List.range bs.length).all (fun i => bs.getD i false) = bs.all fun b => b := by
 intro bs
 rw [Bool.eq_iff_iff, List.all_eq_true, List.all_eq_true]
 constructor
 ·intro h b hb
  obtain ⟨i, hi, e⟩ := List.getElem_of_mem hb
  have := h i (List.mem_range.mpr hi)
  rw [List.getD_eq_getElem?_getD, List.getElem?_eq_getElem hi, Option.getD_some, e] at this
  exact this
 ·intro h i hi
  have hi := List.mem_range.mp hi
  rw [List.getD_eq_getElem?_getD, List.getElem?_eq_getElem hi, Option.getD_some]
  exact h _ (List.getElem_mem hi)
theorem Np (hc : X.calm = true) : fK X (.builtin "all") (fun xs H Q => ∃ (p : Addr) (bs : List Bool), xs = [.ref p] /\ SqL X.K H p (bs.map V.bl) /\ Q (.bl (bs.all fun b => b)) H) := by
 intro pins s σ H xs us Q I r h
 obtain ⟨p, bs, rfl, hq, q⟩ := h
 obtain ⟨u, rfl, rx⟩ := vals1 r
 cases rx
 obtain ⟨its, rv, pl, hz⟩ := I.list hq
 have hl : its.toArray.size = bs.length := by rw [List.size_toArray, ← rv.length, List.length_map]
 have hp : p < s.heap.objs.size := let ⟨_, z, _⟩ := pl.isList; Heap.lt_size z
 refine call_all_walk (wpAny_pyIter_list pl.isList ?_)
 refine ⟨s.heap.objs.size, [s.heap.objs.size, p], [s.heap.objs.size], its.toArray.size, _, _, fun i => bs.getD i false, rfl, Walks.list (A := X.A.in1) (I.ok.hd hc) _ p (Nat.ne_of_lt hp) its.toArray,
  ⟨⟨_, Heap.get?_push_size _ rfl, rfl, rfl⟩, pl.isList.push _⟩, fun i v s' Q' E' hP hQ => ?_, fun h' tk kp => ?_⟩
 ·have hv : its[i]? = some v := by simpa using hP
  have hb : i < bs.length := by
   have := (List.getElem?_eq_some_iff.mp hv).1
   rw [← hl, List.size_toArray]
   exact this
  obtain ⟨u, hu, ru⟩ := rv.get (i := i) (x := V.bl bs[i]) (by rw [List.getElem?_map, List.getElem?_eq_getElem hb]; rfl)
  rw [hv] at hu
  cases hu
  obtain rfl : v = Value.bool bs[i] := ru
  refine wpAny_truthy_bool ?_
  have e : bs.getD i false = bs[i] := by rw [List.getD_eq_getElem?_getD, List.getElem?_eq_getElem hb, Option.getD_some]
  rw [← e]
  exact hQ
 ·refine ⟨.bl (bs.all fun b => b), H, I.kept (t' := tk) fun b o e => kp b o ?_ (Heap.get?_push_of_some _ e), ?_, q⟩
  ·intro z
   have z' : b = s.heap.objs.size := by simpa using z
   exact absurd (Heap.lt_size e) (by rw [z']; exact Nat.lt_irrefl _)
  ·show Value.bool _ = Value.bool _
   rw [hl, all_range]
end
structure Cal (K : PySem.W.Frag) (mg : Str -> Option Value) (x : Str) (f : Addr) (fd : FuncData) (ps : List Str) : Prop where
 mg : mg x = some (.ref f)
 kp : PySem.W.keepIn K (.ref f) = true
 bd : Binds K fd ps []
theorem bc {X : Cx} {k : Nat} {f : Addr} {fd : FuncData} {ps : List Str} {sp : Sp} {x : Str} {e : Expr} {es : List Expr} {t : TA} {p pos : Pos} (F : FnOk X.prog X.w X.K X.mg X.base CX0 k f fd ps sp) (c : Cal X.K X.mg x f fd ps) (hr : Room k X.A) (ha : PA X (e :: es) t)
  (hg : Gl X x := by rfl) (hdb : (x == ("__debug__" : Str)) = false := by decide) (he : starEach (e :: es) X.env = (false, eval e X.env) :: starEach es X.env := by rfl) (hpl : (backTo pos (starEach es X.env)).any (·.1) = false := by rfl) :
  PE X (.Call (.Name x p) (e :: es) [] pos) (Hx sp [] E0 t) := Ov F hr hg c.mg c.kp c.bd .nil wR ha hdb he hpl
theorem qO {X : Cx} {x : Str} {T : String} {pos : Pos} (hm : X.mg x = none) (hv : bootBuiltins x = some (.type T)) (hg : Gl X x := by rfl) (hn : x ≠ "__name__" := by decide) (hdb : (x == ("__debug__" : Str)) = false := by decide) : PE X (.Name x pos) (tC (.ty T)) :=
 P0 hg hm hv rfl hn hdb
def VM (K : PySem.W.Frag) (t : TE) : TT := fun σ H Q => t σ H fun x H' => ∃ k, LK K x H' k /\ Q k H'
theorem fP {X : Cx} (K : PySem.W.Frag) {f : Expr} {es : List Expr} {kws : List Keyword} {pos : Pos} {t : TE} (hK : X.K = K) (h : PE X (.Call f es kws pos) t) : PT X (.Call f es kws pos) (VM K t) := by
 subst hK
 exact M5 h fun _ => rfl
end L2
namespace L2
open PySem PySem.Spec PyProof.Rows
section
variable {X : Cx}
theorem Lh {x y : Int} (hx : 0 <= x) (hy : 0 <= y) : Builtin.bitOr x y = ((x.toNat ||| y.toNat : Nat) : Int) := by
 have nn : ∀ z : Int, Builtin.bitNot (Builtin.bitNot z) = z := fun z => by unfold Builtin.bitNot; omega
 have ng : ∀ z : Int, 0 <= z -> ¬ 0 <= Builtin.bitNot z := fun z hz => by unfold Builtin.bitNot; omega
 unfold Builtin.bitOr
 rw [bitAnd_nn (ng x hx) (ng y hy), nn, nn, nn]
end
end L2
namespace GX
open PySem
theorem JR : typeLookup (.type "list") (Str.ofString "keys") = pure none := am_miss_of_fast (by kernel_rfl)
theorem Oq : typeLookup (.type "list") "__getattr__" = pure none := by rw [typeLookup_type, builtinLookup_eq_fast]; kernel_rfl
theorem yL : entryFor table "list.__getattribute__" = some Builtin.«object.__getattribute__» :=
 entryFor_alias (id' := "object.__getattribute__") (by kernel_rfl) (by decide +kernel) (by decide +kernel) (by kernel_rfl)
theorem JM (l : Addr) (items : Array Value) (n : Nat) (u : Tok) :
  Meets (Builtin.«object.__getattribute__» ⟨[.ref l, .str (Str.ofString "keys") u], []⟩) (fun A R s => s.heap.get? l = some { cls := .type "list", dict := none, data := .seq items n, slots := #[] } /\ raisesAttr (.ref l) (Str.ofString "keys") A R s) :=
 Meets.of_wp fun prog w A R s hs => by
  obtain ⟨hl, hs⟩ := hs
  obtain ⟨hp, g, d, tk, os⟩ := s
  have hT : ∀ g d tk os, (⟨hp, g, d, tk, os⟩ : Shared).TypeIs (.ref l) "list" := fun _ _ _ _ => ⟨_, hl, rfl⟩
  have hmiss := JR
  unfold Builtin.«object.__getattribute__»
  repeat (any_goals (first | assumption | wp_step))
  exact wpAny_raiseAttrError hs.1 hs.2 (attrMsg_fits (by decide +kernel) (by size_fits))
theorem Br (a b : Value) : argsOk "list.__getattribute__" ⟨[a, b], []⟩ := by unfold argsOk; kernel_rfl
theorem Hd {prog : Program} {w : World} {A : Around} {E : Value -> Shared -> Prop} {s : Shared} {l : Addr} {items : Array Value} {n : Nat} {Q : Option Value -> Shared -> Prop} (hA : A.handled = none)
  (hl : s.heap.get? l = some { cls := .type "list", dict := none, data := .seq items n, slots := #[] })
  (h : ∀ h' tk, (∀ b o, s.heap.get? b = some o -> h'.get? b = some o) -> Q none { s with heap := h', toks := tk }) : wpAny (model prog w) A (getAttr? (.ref l) (Str.ofString "keys")) Q E s := by
 obtain ⟨hp, g, d, tk, os⟩ := s
 have hT : ∀ g d tk os, (⟨hp, g, d, tk, os⟩ : Shared).TypeIs (.ref l) "list" := fun _ _ _ _ => ⟨_, hl, rfl⟩
 have f1 := sub_AttributeError
 have f3 := F.slot_list_getattribute.lookup
 have f4 := F.slot_list_getattribute.bind (.ref l)
 have f5 := Oq
 unfold getAttr? getAttrBy? getAttrBy
 repeat (any_goals (first | assumption | ((with_reducible show wpAny _ _ (call (Value.builtin "list.__getattribute__") _ _) _ _ _); refine call_meets F.slot_list_getattribute (hT _ _ _ _) yL (Br _ _) (JM l items n _) ⟨hl, hA, fun h' tk' e hx => ?_⟩) | wp_step))
 obtain ⟨t', u', he⟩ := hx.there
 show wpAny _ _ (getattributeRaised _ _ _ _ _ _ _) _ _ _
 unfold getattributeRaised
 repeat (any_goals (first | assumption | wp_step))
 exact h h' tk' hx.keeps
end GX
namespace GX
open PySem
theorem jm : entryFor table "dict.update.loop" = some Builtin.«dict.update.loop» := entryFor_of_tree (by kernel_rfl)
theorem cB : plainId "dict.update.loop" = true := by decide +kernel
section
variable {prog : Program} {w : World} {A : Around} {R : Result -> Shared -> Prop} {I d : Addr} {fp wr : List Addr} {n : Nat} {P : Nat -> Value -> Prop} {St : Nat -> Heap -> Prop} {K : Type} [DecidableEq K] {knd : KeyKind prog w K}
theorem GK (kx : List (K × Value)) : (merged [] kx).length <= kx.length := by
 have := merged_length_le [] kx
 simpa using this
theorem N7 (W : Walks prog w A.in1 I fp wr n P St) (nd : d ∉ fp) (h₀ : Heap) (kx : List (K × Value)) (hn : kx.length = n) (hz : n <= sizeLine)
  (hP : ∀ i v, P i v -> ∃ a key k x o c, v = .ref a /\ kx[i]? = some (k, x) /\ knd.is k key = true /\ h₀.get? a = some o /\ o.cls = .type "tuple" /\ o.data = .seq #[key, x] c /\ a ≠ d /\ a ∉ wr) :
  ∀ (k i : Nat) (s : Shared) (t : Tok), n = i + k -> St i s.heap -> (∀ b o, b ∉ wr -> b ≠ d -> h₀.get? b = some o -> s.heap.get? b = some o) -> s.heap.DictOf knd d (merged [] (kx.take i)) ->
  (∀ h' tk, (∀ b o, b ∉ wr -> b ≠ d -> h₀.get? b = some o -> h'.get? b = some o) -> h'.DictOf knd d (merged [] kx) -> R (.ok (.ret .none)) { s with heap := h', toks := tk }) ->
  codeAny (model prog w) A (.builtin "dict.update.loop" ⟨[.ref d, .ref I, .int i t, .none], []⟩) R s := by
 have nw : d ∉ wr := fun z => nd (W.sub _ z)
 intro k
 induction k with
 | zero =>
  intro i s t en st kp dd fin
  refine codeAny_builtin jm ?_
  rw [Around.under_plainId cB _]
  show wpAny _ A.in1 (pyNext (.ref I) >>= _) _ _ s
  have e1 : n = i := by omega
  refine wpAny_bind (W.done s _ _ (e1 ▸ st) fun h' tk kk => ?_)
  show wpAny _ _ (Builtin.Dict.addKeywords d [] >>= _) _ _ _
  refine wpAny_bind (wpAny_pure (wpAny_pure (fin h' tk (fun b o nb nb' e => kk b o nb (kp b o nb nb' e)) ?_)))
  have e2 : kx.take i = kx := by rw [← e1, ← hn, List.take_length]
  rw [e2] at dd
  obtain ⟨od, es, ep, ho, r⟩ := dd
  exact ⟨od, es, ep, kk d od nw ho, r⟩
 | succ k ih =>
  intro i s t en st kp dd fin
  refine codeAny_builtin jm ?_
  rw [Around.under_plainId cB _]
  show wpAny _ A.in1 (pyNext (.ref I) >>= _) _ _ s
  refine wpAny_bind (W.item i s _ _ (by omega) st fun v h' tk pv st' kk => ?_)
  obtain ⟨a, key, kk2, x, o, c, rfl, hx, hk, ha, hc, hd, na, naw⟩ := hP i v pv
  have ha' : h'.get? a = some o := kk a o naw (kp a o naw na ha)
  have dd' : h'.DictOf knd d (merged [] (kx.take i)) := by
   obtain ⟨od, es, ep, ho, r⟩ := dd
   exact ⟨od, es, ep, kk d od nw ho, r⟩
  have hT : ({ s with heap := h', toks := tk } : Shared).TypeIs (.ref a) "tuple" := ⟨o, ha', hc⟩
  show wpAny _ _ (holding [.ref a] _ >>= _) _ _ _
  refine wpAny_bind (wpAny_holding (wpAny_bind (wpAny_tryCatch ?_)))
  unfold Builtin.Dict.pairItems
  refine wpAny_bind (wpAny_typeOf hT ?_)
  rw [if_pos (by decide)]
  refine wpAny_bind (wpAny_seqItems ha' hd (wpAny_pure ?_))
  show wpAny _ _ (holding [key, x] (dictSet d key x)) _ _ _
  refine wpAny_holding (wpAny_dictSet_pairs hk dd' (fun h2 d2 sb => ?_) (Nat.le_trans (GK _) (by rw [List.length_take]; omega)))
  have e3 : ((i : Int) + 1) = ((i + 1 : Nat) : Int) := by push_cast; rfl
  have e4 : merged [] (kx.take (i + 1)) = stored (merged [] (kx.take i)) kk2 x := merged_take_succ [] kx i (kk2, x) hx
  rw [← e4] at d2
  refine wpAny_pure ⟨plainId_quiet cB _, ?_⟩
  show codeAny _ _ (.builtin "dict.update.loop" ⟨[.ref d, .ref I, .int ((i : Int) + 1) 0, .none], []⟩) _ _
  rw [e3]
  refine ih (i + 1) _ 0 (by omega) (W.frame _ _ _ st' fun b hb o e => (sb.2 b (fun z => nd (z ▸ hb))).trans e) (fun b o nb nb' e => (sb.2 b nb').trans (kk b o nb (kp b o nb nb' e))) d2 fun h3 tk3 k3 d3 => fin h3 tk3 k3 d3
end
section
variable {prog : Program} {w : World} {A : Around} {E : Value -> Shared -> Prop} {s : Shared} {K : Type} [DecidableEq K] {knd : KeyKind prog w K}
theorem Ab {l : Addr} {vs : List Value} {n : Nat} {kx : List (K × Value)} {Q : Value -> Shared -> Prop} (hA : A.handled = none)
  (hl : s.heap.get? l = some { cls := .type "list", dict := none, data := .seq vs.toArray n, slots := #[] }) (hz : vs.length <= sizeLine) (hlen : kx.length = vs.length)
  (hP : ∀ (i : Nat) v, vs[i]? = some v -> ∃ a key k x o c, v = .ref a /\ kx[i]? = some (k, x) /\ knd.is k key = true /\ s.heap.get? a = some o /\ o.cls = .type "tuple" /\ o.data = .seq #[key, x] c)
  (h : ∀ h' tk, (∀ b o, s.heap.get? b = some o -> h'.get? b = some o) -> h'.DictOf knd s.heap.objs.size (merged [] kx) -> Q (.ref s.heap.objs.size) { s with heap := h', toks := tk }) :
  wpAny (model prog w) A (call (.type "dict") [.ref l]) Q E s := by
 refine callType_codes (Q₁ := fun obj s₁ => obj = .ref s.heap.objs.size /\ s₁ = { s with heap := s.heap.push { cls := .type "dict", data := .dict #[] } }) F.kt_called_dict (F.kt_typeCall_dict_1 _) F.entry_dict_init (kt_code_dict_new _ ⟨rfl, rfl⟩) ?_
 rintro obj s₁ ⟨rfl, rfl⟩
 have hnew : (s.heap.push { cls := .type "dict", data := .dict #[] }).DictOf knd s.heap.objs.size [] := Heap.DictOf.new s.heap
 have hl' : (s.heap.push { cls := .type "dict", data := .dict #[] }).get? l = some { cls := .type "list", dict := none, data := .seq vs.toArray n, slots := #[] } := Heap.get?_push_of_some _ hl
 refine ⟨hnew.typeIs, F.args_dict_init_2 _ _, ?_⟩
 unfold Builtin.«dict.__init__»
 refine wpAny_bind ?_
 unfold Builtin.Dict.selfAndRest
 refine wpAny_bind (wpAny_notOrdered_dict hnew.typeIs ?_)
 show wpAny _ _ (pure (s.heap.objs.size, [Value.ref l])) _ _ _
 refine wpAny_pure ?_
 show wpAny _ _ (Builtin.Dict.updateFrom "dict.__init__" s.heap.objs.size (.ref l) [] .none) _ _ _
 unfold Builtin.Dict.updateFrom
 refine wpAny_bind (wpAny_typeOf (T := "list") ⟨_, hl', rfl⟩ ?_)
 rw [if_pos (by decide)]
 refine wpAny_bind (Hd hA hl' fun h1 tk1 k1 => ?_)
 show wpAny _ _ (rule _ >>= _) _ _ _
 refine wpAny_bind (wpAny_rule ?_)
 have hl1 := k1 l _ hl'
 have lt1 : l < h1.objs.size := Heap.lt_size hl1
 have ld : l < s.heap.objs.size := Heap.lt_size hl
 have il : h1.IsList l vs.toArray := ⟨_, hl1, rfl, n, rfl⟩
 have d1 : h1.DictOf knd s.heap.objs.size [] := by
  obtain ⟨od, es, ep, ho, r⟩ := hnew
  exact ⟨od, es, ep, k1 _ _ ho, r⟩
 have dlt : s.heap.objs.size < h1.objs.size := by
  obtain ⟨od, es, ep, ho, r⟩ := d1
  exact Heap.lt_size ho
 have hI : ∀ {b : Addr}, b < h1.objs.size -> b ≠ h1.objs.size := fun z => Nat.ne_of_lt z
 refine wpAny_bind (wpAny_pyIter_list (s := { s with heap := h1, toks := tk1 }) il ?_)
 refine wpAny_pure ⟨plainId_quiet cB _, ?_⟩
 have W := Walks.list (prog := prog) (w := w) (A := A.in1.in1) hA h1.objs.size l (hI lt1) vs.toArray
 refine N7 (A := A.in1) (knd := knd) W (d := s.heap.objs.size) ?_ s.heap kx (by rw [hlen, List.size_toArray]) (by rw [List.size_toArray]; exact hz) (fun i v hv => ?_) vs.toArray.size 0 _ 0 (by omega)
  ⟨⟨_, Heap.get?_push_size _ rfl, rfl, rfl⟩, il.push _⟩ (fun b o _ nb e => Heap.get?_push_of_some _ (k1 b o (Heap.get?_push_of_some _ e))) ?_ fun h2 tk2 k2 d2 => ?_
 ·intro z
  have z' : s.heap.objs.size = h1.objs.size ∨ s.heap.objs.size = l := by simpa using z
  rcases z' with z' | z'
  ·exact absurd dlt (by rw [z']; exact Nat.lt_irrefl _)
  ·exact absurd ld (by rw [z']; exact Nat.lt_irrefl _)
 ·obtain ⟨a, key, k, x, o, c, e1, e2, e3, e4, e5, e6⟩ := hP i v (by simpa using hv)
  refine ⟨a, key, k, x, o, c, e1, e2, e3, e4, e5, e6, Nat.ne_of_lt (Heap.lt_size e4), fun z => ?_⟩
  have z' : a = h1.objs.size := by simpa using z
  exact absurd (Nat.lt_trans (Heap.lt_size e4) dlt) (by rw [z']; exact Nat.lt_irrefl _)
 ·exact d1.push _
 ·exact ⟨rfl, h h2 tk2 (fun b o e => k2 b o (fun z => by
   have z' : b = h1.objs.size := by simpa using z
   exact absurd (Nat.lt_trans (Heap.lt_size e) dlt) (by rw [z']; exact Nat.lt_irrefl _)) (Nat.ne_of_lt (Heap.lt_size e)) e) d2⟩
end
end GX
namespace L2
open PySem PySem.Spec PyProof.Rows
def dI (m : List (Int × Int)) : List (Key × V) := m.map fun p => (Sum.inl p.1, V.int p.2)
theorem BJ (m : List (Int × Int)) : (dI m).length = m.length := List.length_map ..
def lkI : List (Int × Int) -> Int -> Option Int
 | [], _ => none
 | p :: m, k => if p.1 = k then some p.2 else lkI m k
theorem Bw : ∀ (m : List (Int × Int)) (k : Int), fX (dI m) (Sum.inl k : Key) = (lkI m k).map V.int
 | [], _ => rfl
 | p :: m, k => by
  show fX ((Sum.inl p.1, V.int p.2) :: dI m) (Sum.inl k) = _
  unfold lkI
  by_cases e : p.1 = k
  ·rw [if_pos e, dN (by rw [e])]
   rfl
  ·rw [if_neg e, eF (fun z => e (Sum.inl.inj z)), Bw m k]
def eV : List (Int × Int) -> Int -> Int -> List (Int × Int)
 | [], k, v => [(k, v)]
 | p :: m, k, v => if p.1 = k then (p.1, v) :: m else p :: eV m k v
theorem Gb : ∀ (m : List (Int × Int)) (k v j : Int), lkI (eV m k v) j = if j = k then some v else lkI m j
 | [], k, v, j => by
  show (if k = j then some v else none) = _
  by_cases e : j = k
  ·rw [if_pos e, if_pos e.symm]
  ·rw [if_neg e, if_neg (fun z => e z.symm)]
   rfl
 | p :: m, k, v, j => by
  show lkI (if p.1 = k then (p.1, v) :: m else p :: eV m k v) j = if j = k then some v else (if p.1 = j then some p.2 else lkI m j)
  by_cases e : p.1 = k
  ·rw [if_pos e]
   show (if p.1 = j then some v else lkI m j) = _
   by_cases e2 : j = k
   ·rw [if_pos e2, if_pos (e.trans e2.symm)]
   ·rw [if_neg e2, if_neg (fun z => e2 (z.symm.trans e)), if_neg (fun z => e2 (z.symm.trans e))]
  ·rw [if_neg e]
   show (if p.1 = j then some p.2 else lkI (eV m k v) j) = _
   rw [Gb m k v j]
   by_cases e2 : j = k
   ·rw [if_pos e2, if_neg (fun z => e (z.trans e2)), if_pos e2]
   ·rw [if_neg e2, if_neg e2]
theorem Dh : ∀ (m : List (Int × Int)) (k v x : Int), x ∈ (eV m k v).map (·.1) ↔ x = k ∨ x ∈ m.map (·.1)
 | [], k, v, x => by simp [eV]
 | p :: m, k, v, x => by
  show x ∈ (if p.1 = k then (p.1, v) :: m else p :: eV m k v).map (·.1) ↔ _
  by_cases e : p.1 = k
  ·rw [if_pos e]
   simp only [List.map_cons, List.mem_cons]
   constructor
   ·exact fun h => .inr h
   ·rintro (h | h)
    ·exact .inl (h.trans e.symm)
    ·exact h
  ·rw [if_neg e]
   simp only [List.map_cons, List.mem_cons]
   have := Dh m k v x
   constructor
   ·rintro (h | h)
    ·exact .inr (.inl h)
    ·rcases this.mp h with h | h
     ·exact .inl h
     ·exact .inr (.inr h)
   ·rintro (h | h | h)
    ·exact .inr (this.mpr (.inl h))
    ·exact .inl h
    ·exact .inr (this.mpr (.inr h))
theorem J1 : ∀ (m : List (Int × Int)) (k v : Int), (m.map (·.1)).Nodup -> ((eV m k v).map (·.1)).Nodup
 | [], k, v, _ => by simp [eV]
 | p :: m, k, v, h => by
  show ((if p.1 = k then (p.1, v) :: m else p :: eV m k v).map (·.1)).Nodup
  rw [List.map_cons, List.nodup_cons] at h
  by_cases e : p.1 = k
  ·rw [if_pos e, List.map_cons, List.nodup_cons]
   exact h
  ·rw [if_neg e, List.map_cons, List.nodup_cons]
   refine ⟨fun z => ?_, J1 m k v h.2⟩
   rcases (Dh m k v p.1).mp z with z | z
   ·exact e z
   ·exact h.1 z
theorem ur : ∀ (m : List (Int × Int)) (k v : Int) (p : Int × Int), p ∈ eV m k v -> p = (k, v) ∨ p ∈ m
 | [], k, v, p, h => .inl (by simpa [eV] using h)
 | q :: m, k, v, p, h => by
  have h' : p ∈ (if q.1 = k then (q.1, v) :: m else q :: eV m k v) := h
  by_cases e : q.1 = k
  ·rw [if_pos e] at h'
   rcases List.mem_cons.mp h' with z | z
   ·exact .inl (by rw [z, e])
   ·exact .inr (List.mem_cons_of_mem _ z)
  ·rw [if_neg e] at h'
   rcases List.mem_cons.mp h' with z | z
   ·exact .inr (by rw [z]; exact List.mem_cons_self)
   ·rcases ur m k v p z with z | z
    ·exact .inl z
    ·exact .inr (List.mem_cons_of_mem _ z)
theorem Ny (k : Int) : ∀ m : List (Int × Int), ((dI m).any fun kv => decide (kv.1 = (Sum.inl k : Key))) = m.any fun p => decide (p.1 = k)
 | [] => rfl
 | p :: m => by
  show (decide ((Sum.inl p.1 : Key) = Sum.inl k) || (dI m).any _) = (decide (p.1 = k) || m.any _)
  rw [Ny k m]
  congr 1
  rw [decide_eq_decide]
  exact ⟨fun h => Sum.inl.inj h, fun h => congrArg _ h⟩
theorem put_new : ∀ (m : List (Int × Int)) (k v : Int), (m.any fun p => decide (p.1 = k)) = false -> eV m k v = m ++ [(k, v)]
 | [], _, _, _ => rfl
 | p :: m, k, v, h => by
  rw [List.any_cons, Bool.or_eq_false_iff] at h
  show (if p.1 = k then (p.1, v) :: m else p :: eV m k v) = _
  rw [if_neg (of_decide_eq_false h.1), put_new m k v h.2]
  rfl
theorem put_old : ∀ (m : List (Int × Int)) (k v : Int), (m.map (·.1)).Nodup -> (m.any fun p => decide (p.1 = k)) = true -> eV m k v = m.map fun p => if p.1 = k then (p.1, v) else p
 | [], _, _, _, h => by cases h
 | p :: m, k, v, nd, h => by
  rw [List.map_cons, List.nodup_cons] at nd
  show (if p.1 = k then (p.1, v) :: m else p :: eV m k v) = (if p.1 = k then (p.1, v) else p) :: m.map _
  by_cases e : p.1 = k
  ·rw [if_pos e, if_pos e]
   congr 1
   have : m.map (fun p => if p.1 = k then (p.1, v) else p) = m.map id := List.map_congr_left fun q hq => by
    rw [if_neg (fun z => nd.1 (by rw [e, ← z]; exact List.mem_map_of_mem hq))]
    rfl
   rw [this, List.map_id]
  ·rw [if_neg e, if_neg e, put_old m k v nd.2 (by
    rw [List.any_cons, decide_eq_false e, Bool.false_or] at h
    exact h)]
theorem J0 (m : List (Int × Int)) (k v : Int) (nd : (m.map (·.1)).Nodup) : putK (dI m) (Sum.inl k : Key) (V.int v) = dI (eV m k v) := by
 unfold putK
 rw [Ny]
 cases e : m.any fun p => decide (p.1 = k) with
 | false =>
  rw [put_new m k v e]
  unfold dI
  rw [List.map_append]
  rfl
 | true =>
  rw [put_old m k v nd e]
  unfold dI
  rw [List.map_map, if_pos rfl, List.map_map]
  apply List.map_congr_left
  intro p _
  show (if (Sum.inl p.1 : Key) = Sum.inl k then ((Sum.inl p.1 : Key), V.int v) else (Sum.inl p.1, V.int p.2)) = ((Sum.inl (if p.1 = k then (p.1, v) else p).1 : Key), V.int (if p.1 = k then (p.1, v) else p).2)
  by_cases z : p.1 = k
  ·rw [if_pos (congrArg _ z), if_pos z]
  ·rw [if_neg (fun q => z (Sum.inl.inj q)), if_neg z]
theorem Gi : ∀ {m : List (Int × Int)} {k v : Int}, lkI m k = some v -> (k, v) ∈ m
 | [], _, _, h => by cases h
 | p :: m, k, v, h => by
  have h' : (if p.1 = k then some p.2 else lkI m k) = some v := h
  by_cases e : p.1 = k
  ·rw [if_pos e] at h'
   have : p = (k, v) := by rw [← e, ← Option.some.inj h']
   rw [this]
   exact List.mem_cons_self
  ·rw [if_neg e] at h'
   exact List.mem_cons_of_mem _ (Gi h')
theorem Rg : ∀ {m : List (Int × Int)} {k v : Int}, (m.map (·.1)).Nodup -> (k, v) ∈ m -> lkI m k = some v
 | [], _, _, _, h => by cases h
 | p :: m, k, v, nd, h => by
  rw [List.map_cons, List.nodup_cons] at nd
  show (if p.1 = k then some p.2 else lkI m k) = some v
  rcases List.mem_cons.mp h with z | z
  ·rw [← z, if_pos rfl]
  ·rw [if_neg (fun e => nd.1 (by rw [e]; exact List.mem_map_of_mem (f := (·.1)) z)), Rg nd.2 z]
theorem PN {m : List (Int × Int)} {k : Int} (h : k ∉ m.map (·.1)) : lkI m k = none := by
 cases e : lkI m k with
 | none => rfl
 | some v => exact absurd (List.mem_map_of_mem (f := (·.1)) (Gi e)) h
theorem PP {m : List (Int × Int)} {k : Int} (h : k ∈ m.map (·.1)) : ∃ v, lkI m k = some v := by
 cases e : lkI m k with
 | some v => exact ⟨v, rfl⟩
 | none =>
  exfalso
  induction m with
  | nil => cases h
  | cons p m ih =>
   have e' : (if p.1 = k then some p.2 else lkI m k) = none := e
   by_cases z : p.1 = k
   ·rw [if_pos z] at e'; cases e'
   ·rw [if_neg z] at e'
    rw [List.map_cons] at h
    rcases List.mem_cons.mp h with q | q
    ·exact z q.symm
    ·exact ih q e'
def ct (m : List (Int × Int)) (k : Int) : Int := (lkI m k).getD 0
section
variable {X : Cx}
theorem uK {P : Program} {w : World} : ∀ {m : List (Int × Int)} {vs : List (Key × Value)} {us : List Value}, KV (dI m) vs -> us.length = vs.length -> (∀ (j : Nat) v, us[j]? = some v -> ∃ k x, vs[j]? = some (k, x) /\ (bL P w).is k v = true) -> IntsAre us (m.map (·.1))
 | [], _, us, r, hl, h => by
  have r' : KV [] _ := r
  cases r'
  cases us with
  | nil => exact .nil
  | cons _ _ => cases hl
 | p :: m, vs, us, r, hl, h => by
  have r' : KV ((Sum.inl p.1, V.int p.2) :: dI m) vs := r
  cases r' with
  | cons r1 r2 =>
   rename_i q qs
   cases us with
   | nil => cases hl
   | cons u us =>
    obtain ⟨k, x, e1, e2⟩ := h 0 u rfl
    have e1' : q = (k, x) := Option.some.inj e1
    subst e1'
    have ek : (Sum.inl p.1 : Key) = k := r1.1
    subst ek
    rcases cL (show xW (Sum.inl p.1) u = true from e2) with ⟨i, t, z1, z2⟩ | ⟨_, _, z, _⟩
    ·have z1' : p.1 = i := Sum.inl.inj z1
     rw [z2, ← z1']
     exact .cons _ t (uK (P := P) (w := w) r2 (Nat.succ.inj hl) fun j v e => h (j + 1) v e)
    ·cases z
theorem zu {A : Around} {E : Value -> Shared -> Prop} {prog : Program} {w : World} {s : Shared} {vs : List Value} {ns : List Int} {Q : Value -> Shared -> Prop} (hi : IntsAre vs ns) (h64 : vs.length < 64) (hz : vs.length <= sizeLine)
  (h : ∀ h' out ns' e, (∀ b o, s.heap.get? b = some o -> h'.get? b = some o) -> h'.get? s.heap.objs.size = some (seqObj "list" out e) -> IntsAre out.toList ns' -> ns'.Perm ns -> ns'.Pairwise (· <= ·) -> Q (.ref s.heap.objs.size) { s with heap := h' }) :
  wpAny (model prog w) A (do let l ← newList vs; let _ ← holding [l] (call (.builtin "list.sort") [l] []); ret l) (fun fin s' => ∃ v, fin = .done (.ret v) /\ Q v s') E s := by
 refine wpAny_bind (wpAny_newList ?_ hz)
 have ho : (s.heap.push (seqObj "list" vs.toArray 0)).get? s.heap.objs.size = some (seqObj "list" vs.toArray 0) := Heap.get?_push_size _ rfl
 refine wpAny_bind (wpAny_holding (wpAny_call_entry slot_list_sort ⟨_, ho, rfl⟩ entry_list_sort (list_sort_tree ho hi h64 fun out ns' a1 a2 a3 => ⟨_, rfl, ?_⟩) (args_list_sort _)))
 obtain ⟨e, he⟩ := sortedHeap_at (out := out) ho
 refine wpAny_pure ⟨_, rfl, h _ out ns' e (fun b o q => ?_) he a1 a2 a3⟩
 have l := Heap.lt_size q
 rw [sortedHeap_old (Nat.ne_of_lt l) (by rw [size_push']; exact Nat.lt_succ_of_lt l)]
 exact Heap.get?_push_of_some _ q
theorem Inv.lay_ints {pins : List (Addr × Obj)} {σ : St} {H : Hp} {s : Shared} {h' : Heap} {out : Array Value} {ns : List Int} {e tk : Nat} (I : Inv X pins σ H s) (k : ∀ b o, s.heap.get? b = some o -> h'.get? b = some o) (he : h'.get? s.heap.objs.size = some (seqObj "list" out e)) (hi : IntsAre out.toList ns) (hz : ns.length <= sizeLine) :
  Inv X pins σ (upd H s.heap.objs.size (.lst (ns.map V.int))) { s with heap := h', toks := tk } :=
 I.laid k (Nat.le_refl _) ⟨by rw [List.length_map]; exact hz, out.toList, e, qR hi, he⟩
theorem tV (hc : X.calm = true) : fK X (.builtin "sorted") (fun xs H Q => ∃ (d : Addr) (m : List (Int × Int)), xs = [.ref d] /\ Rd H d (.dK (dI m)) /\ m.length < 64 /\ ∀ (l : Addr) (ns : List Int), H l = none -> ns.Perm (m.map (·.1)) -> ns.Pairwise (· <= ·) -> Q (.ref l) (upd H l (.lst (ns.map V.int)))) := by
 intro pins s σ H xs us Q I r h
 obtain ⟨d, m, rfl, hd, hlen, q⟩ := h
 obtain ⟨u, rfl, rx⟩ := vals1 r
 cases rx
 obtain ⟨z, hS, vs, rel, dd⟩ := ul I.hok hd
 obtain ⟨ep, hat⟩ := dd.dictAt
 have hl : vs.length = m.length := by rw [← rel.length, BJ]
 refine Calls.call_function_entry kind_sorted plain_sorted entry_sorted (args_sorted1 _) ?_
 unfold Builtin.«sorted»
 refine wpAny_bind (m := checkCount "sorted" 1 1 _) (wpAny_pure ?_)
 refine wpAny_bind (PySem.W.kdu_collect (A := X.A.in1) (PySem.W.kdl_dict (knd := bL X.prog X.w) (kvs := vs) (ep := ep) hS) (I.ok.hd hc) hat (by rw [hl]; exact Nat.le_of_lt (aJ (by omega))) fun h' tk acc hk hacc => ?_)
 have hi : IntsAre acc.toList (m.map (·.1)) := uK (P := X.prog) (w := X.w) rel (by rw [Array.length_toList]; exact hacc.1) fun j v e => hacc.2 j v (by rw [← Array.getElem?_toList]; exact e)
 have ha : acc.toList.length = m.length := by rw [hi.length, List.length_map]
 have I1 : Inv X pins σ H { s with heap := h', toks := tk } := I.kept hk
 refine zu hi (by rw [ha]; exact hlen) (by rw [ha]; exact Nat.le_of_lt (aJ (by omega))) fun h2 out ns' e k2 he a1 a2 a3 => ?_
 have ln : ns'.length <= sizeLine := by rw [a2.length_eq, List.length_map]; exact Nat.le_of_lt (aJ (by omega))
 exact ⟨.ref h'.objs.size, _, I1.lay_ints (tk := tk) k2 he a1 ln, rfl, q _ ns' (I1.hok.fresh (Nat.le_refl _)) a2 a3⟩
def Pr (H : Hp) (x : V) (p : Int × Int) : Prop := ∃ a, x = .ref a /\ H a = some (.tup [.int p.1, .int p.2])
abbrev Prs (H : Hp) : List V -> List (Int × Int) -> Prop := Paired (Pr H)
theorem Prs.mono {H H' : Hp} (h : ∀ a xs, H a = some (.tup xs) -> H' a = some (.tup xs)) {xs : List V} {ps : List (Int × Int)} (r : Prs H xs ps) : Prs H' xs ps := Paired.mapP r fun _ _ ⟨a, e1, e2⟩ => ⟨a, e1, h a _ e2⟩
theorem Prs.snoc {H : Hp} {x : V} {p : Int × Int} : ∀ {xs : List V} {ps : List (Int × Int)}, Prs H xs ps -> Pr H x p -> Prs H (xs ++ [x]) (ps ++ [p])
 | _, _, .nil, h => .cons h .nil
 | _, _, .cons r t, h => .cons r (Prs.snoc t h)
theorem Prs.get {H : Hp} : ∀ {xs : List V} {ps : List (Int × Int)} {i : Nat} {x : V}, Prs H xs ps -> xs[i]? = some x -> ∃ p, ps[i]? = some p /\ Pr H x p
 | _, _, _, _, .nil, e => by simp at e
 | _, _, 0, _, .cons r _, e => by simp at e; subst e; exact ⟨_, rfl, r⟩
 | _, _, i + 1, x, .cons _ t, e => by
  obtain ⟨p, h1, h2⟩ := Prs.get (i := i) (x := x) t (by simpa using e)
  exact ⟨p, by simpa using h1, h2⟩
theorem Prs.len {H : Hp} {xs : List V} {ps : List (Int × Int)} (r : Prs H xs ps) : xs.length = ps.length := Paired.length r
end
end L2
namespace L2
open PySem PySem.Spec PyProof.Rows
section
variable {X : Cx}
theorem CP : ∀ (ps acc : List (Int × Int)), ((acc ++ ps).map (·.1)).Nodup -> Gr (dI acc) (dI ps) = dI (acc ++ ps)
 | [], acc, _ => by rw [List.append_nil]; rfl
 | p :: ps, acc, h => by
  show Gr (putK (dI acc) (Sum.inl p.1) (V.int p.2)) (dI ps) = _
  have h1 : (acc.map (·.1)).Nodup := by
   rw [List.map_append] at h
   exact (List.nodup_append.mp h).1
  have h2 : (acc.any fun q => decide (q.1 = p.1)) = false := by
   rw [List.any_eq_false]
   intro q hq z
   have z' := of_decide_eq_true z
   rw [List.map_append, List.map_cons] at h
   exact (List.nodup_append.mp h).2.2 q.1 (List.mem_map_of_mem (f := (·.1)) hq) p.1 List.mem_cons_self z'
  rw [J0 acc p.1 p.2 h1, put_new acc p.1 p.2 h2, CP ps (acc ++ [(p.1, p.2)]) (by rw [List.append_assoc]; exact h), List.append_assoc]
  rfl
theorem Dk {pins : List (Addr × Obj)} {σ : St} {H : Hp} {s : Shared} (I : Inv X pins σ H s) : ∀ {xs : List V} {us : List Value} {ps : List (Int × Int)}, Prs H xs ps -> Vals xs us ->
  ∃ kx : List (Key × Value), KV (dI ps) kx /\ kx.length = us.length /\ ∀ (i : Nat) v, us[i]? = some v -> ∃ a key k x o c, v = .ref a /\ kx[i]? = some (k, x) /\ (bL X.prog X.w).is k key = true /\ s.heap.get? a = some o /\ o.cls = .type "tuple" /\ o.data = .seq #[key, x] c
 | _, _, _, .nil, .nil => ⟨[], .nil, rfl, fun i v e => by simp at e⟩
 | x :: xs, u :: us, p :: ps, .cons h t, .cons r q => by
  obtain ⟨kx, k1, k2, k3⟩ := Dk I t q
  obtain ⟨a, rfl, ha⟩ := h
  obtain rfl : u = Value.ref a := r
  obtain ⟨_, its, rv, o, ho, hc, n, hd, _⟩ : [V.int p.1, V.int p.2].length <= sizeLine /\ ∃ its : List Value, Vals [V.int p.1, V.int p.2] its /\ IsTpl s.heap a its.toArray := I.hok a _ ha
  obtain ⟨u1, u2, rfl, r1, r2⟩ := vals2 rv
  obtain ⟨t1, rfl⟩ := r1
  refine ⟨(Sum.inl p.1, u2) :: kx, .cons ⟨rfl, r2⟩ k1, congrArg (· + 1) k2, fun i v e => ?_⟩
  cases i with
  | zero =>
   have e' : Value.ref a = v := Option.some.inj e
   subst e'
   exact ⟨a, _, _, u2, o, n, rfl, rfl, qt X.prog X.w p.1 t1, ho, hc, hd⟩
  | succ i => exact k3 i v e
theorem En (hc : X.calm = true) : fK X (.type "dict") (fun xs H Q => ∃ (a : Addr) (ys : List V) (ps : List (Int × Int)), xs = [.ref a] /\ H a = some (.lst ys) /\ Prs H ys ps /\ (ps.map (·.1)).Nodup /\ ps.length <= 1000 /\ ∀ p, H p = none -> Q (.ref p) (upd H p (.dK (dI ps)))) := by
 intro pins s σ H xs us Q I r h
 obtain ⟨a, ys, ps, rfl, ha, hp, nd, hl, q⟩ := h
 obtain ⟨u, rfl, rx⟩ := vals1 r
 cases rx
 obtain ⟨z, its, n, rv, hlen, e⟩ := I.lstM ha
 obtain ⟨kx, k1, k2, k3⟩ := Dk I hp rv
 refine GX.Ab (knd := bL X.prog X.w) (I.ok.hd hc) e (by rw [← hlen]; exact z) k2 k3 fun h' tk kp dd => ?_
 have rel : KV (dI ps) (merged [] kx) := by
  have := KV.merge k1 (show KV (dI []) [] from .nil)
  rw [CP ps [] (by simpa using nd)] at this
  exact this
 refine ⟨.ref s.heap.objs.size, _, I.laid (t' := tk) kp (Nat.le_refl _) (Fj ?_ (beq_eq_false_iff_ne.mpr (Ne.symm (Nat.ne_of_lt I.big))) rel dd), rfl, q _ (I.hok.fresh (Nat.le_refl _))⟩
 rw [BJ]
 exact Nat.le_of_lt (aJ hl)
def VF (K : PySem.W.Frag) (tl : TE) : TI := fun σ H R => tl σ H fun x H1 => ∃ a, x = .ref a /\ (((∃ xs, SqL K H1 a xs) /\ R (Itl K a) H1) ∨ ((∃ xs, SqT K H1 a xs) /\ R (Itt K a) H1))
theorem Ua {tg l : Expr} {tl : TE} (hl : PE X l tl) : PI X tg l (VF X.K tl) := by
 intro pins s σ H R I h
 refine thn (hl pins s σ H _ I h) fun v s1 ⟨x, H1, I1, r1, q1⟩ => ?_
 obtain ⟨a, e, q1⟩ := q1
 subst e
 cases r1
 have fp : ∀ b ∈ [s1.heap.objs.size], nG X pins H1 b := fun b hb => by
  have e : b = s1.heap.objs.size := by simpa using hb
  subst e
  exact I1.fpOk (Nat.le_refl _) (I1.hok.fresh (Nat.le_refl _))
 rcases q1 with ⟨⟨xs, hq⟩, q⟩ | ⟨⟨xs, hq⟩, q⟩
 ·obtain ⟨its, rv, p, hz⟩ := I1.list hq
  refine wpAny_pyIter_list p.isList ?_
  exact ⟨s1.heap.objs.size, [s1.heap.objs.size], _, _, H1, rfl, I1.kept (t' := s1.toks) fun b o e => Heap.get?_push_of_some _ e, yZ a _, ⟨_, Heap.get?_push_size _ rfl, rfl, rfl⟩, fp, q⟩
 ·obtain ⟨its, rv, p, hz⟩ := I1.tuple hq
  refine wpAny_pyIter_tuple (show s1.heap.IsTuple a its.toArray from p) ?_
  exact ⟨s1.heap.objs.size, [s1.heap.objs.size], _, _, H1, rfl, I1.kept (t' := s1.toks) fun b o e => Heap.get?_push_of_some _ e, wG a _, ⟨_, Heap.get?_push_size _ rfl, rfl, rfl⟩, fp, q⟩
end
theorem Mp {K : PySem.W.Frag} {a : Addr} {xs : List V} {g : TG} {tt : TT} {te : TE} {σ : St} {H : Hp} {D : Addr} {Qe : Hp -> Prop} (Pv : Nat -> St -> Hp -> Prop) (h0 : Pv 0 σ H) (hl : ∀ i σ H, i <= xs.length -> Pv i σ H -> SqT K H a xs)
  (hs : ∀ i x σ H, xs[i]? = some x -> Pv i σ H -> mF g tt te D (Pv (i + 1)) x σ H) (hd : ∀ σ H, Pv xs.length σ H -> Qe H) :
  ∃ W : Nat -> Nat -> St -> Hp -> Prop, (∃ m, W 0 m σ H) /\ ∀ i m σ' H', W i m σ' H' -> ((Itt K a).stop i H' /\ Qe H') ∨ ((Itt K a).go i H' /\ ∃ N : St -> Hp -> Prop, (∀ σ2 H2, N σ2 H2 -> ∃ m', m' < m /\ W (i + 1) m' σ2 H2) /\
   ∀ x H'', (Itt K a).yld i H' x H'' -> mF g tt te D N x σ' H'') := by
 refine ⟨fun i m σ H => m = xs.length - i /\ i <= xs.length /\ Pv i σ H, ⟨xs.length, by simp, Nat.zero_le _, h0⟩, ?_⟩
 rintro i m σ H ⟨rfl, hi, p⟩
 have q := hl i σ H hi p
 by_cases hlt : i < xs.length
 ·refine .inr ⟨⟨xs, xs[i], q, by simp [hlt]⟩, Pv (i + 1), fun σ' H' p' => ⟨xs.length - (i + 1), by omega, rfl, hlt, p'⟩, fun x H' y => ?_⟩
  obtain ⟨e, y⟩ := y
  subst e
  exact hs i x σ _ (y xs q) p
 ·have e : i = xs.length := by omega
  subst e
  exact .inl ⟨⟨xs, q, Nat.le_refl _⟩, hd σ H p⟩
section
variable {X : Cx}
end
end L2
namespace GX
open PySem PyProof.Rows
def Ris (xs : Array Nat) : Prop := xs.toList.Pairwise (· < ·)
theorem Ris.at {xs : Array Nat} (h : Ris xs) {i j : Nat} (hi : i < j) (hj : j < xs.size) : xs.getD i 0 < xs.getD j 0 := by
 have := List.pairwise_iff_getElem.mp h i j (by simp; omega) (by simpa using hj) hi
 simp only [Array.getElem_toList] at this
 rw [Array.getD_eq_getD_getElem?, Array.getD_eq_getD_getElem?, Array.getElem?_eq_getElem (by omega), Array.getElem?_eq_getElem hj]
 exact this
theorem CK {xs : Array Nat} {i : Nat} (h : i < xs.size) (a b : Nat) : xs.getD i a = xs.getD i b := by
 rw [Array.getD_eq_getD_getElem?, Array.getD_eq_getD_getElem?, Array.getElem?_eq_getElem h]
 rfl
theorem xR {xs : Array Nat} (hr : Ris xs) (j : Nat) : ∀ (fuel lo hi : Nat), lo <= hi -> hi <= xs.size -> hi - lo <= fuel -> (∀ i, i < lo -> xs.getD i 0 < j) -> (∀ i, hi <= i -> i < xs.size -> j <= xs.getD i 0) ->
  SetTable.below.go xs j fuel lo hi <= xs.size /\ (∀ i, i < SetTable.below.go xs j fuel lo hi -> xs.getD i 0 < j) /\ (∀ i, SetTable.below.go xs j fuel lo hi <= i -> i < xs.size -> j <= xs.getD i 0)
 | 0, lo, hi, h1, h2, h3, h4, h5 => by
  have e : lo = hi := by omega
  subst e
  unfold SetTable.below.go
  exact ⟨h2, h4, h5⟩
 | fuel + 1, lo, hi, h1, h2, h3, h4, h5 => by
  unfold SetTable.below.go
  by_cases h : lo < hi
  ·rw [if_pos h]
   have hm : (lo + hi) / 2 < xs.size := by omega
   show (if xs.getD ((lo + hi) / 2) j < j then SetTable.below.go xs j fuel ((lo + hi) / 2 + 1) hi else SetTable.below.go xs j fuel lo ((lo + hi) / 2)) <= _ /\ _
   by_cases hc : xs.getD ((lo + hi) / 2) j < j
   ·simp only [if_pos hc]
    rw [CK hm j 0] at hc
    refine xR hr j fuel _ hi (by omega) h2 (by omega) (fun i hi' => ?_) h5
    rcases Nat.lt_or_ge i ((lo + hi) / 2) with z | z
    ·have := hr.at z hm
     omega
    ·have : i = (lo + hi) / 2 := by omega
     rw [this]
     exact hc
   ·simp only [if_neg hc]
    rw [CK hm j 0] at hc
    refine xR hr j fuel lo _ (by omega) (by omega) (by omega) h4 (fun i hi' hs => ?_)
    rcases Nat.lt_or_ge ((lo + hi) / 2) i with z | z
    ·have := hr.at z hs
     omega
    ·have : i = (lo + hi) / 2 := by omega
     rw [this]
     omega
  ·rw [if_neg h]
   have e : lo = hi := by omega
   subst e
   exact ⟨h2, h4, h5⟩
theorem uy {xs : Array Nat} (hr : Ris xs) (j : Nat) : SetTable.below xs j <= xs.size /\ (∀ i, i < SetTable.below xs j -> xs.getD i 0 < j) /\ (∀ i, SetTable.below xs j <= i -> i < xs.size -> j <= xs.getD i 0) := by
 unfold SetTable.below
 exact xR hr j _ 0 _ (Nat.zero_le _) (Nat.le_refl _) (by omega) (fun i h => by omega) (fun i h1 h2 => by omega)
theorem Ft {xs : Array Nat} (hr : Ris xs) {i : Nat} (hi : i < xs.size) : SetTable.below xs (xs.getD i 0 + 1) = i + 1 := by
 obtain ⟨h1, h2, h3⟩ := uy hr (xs.getD i 0 + 1)
 rcases Nat.lt_trichotomy (SetTable.below xs (xs.getD i 0 + 1)) (i + 1) with z | z | z
 ·have := h3 i (by omega) hi
  omega
 ·exact z
 ·have q := h2 (i + 1) z
  have := hr.at (i := i) (j := i + 1) (by omega) (by omega)
  omega
theorem EY {xs : Array Nat} (hr : Ris xs) : SetTable.below xs 0 = 0 := by
 obtain ⟨h1, h2, h3⟩ := uy hr 0
 rcases Nat.eq_zero_or_pos (SetTable.below xs 0) with z | z
 ·exact z
 ·have := h2 0 z
  omega
def Off (xs : Array Nat) (d : Nat) : Prop := xs[SetTable.below xs d]? ≠ some d
theorem Off.no {xs : Array Nat} (hr : Ris xs) {d : Nat} (h : Off xs d) : ∀ i, i < xs.size -> xs.getD i 0 ≠ d := by
 intro i hi e
 obtain ⟨h1, h2, h3⟩ := uy hr d
 have b1 : SetTable.below xs d <= i := by
  rcases Nat.lt_or_ge i (SetTable.below xs d) with z | z
  ·have := h2 i z
   omega
  ·exact z
 have b2 : SetTable.below xs d = i := by
  rcases Nat.lt_or_ge (SetTable.below xs d) i with z | z
  ·have := hr.at z hi
   have := h3 (SetTable.below xs d) (Nat.le_refl _) (by omega)
   omega
  ·omega
 apply h
 rw [b2, Array.getElem?_eq_getElem hi]
 rw [Array.getD_eq_getD_getElem?, Array.getElem?_eq_getElem hi] at e
 exact congrArg some e
theorem DN {t : SetTable} {j : Nat} (h : ∀ i, t.slot j ≠ .live i) : Off t.place j := by
 intro z
 apply h (SetTable.below t.place j)
 unfold SetTable.slot
 simp only [z, beq_self_eq_true, if_true]
theorem zz (t : SetTable) (p : SetTable.Probe) : (t.advance p).dummy = p.dummy := by
 unfold SetTable.advance
 split <;> rfl
theorem uY {t : SetTable} {f : Nat -> Int} {h : Int} : ∀ (fuel : Nat) (p : SetTable.Probe) (j : Nat) (dm : Option Nat), (∀ d, p.dummy = some d -> Off t.place d) -> SetTable.probe.go t f h fuel p = some (.empty j dm) -> Off t.place j /\ ∀ d, dm = some d -> Off t.place d
 | 0, p, j, dm, hp, e => by
  unfold SetTable.probe.go at e
  cases e
 | fuel + 1, p, j, dm, hp, e => by
  unfold SetTable.probe.go at e
  cases hs : t.slot p.j with
  | empty =>
   rw [hs] at e
   dsimp only at e
   cases e
   exact ⟨DN (fun i z => by rw [hs] at z; cases z), hp⟩
  | dummy =>
   rw [hs] at e
   dsimp only at e
   refine uY fuel _ j dm (fun d hd => ?_) e
   rw [zz] at hd
   cases hd
   exact DN (fun i z => by rw [hs] at z; cases z)
  | live i =>
   rw [hs] at e
   dsimp only at e
   split at e
   ·cases e
   ·exact uY fuel _ j dm (fun d hd => hp d (by rw [zz] at hd; exact hd)) e
theorem Km {t : SetTable} {h : Int} {sl : Nat} {b : Bool} (e : t.freeSlot h = some (sl, b)) : Off t.place sl := by
 unfold SetTable.freeSlot SetTable.probe at e
 generalize hg : SetTable.probe.go t (fun _ => h + 1) h (10 * SetTable.turns t.mask) (t.probeStart h) = g at e
 cases g with
 | none => cases e
 | some m =>
  cases m with
  | candidate j i n => cases e
  | empty j dm =>
   obtain ⟨h1, h2⟩ := uY _ _ j dm (fun d hd => by cases hd) hg
   dsimp only at e
   have e' := Option.some.inj e
   cases dm with
   | none =>
    have : j = sl := congrArg Prod.fst e'
    rw [← this]
    exact h1
   | some d =>
    have : d = sl := congrArg Prod.fst e'
    rw [← this]
    exact h2 d rfl
theorem mem_getD {xs : Array Nat} {x : Nat} {p : Nat} (h : x ∈ xs.toList.take p) : ∃ i, i < p /\ i < xs.size /\ xs.getD i 0 = x := by
 obtain ⟨i, hi, e⟩ := List.getElem_of_mem h
 rw [List.length_take, Array.length_toList] at hi
 refine ⟨i, by omega, by omega, ?_⟩
 rw [List.getElem_take, Array.getElem_toList] at e
 rw [Array.getD_eq_getD_getElem?, Array.getElem?_eq_getElem (by omega)]
 exact e
theorem zH {xs : Array Nat} {x : Nat} {p : Nat} (h : x ∈ xs.toList.drop p) : ∃ i, p <= i /\ i < xs.size /\ xs.getD i 0 = x := by
 obtain ⟨i, hi, e⟩ := List.getElem_of_mem h
 rw [List.length_drop, Array.length_toList] at hi
 refine ⟨p + i, by omega, by omega, ?_⟩
 rw [List.getElem_drop, Array.getElem_toList] at e
 rw [Array.getD_eq_getD_getElem?, Array.getElem?_eq_getElem (by omega)]
 exact e
theorem Qo {t : SetTable} {sl : Nat} (hr : Ris t.place) (ho : Off t.place sl) : Ris (t.put sl).1.place := by
 obtain ⟨h1, h2, h3⟩ := uy hr sl
 show (SetTable.insertAt t.place (SetTable.below t.place sl) sl).toList.Pairwise (· < ·)
 rw [SetTable.toList_insertAt, List.pairwise_append]
 refine ⟨hr.sublist (List.take_sublist _ _), ?_, ?_⟩
 ·rw [List.pairwise_cons]
  refine ⟨fun x hx => ?_, hr.sublist (List.drop_sublist _ _)⟩
  obtain ⟨i, a, b, c⟩ := zH hx
  have q1 := h3 i a b
  have q2 := ho.no hr i b
  omega
 ·intro x hx y hy
  obtain ⟨i, a, b, c⟩ := mem_getD hx
  have q1 := h2 i a
  rcases List.mem_cons.mp hy with z | z
  ·omega
  ·obtain ⟨i', a', b', c'⟩ := zH z
   have q2 := h3 i' a' b'
   omega
theorem qP (t : SetTable) (n : Nat) : Ris (t.standIn n).place := by
 show (Array.range n).toList.Pairwise (· < ·)
 rw [Array.toList_range]
 exact List.pairwise_lt_range
def Tb (b : Bool) (t : SetTable) : Prop := Ris t.place /\ t.led = b
theorem Tg {b : Bool} {t : SetTable} (h : Tb b t) (es : Array (Int × Value)) (k : Int) (x : Value) : Tb b (layNew t es k x).2.1 := by
 unfold layNew
 split
 ·rename_i sl wd e
  dsimp only
  unfold SetTable.orStandIn
  split
  ·exact ⟨Qo h.1 (Km e), h.2⟩
  ·exact ⟨qP _ _, h.2⟩
 ·exact ⟨qP _ _, h.2⟩
theorem Jb {b : Bool} {t t' : SetTable} {hs : Array Int} {n : Nat} {o : Array Nat} (h : Tb b t) (e : t.relaid hs n = some (t', o)) : Tb b t' := by
 unfold SetTable.relaid SetTable.laid at e
 cases hc : SetTable.layClean (SetTable.sizeAbove n - 1) hs with
 | none => rw [hc] at e; cases e
 | some ow =>
  rw [hc] at e
  have e' := Option.some.inj e
  have e1 := congrArg Prod.fst e'
  dsimp only at e1
  rw [← e1]
  refine ⟨?_, h.2⟩
  show List.Pairwise _ (Array.toList (List.toArray _))
  rw [List.toList_toArray, List.map_filterMap]
  refine List.Pairwise.filterMap (R := (· < ·)) _ (fun x y hxy a ha c hc => ?_) List.pairwise_lt_range
  simp only [Option.map_map, Option.mem_def, Option.map_eq_some_iff] at ha hc
  obtain ⟨_, _, rfl⟩ := ha
  obtain ⟨_, _, rfl⟩ := hc
  exact hxy
theorem Mq {b : Bool} {t : SetTable} (h : Tb b t) (es : Array (Int × Value)) (n : Nat) : Tb b (relayAll t es n).2.1 := by
 unfold relayAll
 split
 ·rename_i t' o e
  dsimp only
  split
  ·exact Jb h e
  ·exact ⟨qP _ _, h.2⟩
 ·exact ⟨qP _ _, h.2⟩
end GX
namespace GX
open PySem PyProof.Rows
abbrev byT (w : World) : Bool := w.params.followText "set-order"
section
variable {prog : Program} {w : World} {A : Around} {E : Value -> Shared -> Prop} {s : Shared}
def SetI (prog : Program) (w : World) (h : Heap) (a : Addr) (S : Int -> Bool) (n : Nat) : Prop :=
 ∃ o es ep t, h.get? a = some o /\ o.ExactSet /\ o.data = .set es ep t /\ ElemsOf (intKind prog w) es.toList /\ (∀ k, S k = true ↔ ∃ e ∈ es.toList, (intKind prog w).is k e.2 = true) /\ es.size < scanBound /\ t.fits es.size = true /\ es.size = n /\ Tb (!byT w) t
theorem SetI.at {h h' : Heap} {a : Addr} {S : Int -> Bool} {n : Nat} (x : SetI prog w h a S n) (k : ∀ o, h.get? a = some o -> h'.get? a = some o) : SetI prog w h' a S n := by
 obtain ⟨o, es, ep, t, ho, r⟩ := x
 exact ⟨o, es, ep, t, k o ho, r⟩
theorem SetI.congr {h : Heap} {a : Addr} {S S' : Int -> Bool} {n n' : Nat} (x : SetI prog w h a S n) (e : ∀ k, S k = S' k) (en : n = n') : SetI prog w h a S' n' := by
 have z : S = S' := funext e
 rw [← z, ← en]
 exact x
theorem zf {h : Heap} {a : Addr} {o : Obj} {es es' : Array (Int × Value)} {ep : Nat} {t t' : SetTable} {S : Int -> Bool} (ho : h.get? a = some o) (hx : o.ExactSet) (hd : o.data = .set es ep t)
  (he : ElemsOf (intKind prog w) es'.toList) (hm : ∀ k, S k = true ↔ ∃ e ∈ es'.toList, (intKind prog w).is k e.2 = true) (hb : es'.size < scanBound) (hf : t'.fits es'.size = true) (tb : Tb (!byT w) t') :
  SetI prog w (h.update a (Obj.putSet es' t')) a S es'.size :=
 ⟨_, es', ep + 1, t', (SetOf_store (knd := intKind prog w) ho hx hd he hm hb hf).1, hx, rfl, he, hm, hb, hf, rfl, tb⟩
theorem Ik {g : Bool -> Sem Unit} (hg : ∀ (b : Bool) (s1 : Shared) (Q' : Unit -> Shared -> Prop), Q' () s1 -> wpAny (model prog w) A (g b) Q' E s1) {a : Addr} {o : Obj} {es : Array (Int × Value)} {ep : Nat} {t : SetTable} (ho : s.heap.get? a = some o) (hx : o.ExactSet) (hd : o.data = .set es ep t)
  {es1 : Array (Int × Value)} {t2 : SetTable} {S : Int -> Bool} (he : ElemsOf (intKind prog w) es1.toList) (hm : ∀ k, S k = true ↔ ∃ e ∈ es1.toList, (intKind prog w).is k e.2 = true) (hb : es1.size < scanBound) (hf : t2.fits es1.size = true) (tb : Tb (!byT w) t2) {wd : Bool} {R : Option Bool -> Shared -> Prop}
  (h : ∀ h', Heap.SameBut a s.heap h' -> SetI prog w h' a S es1.size -> R (some true) { s with heap := h' }) :
  wpAny (model prog w) A (do
   storeSet a es1 t2
   if (!wd && t2.tooFull) = true then do
    g (relayAll t2 es1 (SetTable.grown es1.size)).2.2
    storeSet a (relayAll t2 es1 (SetTable.grown es1.size)).1 (relayAll t2 es1 (SetTable.grown es1.size)).2.1
    pure (some true)
   else pure (some true)) R E s := by
 have ho1 := (SetOf_store (knd := intKind prog w) ho hx hd he hm hb hf).1
 have sb1 := Heap.SameBut.update s.heap a (Obj.putSet es1 t2)
 refine wpAny_bind (wpAny_storeSet_of ho hd ?_ (fits_of_scanBound hb))
 cases hc : (!wd && t2.tooFull) with
 | false =>
  rw [if_neg Bool.false_ne_true]
  exact wpAny_pure (h _ sb1 (zf ho hx hd he hm hb hf tb))
 | true =>
  rw [if_pos rfl]
  have pm := relayAll_perm t2 es1 (SetTable.grown es1.size)
  have fr := relayAll_fits t2 es1 (SetTable.grown es1.size)
  have tr := Mq tb es1 (SetTable.grown es1.size)
  generalize relayAll t2 es1 (SetTable.grown es1.size) = L at pm fr tr ⊢
  obtain ⟨es2, t3, gv⟩ := L
  have pm : List.Perm es2.toList es1.toList := pm
  have sz : es2.size = es1.size := by rw [← Array.length_toList, pm.length_eq, Array.length_toList]
  have hb2 : es2.size < scanBound := by rw [sz]; exact hb
  refine wpAny_bind (hg _ _ _ (wpAny_bind (wpAny_storeSet_of ho1 rfl (wpAny_pure (h _ (sb1.trans (Heap.SameBut.update _ a _)) ?_)) (fits_of_scanBound hb2))))
  have := zf (es := es1) (t := t2) (S := S) ho1 hx rfl (he.perm pm) (fun k => (hm k).trans ⟨fun ⟨e, q1, q2⟩ => ⟨e, pm.mem_iff.mpr q1, q2⟩, fun ⟨e, q1, q2⟩ => ⟨e, pm.mem_iff.mp q1, q2⟩⟩) hb2 fr tr
  rw [sz] at this
  exact this
theorem OJ {a : Addr} {S : Int -> Bool} {n : Nat} {k : Int} {u : Tok} {Q : Bool -> Shared -> Prop} (x : SetI prog w s.heap a S n) (room : n + 1 < scanBound)
  (h : ∀ h' b, Heap.SameBut a s.heap h' -> SetI prog w h' a (fun k' => S k' || decide (k' = k)) (if S k then n else n + 1) -> Q b { s with heap := h' }) :
  wpAny (model prog w) A (setAddHashed a (.int k u) ((intKind prog w).hash k)) Q E s := by
 obtain ⟨o, es, ep, t, ho, hx, hd, he, hm, hb, hf, hn, tb⟩ := x
 have hk : (intKind prog w).is k (.int k u) = true := intKind_is _ _ _ _
 unfold setAddHashed setAddHashedIn
 refine wpAny_holding (wpAny_bind (wpAny_setState_of ho hd hf ?_))
 show wpAny _ _ (if byScan (.int k u) es = true then _ else _) _ _ _
 rw [byScan_of rfl hb he, if_pos rfl]
 unfold setAddByScan
 refine wpAny_bind (wpAny_bind (wpAny_rule (wpAny_bind (wpAny_setScan_of hk ho hd hf he ?_))))
 cases hr : List.findIdx? (fun e => (intKind prog w).is k e.2) es.toList with
 | some j =>
  obtain ⟨hj, pj, _⟩ := List.findIdx?_eq_some_iff_getElem.mp hr
  have sk : S k = true := (hm k).mpr ⟨es.toList[j], List.getElem_mem hj, pj⟩
  refine wpAny_pure (wpAny_pure (h s.heap false (Heap.SameBut.refl a s.heap) ⟨o, es, ep, t, ho, hx, hd, he, fun k' => ?_, hb, hf, ?_, tb⟩))
  ·rw [Bool.or_eq_true, decide_eq_true_eq, ← hm k']
   exact ⟨fun z => z.elim id fun z => z ▸ sk, .inl⟩
  ·rw [sk]
   exact hn
 | none =>
  have sk : S k = false := by
   cases z : S k with
   | false => rfl
   | true =>
    obtain ⟨e, q1, q2⟩ := (hm k).mp z
    have := List.findIdx?_eq_none_iff.mp hr e q1
    rw [q2] at this
    cases this
  have pm := layNew_perm t es ((intKind prog w).hash k) (.int k u)
  have fr := layNew_fits t es ((intKind prog w).hash k) (.int k u)
  have tr := Tg tb es ((intKind prog w).hash k) (.int k u)
  dsimp only
  generalize layNew t es ((intKind prog w).hash k) (.int k u) = L at pm fr tr ⊢
  obtain ⟨es1, t1, wd, gv⟩ := L
  have pm : List.Perm es1.toList (es.push ((intKind prog w).hash k, .int k u)).toList := pm
  dsimp only
  rw [Array.toList_push] at pm
  have e1 : ElemsOf (intKind prog w) es1.toList := (he.push hk rfl).perm pm
  have m1 : ∀ k', (S k' || decide (k' = k)) = true ↔ ∃ e ∈ es1.toList, (intKind prog w).is k' e.2 = true := mem_push_iff hk hm pm
  have z1 : es1.size = n + 1 := by rw [← Array.length_toList, pm.length_eq, List.length_append, Array.length_toList, hn]; rfl
  have b1 : es1.size < scanBound := by rw [z1]; exact room
  have fin : ∀ h', Heap.SameBut a s.heap h' -> SetI prog w h' a (fun k' => S k' || decide (k' = k)) es1.size -> Q true { s with heap := h' } := fun h' sb x => h h' true sb (by rw [sk]; rw [z1] at x; exact x)
  have gw : ∀ (b : Bool) (s1 : Shared) (Q' : Unit -> Shared -> Prop), Q' () s1 -> wpAny (model prog w) A (match b with | true => rule "set.scan.the-table-gave-way" | false => pure ()) Q' E s1 := fun b s1 Q' q => by
   cases b
   ·exact wpAny_pure q
   ·exact wpAny_rule q
  refine wpAny_bind (gw gv _ _ ?_)
  have ht1 : t1.fits es1.size = true := fr
  by_cases hp : t1.plain = true
  ·rw [if_pos hp]
   rw [hashByValue_scannable 8 (x := .int k u) rfl]
   refine wpAny_bind (wpAny_pure ?_)
   exact Ik gw ho hx hd e1 m1 b1 ht1 tr fun h' sb x => wpAny_pure (fin h' sb x)
  ·rw [if_neg hp]
   refine wpAny_bind (wpAny_pure ?_)
   exact Ik gw ho hx hd e1 m1 b1 ht1 tr fun h' sb x => wpAny_pure (fin h' sb x)
theorem K4 {R : Result -> Shared -> Prop} {I S : Addr} {fp wr : List Addr} {n : Nat} {P : Nat -> Value -> Prop} {St : Nat -> Heap -> Prop} (W : Walks prog w A.in1 I fp wr n P St) (nS : S ∉ fp) (val : Nat -> Int) (hv : ∀ i v, P i v -> ∃ t, v = .int (val i) t) (hb : n + 1 < scanBound) :
  ∀ (k i : Nat) (s : Shared), n = i + k -> St i s.heap -> SetI prog w s.heap S (fun k' => (firstMet val i).any (· == k')) (firstMet val i).length ->
   (∀ h' tk, (∀ b o, b ∉ wr -> b ≠ S -> s.heap.get? b = some o -> h'.get? b = some o) -> SetI prog w h' S (fun k' => (firstMet val n).any (· == k')) (firstMet val n).length -> R (.ok (.ret .none)) { s with heap := h', toks := tk }) ->
   codeAny (model prog w) A (.builtin "set.update.loop" ⟨[.ref S, .ref I], []⟩) R s := by
 have nW : S ∉ wr := fun z => nS (W.sub _ z)
 intro k
 induction k with
 | zero =>
  intro i s en st x fin
  have ei : i = n := by omega
  subst ei
  refine codeAny_builtin PyProof.Rows.F.entry_set_update_loop ?_
  rw [Around.under_plainId PyProof.Rows.F.plain_set_update_loop _]
  show wpAny _ A.in1 (pyNext (.ref I) >>= _) _ _ s
  exact wpAny_bind (W.done s _ _ st fun h' tk kp => wpAny_pure (fin h' tk (fun b o nb _ e => kp b o nb e) (x.at fun o e => kp S o nW e)))
 | succ k ih =>
  intro i s en st x fin
  refine codeAny_builtin PyProof.Rows.F.entry_set_update_loop ?_
  rw [Around.under_plainId PyProof.Rows.F.plain_set_update_loop _]
  show wpAny _ A.in1 (pyNext (.ref I) >>= _) _ _ s
  refine wpAny_bind (W.item i s _ _ (by omega) st fun v h' tk pv st' kp => ?_)
  obtain ⟨t, rfl⟩ := hv i v pv
  show wpAny _ A.in1 (holding [Value.int (val i) t] (setAdd S (.int (val i) t)) >>= _) _ _ _
  refine wpAny_bind (wpAny_holding ?_)
  unfold setAdd
  refine wpAny_holding (wpAny_bind ((intKind prog w).pyHash (k := val i) (intKind_is _ _ _ _) ?_))
  have lm := firstMet_length_le val i
  refine OJ (s := { s with heap := h', toks := tk + 1 }) (x.at fun o e => kp S o nW e) (by omega) fun h2 b sb x2 => ?_
  refine wpAny_pure ⟨plainId_quiet PyProof.Rows.F.plain_set_update_loop _, ih (i + 1) _ (by omega) (W.frame _ _ _ st' fun b hb o e => ?_) (x2.congr (fun k' => ?_) ?_) fun h3 tk3 k3 x3 => fin h3 tk3 (fun b o nb nb' e => k3 b o nb nb' ((sb.2 b nb').trans (kp b o nb e))) x3⟩
  ·exact (sb.2 b fun z => nS (z ▸ hb)).trans e
  ·rw [firstMet_succ, step_any]
  ·rw [firstMet_succ, step_length]
theorem Oh (a : Value) {Q1 : Value -> Shared -> Prop} (h : Q1 (.ref s.heap.objs.size) { s with heap := s.heap.push { cls := .type "set", dict := none, data := .set #[] 0 (.fresh 0 0 (!byT w)) } }) :
  codeAny (model prog w) A (.call (.builtin "set.__new__") ⟨[.type "set", a], []⟩) (wants Q1 E) s := by
 refine codeAny_of_tree ?_
 show wpAny _ A.in1 (checkBuiltinCall "set.__new__" ⟨[.type "set", a], []⟩ >>= fun _ => again (.builtin "set.__new__" ⟨[.type "set", a], []⟩)) _ _ s
 refine wpAny_bind (wpAny_of_eq (PySem.F.newCall_set_1 a) (wpAny_pure ⟨plainId_quiet PySem.F.plain_set_new _, codeAny_builtin PySem.F.entry_set_new ?_⟩))
 rw [Around.under_plainId PySem.F.plain_set_new _]
 unfold Builtin.«set.__new__» Builtin.Frozenset.newClass
 have sub := sub_set_self
 obtain ⟨hp, g, d, tk, os⟩ := s
 dsimp only
 wp_walk
 refine wpAny_askSetting (wpAny_pure ?_)
 exact wpAny_bind (wpAny_alloc (wpAny_pure (wpAny_pure h)))
end
end GX
namespace GX
open PySem PyProof.Rows
theorem sl_sit_next : Slot "set_iterator" "__next__" "set_iterator.__next__" :=
 .of (owner := "set_iterator") (n := "__next__") (by rw [typeLookup_type, builtinLookup_eq_fast]; kernel_rfl) (by decide +kernel) (by decide +kernel) (by decide +kernel) (by first | exact .inl (by decide +kernel) | exact .inr (by decide +kernel)) (by rw [isSubtype_type]; kernel_rfl)
theorem mD : entryFor table "set_iterator.__next__" = some Builtin.«set_iterator.__next__» := entryFor_of_tree (by kernel_rfl)
theorem mK (a : Value) : argsOk "set_iterator.__next__" ⟨[a], []⟩ := by unfold argsOk; kernel_rfl
theorem vd : Slot "set_iterator" "__iter__" "set_iterator.__iter__" :=
 .of (owner := "set_iterator") (n := "__iter__") (by rw [typeLookup_type, builtinLookup_eq_fast]; kernel_rfl) (by decide +kernel) (by decide +kernel) (by decide +kernel) (by first | exact .inl (by decide +kernel) | exact .inr (by decide +kernel)) (by rw [isSubtype_type]; kernel_rfl)
theorem Dr : entryFor table "set_iterator.__iter__" = some Builtin.«dict_keyiterator.__iter__» := entryFor_alias (id' := "dict_keyiterator.__iter__") (by kernel_rfl) rfl (by decide +kernel) (by kernel_rfl)
theorem Cy (a : Value) : argsOk "set_iterator.__iter__" ⟨[a], []⟩ := by unfold argsOk; kernel_rfl
theorem Ef : entryFor table "set.__iter__" = some Builtin.«frozenset.__iter__» := entryFor_alias (id' := "frozenset.__iter__") (by kernel_rfl) rfl (by decide +kernel) (by kernel_rfl)
section
variable {prog : Program} {w : World} {A : Around} {E : Value -> Shared -> Prop} {s : Shared}
theorem Cm {l : Addr} {items : Array Value} {ns : List Int} {Q : Value -> Shared -> Prop} (hh : A.handled = none) (hl : s.heap.IsList l items) (hi : IntsAre items.toList ns) (hb : items.size + 1 < scanBound)
  (h : ∀ h' tk, SetI prog w h' s.heap.objs.size (fun k' => (firstMet (fun i => ns.getD i 0) items.size).any (· == k')) (firstMet (fun i => ns.getD i 0) items.size).length -> (∀ b o, s.heap.get? b = some o -> h'.get? b = some o) -> Q (.ref s.heap.objs.size) { s with heap := h', toks := tk }) :
  wpAny (model prog w) A (call (.type "set") [.ref l]) Q E s := by
 obtain ⟨c, tl, hmro⟩ := PySem.F.called_set.mro
 have hmade := PySem.F.called_set.made
 have hsub := PySem.F.called_set.sub
 refine wpAny_call (codeAny_of_tree ?_)
 show wpAny _ _ (callAny (.type "set") _) _ _ _
 refine wpAny_pure ⟨Code.quiet_builtin _ (by decide +kernel), codeAny_builtin PySem.F.entry_type_call ?_⟩
 rw [Around.under_plain (weight_type_call_type "set" [.ref l] []) rfl]
 have h1 := PySem.F.called_set.notType
 have h2 := PySem.F.called_set.canCreate
 have hct := PySem.F.typeCall_set_1 (.ref l)
 repeat (any_goals (first | assumption | wp_step))
 refine codeAny_mono (Oh (.ref l) (E := E) (Q1 := fun v s1 => v = .ref s.heap.objs.size /\ s1 = { s with heap := s.heap.push { cls := .type "set", dict := none, data := .set #[] 0 (.fresh 0 0 (!byT w)) } }) ⟨rfl, rfl⟩) fun r s1 hr => ?_
 cases r with
 | error e => exact hr
 | ok fl =>
  cases fl with
  | ret obj =>
   obtain ⟨rfl, rfl⟩ := hr
   have hS : (s.heap.push { cls := .type "set", dict := none, data := .set #[] 0 (.fresh 0 0 (!byT w)) }).get? s.heap.objs.size = some { cls := .type "set", dict := none, data := .set #[] 0 (.fresh 0 0 (!byT w)) } := Heap.get?_push_size _ rfl
   have hT : Shared.TypeIs { s with heap := s.heap.push { cls := .type "set", dict := none, data := .set #[] 0 (.fresh 0 0 (!byT w)) } } (.ref s.heap.objs.size) "set" := ⟨_, hS, rfl⟩
   have hli := PySem.F.called_set.init.lookup
   have hbi := PySem.F.called_set.init.bind (.ref s.heap.objs.size)
   repeat (any_goals (first | assumption | wp_step))
   refine codeAny_mono (codeAny_call_builtin (R := wants (fun r s2 => r = .none /\ Q (.ref s.heap.objs.size) s2) E) PySem.F.called_set.init.plain PySem.F.entry_set_init (check_set_init_1 hT ?_)) fun r2 s2 hr2 => ?_
   ·obtain ⟨ol, hol, hcl, nl, hdl⟩ := hl
    obtain ⟨oc, od, odt, osl⟩ := ol
    simp only at hcl hdl
    subst hcl hdl
    have hol' : (s.heap.push { cls := .type "set", dict := none, data := .set #[] 0 (.fresh 0 0 (!byT w)) }).get? l = some { cls := .type "list", dict := od, data := .seq items nl, slots := osl } := Heap.get?_push_of_some _ hol
    have q1 := PySem.F.sub_list_set
    have q2 := PySem.F.sub_list_frozenset
    have q3 : (Value.type "list" == Value.type "dict") = false := by decide
    have hl1 : (s.heap.push { cls := .type "set", dict := none, data := .set #[] 0 (.fresh 0 0 (!byT w)) }).IsList l items := ⟨_, hol', rfl, nl, rfl⟩
    unfold Builtin.«set.__init__» noKeywords Builtin.Frozenset.updateFrom
    generalize hPI : pyIter = PI
    wp_walk
    subst hPI
    refine wpAny_pyIter_list hl1 (wpAny_bind (wpAny_runValue ?_))
    have lS : l < s.heap.objs.size := Heap.lt_size hol
    have hh3 : A.in1.in1.in1.handled = none := by simp [hh]
    have nI : l ≠ (s.heap.push { cls := .type "set", dict := none, data := .set #[] 0 (.fresh 0 0 (!byT w)) }).objs.size := by
     rw [Heap.size_push]
     exact Nat.ne_of_lt (Nat.lt_succ_of_lt lS)
    have nf : s.heap.objs.size ∉ [(s.heap.push { cls := .type "set", dict := none, data := .set #[] 0 (.fresh 0 0 (!byT w)) }).objs.size, l] := by
     rw [Heap.size_push]
     simp only [List.mem_cons, List.mem_singleton, List.not_mem_nil, or_false, not_or]
     exact ⟨Nat.ne_of_lt (Nat.lt_succ_self _), Nat.ne_of_gt lS⟩
    refine K4 (Walks.list hh3 _ l nI items) nf (fun i => ns.getD i 0) (fun i v hv => IntsAre.int_at hi i v (by rw [Array.getElem?_toList]; exact hv)) hb items.size 0 _ (by omega)
     ⟨⟨_, Heap.get?_push_size _ rfl, rfl, rfl⟩, hl1.push _⟩ ⟨_, #[], 0, _, Heap.get?_push_of_some _ hS, ⟨rfl, rfl, rfl⟩, rfl, fun e he => by simp at he, fun k => by simp [firstMet_zero], by decide, by rfl, rfl, ⟨List.Pairwise.nil, rfl⟩⟩ fun h' tk kp x => ?_
    refine wpAny_pure (wpAny_pure ⟨rfl, h h' tk x fun b o e => ?_⟩)
    have lb := Heap.lt_size e
    refine kp b o (fun z => ?_) (Nat.ne_of_lt lb) (Heap.get?_push_of_some _ (Heap.get?_push_of_some _ e))
    have z' := List.mem_singleton.mp z
    rw [z', Heap.size_push] at lb
    exact absurd lb (Nat.not_lt.mpr (Nat.le_succ _))
   ·cases r2 with
    | error e => exact hr2
    | ok f2 =>
     cases f2 with
     | ret r =>
      obtain ⟨rfl, hq⟩ := hr2
      repeat (any_goals (first | assumption | wp_step))
     | _ => exact hr2.elim
  | _ => exact hr.elim
end
end GX
namespace GX
open PySem PyProof.Rows
section
variable {prog : Program} {w : World} {A : Around} {E : Value -> Shared -> Prop} {s : Shared}
theorem rR {α : Type} : ∀ {xs : List α} {i : Nat} (h : i < xs.length), (xs[i] :: xs.eraseIdx i).Perm xs
 | x :: xs, 0, _ => .refl _
 | x :: xs, i + 1, h => (List.Perm.swap x (xs[i]'(Nat.lt_of_succ_lt_succ h)) _).trans ((rR (xs := xs) (i := i) (Nat.lt_of_succ_lt_succ h)).cons x)
theorem Jx {src : Source} {n : Nat} {M : Model} {Q : Nat -> Shared -> Prop} (hn : n ≠ 0) (h : ∀ i d, i < n -> Q i { s with drawn := d }) : wpAny M A (choose src n) Q E s := fun Γ p _ => by
 unfold choose
 rw [Sem.wp_choose]
 exact ⟨hn, h _ _ (Nat.mod_lt _ (Nat.pos_of_ne_zero hn))⟩
theorem HJ {α : Type} {M : Model} : ∀ (n : Nat) (xs : List α) (s : Shared) (Q : List α -> Shared -> Prop), xs.length = n -> (∀ ys d, ys.Perm xs -> Q ys { s with drawn := d }) -> wpAny M A (drawOrder n xs) Q E s
 | 0, xs, s, Q, hl, h => by
  have e : xs = [] := List.eq_nil_of_length_eq_zero hl
  subst e
  unfold drawOrder
  exact wpAny_pure (h [] s.drawn .nil)
 | n + 1, [], s, Q, hl, h => by cases hl
 | n + 1, x :: xs, s, Q, hl, h => by
  unfold drawOrder
  refine wpAny_bind (Jx (by simp) fun i d hi => ?_)
  rw [List.getElem?_eq_getElem hi]
  dsimp only
  refine wpAny_bind (HJ n _ _ _ (by rw [List.length_eraseIdx_of_lt hi, hl]; rfl) fun ys d' pm => ?_)
  exact wpAny_pure (h _ d' ((pm.cons _).trans (rR hi)))
theorem HB {α : Type} (f : Nat -> Nat) : ∀ (n k : Nat) (xs : List α) (out : Array α), xs.length = n -> (pickOrder.go f n k xs out).toList.Perm (out.toList ++ xs)
 | 0, k, xs, out, hl => by
  have e : xs = [] := List.eq_nil_of_length_eq_zero hl
  subst e
  unfold pickOrder.go
  rw [List.append_nil]
 | n + 1, k, xs, out, hl => by
  unfold pickOrder.go
  have hi : f k % xs.length < xs.length := Nat.mod_lt _ (by omega)
  rw [List.getElem?_eq_getElem hi]
  dsimp only
  refine (HB f n (k + 1) _ _ (by rw [List.length_eraseIdx_of_lt hi, hl]; rfl)).trans ?_
  rw [Array.toList_push, List.append_assoc]
  exact List.Perm.append_left _ (rR hi)
theorem Jm {α : Type} (f : Nat -> Nat) (xs : Array α) : (pickOrder f xs).toList.Perm xs.toList := by
 have := HB f xs.size 0 xs.toList #[] (by simp)
 simpa [pickOrder] using this
end
end GX
namespace GX
open PySem PyProof.Rows
section
variable {prog : Program} {w : World} {A : Around} {E : Value -> Shared -> Prop} {s : Shared}
def vJ (first : Value) (i : Nat) (a : Addr) (n ep : Nat) : Obj := { cls := .type "set_iterator", dict := none, data := .fields #[first, .int i 0, .ref a, .int n 0, .int ep 0], slots := #[] }
theorem sG {I : Addr} {first : Value} {i n ep : Nat} {a : Addr} (h : Heap) (hI : h.get? I = some (vJ first i a n ep)) (k : Nat) (x : Value) : (h.update I (Obj.mapFields (·.setIfInBounds k x))).get? I = some { cls := .type "set_iterator", dict := none, data := .fields ((#[first, .int i 0, .ref a, .int n 0, .int ep 0] : Array Value).setIfInBounds k x), slots := #[] } :=
 Heap.get?_update_self _ hI rfl
variable {I a : Addr} {o : Obj} {es : Array (Int × Value)} {ep : Nat} {t : SetTable} {i : Nat}
theorem gJ {first : Value} (hI : s.heap.get? I = some (vJ first i a es.size ep)) : s.TypeIs (.ref I) "set_iterator" := ⟨_, hI, rfl⟩
theorem ux {sl : Int} {nx : Nat} {x : Value} {Q : Option Value -> Shared -> Prop} (hI : s.heap.get? I = some (vJ (.int sl 0) i a es.size ep)) (ho : s.heap.get? a = some o) (hd : o.data = .set es ep t) (hf : t.fits es.size = true)
  (hn : ∀ (A : Around) (E : Value -> Shared -> Prop) (Q' : Option (Value × Nat) -> Shared -> Prop), Q' (some (x, nx)) s -> wpAny (model prog w) A (setNext a sl.toNat i ep) Q' E s)
  (h : ∀ h', h'.get? I = some (vJ (.int nx 0) (i + 1) a es.size ep) -> Heap.SameBut I s.heap h' -> Q (some x) { s with heap := h' }) : wpAny (model prog w) A (pyNext (.ref I)) Q E s := by
 unfold pyNext
 refine wpAny_bind (wpAny_attempt (wpAny_callSpecial?_slot (name := Str.ofString "__next__") (gJ hI) sl_sit_next (wpAny_call_entry sl_sit_next (gJ hI) mD ?_ (mK _))))
 unfold Builtin.«set_iterator.__next__»
 refine wpAny_bind (wpAny_pure (wpAny_bind (wpAny_fieldsOf hI rfl ?_)))
 show wpAny _ _ (setEntries a >>= _) _ _ _
 refine wpAny_bind (wpAny_setEntries_of ho hd hf ?_)
 show wpAny _ _ (if (((es.size : Nat) : Int) != ((es.size : Nat) : Int)) = true then _ else _) _ _ _
 rw [if_neg (by simp)]
 show wpAny _ _ (setNext a sl.toNat ((i : Int)).toNat ((ep : Int)).toNat >>= _) _ _ _
 rw [Int.toNat_natCast, Int.toNat_natCast]
 refine wpAny_bind (hn _ _ _ ?_)
 show wpAny _ _ (setField (.ref I) 0 (rawInt nx) >>= _) _ _ _
 refine wpAny_bind (wpAny_setField hI rfl (by simp) ?_)
 have h1 := sG s.heap hI 0 (rawInt nx)
 refine wpAny_bind (wpAny_setField (s := { s with heap := s.heap.update I (Obj.mapFields (·.setIfInBounds 0 (rawInt nx))) }) h1 rfl (by simp) ?_)
 refine wpAny_pure ⟨_, rfl, wpAny_pure (h _ ?_ ((Heap.SameBut.update ..).trans (Heap.SameBut.update ..)))⟩
 exact Heap.get?_update_self _ h1 rfl
theorem BP {M : Model} {Q : Fin -> Shared -> Prop} {E : Value -> Shared -> Prop} (hh : A.handled = none) (h : ∀ h' e, (∀ b o, s.heap.get? b = some o -> h'.get? b = some o) -> (∃ o, h'.get? e = some o /\ o.cls = .type "StopIteration") -> E (.ref e) { s with heap := h' }) :
  wpAny M A (newExc (.type "StopIteration") [] >>= fun e => raiseNew e) Q E s := by
 refine wpAny_bind ?_
 simp only [newExc, newTuple]
 refine wpAny_bind (wpAny_newObj_type ?_ (by size_fits))
 refine wpAny_bind (m := firstArgMember _ _) (wpAny_of_eq (a := Value.none) (by first | rfl | (simp only [firstArgMember]; rfl)) ?_)
 refine wpAny_newObj_type ?_ (by size_fits)
 refine wpAny_raiseNew_none hh (h _ _ (fun b o e => Heap.get?_push_of_some _ (Heap.get?_push_of_some _ e)) ⟨_, Heap.get?_push_size _ rfl, rfl⟩)
theorem tQ {sl : Int} {Q : Option Value -> Shared -> Prop} (hh : A.handled = none) (hI : s.heap.get? I = some (vJ (.int sl 0) i a es.size ep)) (ho : s.heap.get? a = some o) (hd : o.data = .set es ep t) (hf : t.fits es.size = true)
  (hn : ∀ (A : Around) (E : Value -> Shared -> Prop) (Q' : Option (Value × Nat) -> Shared -> Prop), Q' none s -> wpAny (model prog w) A (setNext a sl.toNat i ep) Q' E s)
  (h : ∀ h', (∀ b o, b ≠ I -> s.heap.get? b = some o -> h'.get? b = some o) -> Q none { s with heap := h' }) : wpAny (model prog w) A (pyNext (.ref I)) Q E s := by
 unfold pyNext
 refine wpAny_bind (wpAny_attempt (wpAny_callSpecial?_slot (name := Str.ofString "__next__") (gJ hI) sl_sit_next (wpAny_call_entry sl_sit_next (gJ hI) mD ?_ (mK _))))
 unfold Builtin.«set_iterator.__next__»
 refine wpAny_bind (wpAny_pure (wpAny_bind (wpAny_fieldsOf hI rfl ?_)))
 show wpAny _ _ (setEntries a >>= _) _ _ _
 refine wpAny_bind (wpAny_setEntries_of ho hd hf ?_)
 show wpAny _ _ (if (((es.size : Nat) : Int) != ((es.size : Nat) : Int)) = true then _ else _) _ _ _
 rw [if_neg (by simp)]
 show wpAny _ _ (setNext a sl.toNat ((i : Int)).toNat ((ep : Int)).toNat >>= _) _ _ _
 rw [Int.toNat_natCast, Int.toNat_natCast]
 refine wpAny_bind (hn _ _ _ ?_)
 show wpAny _ _ (setField (.ref I) 2 .none >>= _) _ _ _
 refine wpAny_bind (wpAny_setField hI rfl (by simp) ?_)
 refine BP (A := A.in1) hh fun h' e kp ⟨oe, q1, q2⟩ => ?_
 refine wpAny_bind (wpAny_isInstance (T := "StopIteration") (b := true) ⟨oe, q1, q2⟩ isSubtype_stop ?_)
 exact wpAny_pure (h h' fun b ob nb e => kp b ob ((Heap.get?_update_other _ _ (Ne.symm nb)).trans e))
theorem Bk {tp : Addr} {c : Nat} {ps : List Nat} {x : Value} {k : Nat} {hk : Int} {Q : Option Value -> Shared -> Prop} (hI : s.heap.get? I = some (vJ (.ref tp) i a es.size ep)) (ho : s.heap.get? a = some o) (hd : o.data = .set es ep t) (hf : t.fits es.size = true)
  (ht : s.heap.get? tp = some { cls := .type "tuple", dict := none, data := .seq (ps.map fun (i : Nat) => rawInt i).toArray c, slots := #[] }) (hp : ps[i]? = some k) (hx : es[k]? = some (hk, x))
  (h : ∀ h', h'.get? I = some (vJ (.ref tp) (i + 1) a es.size ep) -> Heap.SameBut I s.heap h' -> Q (some x) { s with heap := h' }) : wpAny (model prog w) A (pyNext (.ref I)) Q E s := by
 unfold pyNext
 refine wpAny_bind (wpAny_attempt (wpAny_callSpecial?_slot (name := Str.ofString "__next__") (gJ hI) sl_sit_next (wpAny_call_entry sl_sit_next (gJ hI) mD ?_ (mK _))))
 unfold Builtin.«set_iterator.__next__»
 refine wpAny_bind (wpAny_pure (wpAny_bind (wpAny_fieldsOf hI rfl ?_)))
 show wpAny _ _ (setEntries a >>= _) _ _ _
 refine wpAny_bind (wpAny_setEntries_of ho hd hf ?_)
 show wpAny _ _ (if (((es.size : Nat) : Int) != ((es.size : Nat) : Int)) = true then _ else _) _ _ _
 rw [if_neg (by simp)]
 show wpAny _ _ (seqItems? (.ref tp) >>= _) _ _ _
 refine wpAny_bind (wpAny_seqItems ht rfl ?_)
 have e1 : ((ps.map fun (i : Nat) => rawInt i).toArray)[((i : Nat) : Int).toNat]? = some (.int k 0) := by
  rw [Int.toNat_natCast, List.getElem?_toArray, List.getElem?_map, hp]
  rfl
 dsimp only
 rw [e1]
 show wpAny _ _ (setNextDrawn a ((k : Nat) : Int).toNat ((ep : Nat) : Int).toNat >>= _) _ _ _
 rw [Int.toNat_natCast, Int.toNat_natCast]
 unfold setNextDrawn
 refine wpAny_bind (wpAny_bind (wpAny_setState_of ho hd hf ?_))
 show wpAny _ _ (if (ep != ep) = true then _ else _) _ _ _
 rw [if_neg (by simp)]
 refine wpAny_bind (wpAny_pure ?_)
 rw [hx]
 refine wpAny_pure ?_
 show wpAny _ _ (setField (.ref I) 1 (rawInt ((i : Int) + 1)) >>= _) _ _ _
 refine wpAny_bind (wpAny_setField hI rfl (by simp) (wpAny_pure ⟨_, rfl, wpAny_pure (h _ ?_ (Heap.SameBut.update ..))⟩))
 exact sG s.heap hI 1 (rawInt ((i : Int) + 1))
theorem Aa {tp : Addr} {c : Nat} {ps : List Nat} {Q : Option Value -> Shared -> Prop} (hh : A.handled = none) (hI : s.heap.get? I = some (vJ (.ref tp) i a es.size ep)) (ho : s.heap.get? a = some o) (hd : o.data = .set es ep t) (hf : t.fits es.size = true)
  (ht : s.heap.get? tp = some { cls := .type "tuple", dict := none, data := .seq (ps.map fun (i : Nat) => rawInt i).toArray c, slots := #[] }) (hp : ps[i]? = none)
  (h : ∀ h', (∀ b o, b ≠ I -> s.heap.get? b = some o -> h'.get? b = some o) -> Q none { s with heap := h' }) : wpAny (model prog w) A (pyNext (.ref I)) Q E s := by
 unfold pyNext
 refine wpAny_bind (wpAny_attempt (wpAny_callSpecial?_slot (name := Str.ofString "__next__") (gJ hI) sl_sit_next (wpAny_call_entry sl_sit_next (gJ hI) mD ?_ (mK _))))
 unfold Builtin.«set_iterator.__next__»
 refine wpAny_bind (wpAny_pure (wpAny_bind (wpAny_fieldsOf hI rfl ?_)))
 show wpAny _ _ (setEntries a >>= _) _ _ _
 refine wpAny_bind (wpAny_setEntries_of ho hd hf ?_)
 show wpAny _ _ (if (((es.size : Nat) : Int) != ((es.size : Nat) : Int)) = true then _ else _) _ _ _
 rw [if_neg (by simp)]
 show wpAny _ _ (seqItems? (.ref tp) >>= _) _ _ _
 refine wpAny_bind (wpAny_seqItems ht rfl ?_)
 have e1 : ((ps.map fun (i : Nat) => rawInt i).toArray)[((i : Nat) : Int).toNat]? = none := by
  rw [Int.toNat_natCast, List.getElem?_toArray, List.getElem?_map, hp]
  rfl
 dsimp only
 rw [e1]
 show wpAny _ _ (setField (.ref I) 0 (rawInt 0) >>= _) _ _ _
 refine wpAny_bind (wpAny_setField hI rfl (by simp) ?_)
 have h1 := sG s.heap hI 0 (rawInt 0)
 refine wpAny_bind (wpAny_setField (s := { s with heap := s.heap.update I (Obj.mapFields (·.setIfInBounds 0 (rawInt 0))) }) h1 rfl (by simp) ?_)
 refine BP (A := A.in1) hh fun h' e kp ⟨oe, q1, q2⟩ => ?_
 refine wpAny_bind (wpAny_isInstance (T := "StopIteration") (b := true) ⟨oe, q1, q2⟩ isSubtype_stop ?_)
 exact wpAny_pure (h h' fun b ob nb e => kp b ob ((Heap.get?_update_other _ _ (Ne.symm nb)).trans ((Heap.get?_update_other _ _ (Ne.symm nb)).trans e)))
theorem zc {sl : Nat} {Q : Option (Value × Nat) -> Shared -> Prop} (b : byT w = true) (ho : s.heap.get? a = some o) (hd : o.data = .set es ep t) (hf : t.fits es.size = true)
  (h : Q (((pickOrder (w.params.setOrder a ep) es)[i]?).map fun e => (e.2, sl)) s) : wpAny (model prog w) A (setNext a sl i ep) Q E s := by
 have hb : w.params.followText "set-order" = true := b
 unfold setNext
 refine wpAny_bind (wpAny_setState_of ho hd hf (wpAny_bind (wpAny_bind (wpAny_askSetting (wpAny_pure ?_)))))
 show wpAny _ _ (if w.params.followText "set-order" = true then _ else _) _ _ _
 rw [hb, if_pos rfl]
 show wpAny _ _ (if (ep != ep) = true then _ else _) _ _ _
 rw [if_neg (by simp)]
 refine wpAny_bind ?_
 unfold setWalk
 refine wpAny_bind (wpAny_setState_of ho hd hf (wpAny_bind (wpAny_bind (wpAny_askSetting (wpAny_pure ?_)))))
 show wpAny _ _ (if w.params.followText "set-order" = true then _ else _) _ _ _
 rw [hb, if_pos rfl]
 exact wpAny_bind (wpAny_askSetting (wpAny_pure (wpAny_pure h)))
theorem CG {sl : Nat} {Q : Option (Value × Nat) -> Shared -> Prop} (b : byT w = false) (d : (!t.plain && decide (es.size > 1)) = false) (hl : t.led = true) (ho : s.heap.get? a = some o) (hd : o.data = .set es ep t) (hf : t.fits es.size = true)
  (h : Q (match es[SetTable.below t.place sl]?, t.place[SetTable.below t.place sl]? with | some (_, x), some j => some (x, j + 1) | _, _ => none) s) : wpAny (model prog w) A (setNext a sl i ep) Q E s := by
 have hb : w.params.followText "set-order" = false := b
 unfold setNext
 refine wpAny_bind (wpAny_setState_of ho hd hf (wpAny_bind (wpAny_bind (wpAny_askSetting (wpAny_pure ?_)))))
 show wpAny _ _ (if w.params.followText "set-order" = true then _ else _) _ _ _
 rw [hb, if_neg Bool.false_ne_true]
 refine wpAny_bind (wpAny_pure ?_)
 show wpAny _ _ (if (!t.plain && decide (es.size > 1)) = true then _ else _) _ _ _
 rw [d, if_neg Bool.false_ne_true]
 refine wpAny_bind ?_
 show wpAny _ _ (if (!t.led && !es.isEmpty) = true then _ else _) _ _ _
 rw [hl]
 show wpAny _ _ (if (false && !es.isEmpty) = true then _ else _) _ _ _
 rw [Bool.false_and, if_neg Bool.false_ne_true]
 exact wpAny_pure (wpAny_pure h)
end
end GX
namespace GX
open PySem PyProof.Rows
section
variable {prog : Program} {w : World} {A : Around} {E : Value -> Shared -> Prop} {s : Shared} {I a : Addr} {o : Obj} {es : Array (Int × Value)} {ep : Nat} {t : SetTable}
theorem wM {i : Nat} {first : Value} {Q : Value -> Shared -> Prop} (hI : s.heap.get? I = some (vJ first i a es.size ep)) (h : Q (.ref I) s) : wpAny (model prog w) A (pyIter (.ref I)) Q E s := by
 refine wpAny_pyIter_slot (gJ hI) vd (wpAny_call_entry vd (gJ hI) Dr ?_ (Cy _))
 show wpAny _ _ (ret (.ref I)) _ _ s
 exact wpAny_pure ⟨_, rfl, "set_iterator", _, gJ hI, sl_sit_next.lookup, h⟩
theorem Jp (hh : A.handled = none) (b : byT w = true) (hd : o.data = .set es ep t) (hf : t.fits es.size = true) (ne : a ≠ I) :
  Walks prog w A I [I, a] [I] ((pickOrder (w.params.setOrder a ep) es).toList.map (·.2)).length (fun i v => ((pickOrder (w.params.setOrder a ep) es).toList.map (·.2))[i]? = some v)
   (fun i h => (∃ sl : Nat, h.get? I = some (vJ (.int sl 0) i a es.size ep)) /\ h.get? a = some o) where
 sub := fun b hb => by simp at hb; simp [hb]
 frame := fun i h h' st hk => ⟨let ⟨sl, e⟩ := st.1; ⟨sl, hk I (by simp) _ e⟩, hk a (by simp) _ st.2⟩
 item := fun i s Q E hi st hQ => by
  obtain ⟨⟨sl, hI⟩, ho⟩ := st
  have hi' : i < (pickOrder (w.params.setOrder a ep) es).size := by simpa using hi
  refine ux (x := ((pickOrder (w.params.setOrder a ep) es)[i]).2) (nx := sl) hI ho hd hf (fun A E Q' q => zc b ho hd hf ?_) fun h' e sb => hQ _ h' s.toks ?_ ⟨⟨sl, e⟩, (sb.2 a ne).trans ho⟩ fun c oc nc ec => (sb.2 c (fun z => nc (by simp [z]))).trans ec
  ·rw [Array.getElem?_eq_getElem hi']
   exact q
  ·rw [List.getElem?_map, Array.getElem?_toList, Array.getElem?_eq_getElem hi']
   rfl
 done := fun s Q E st hQ => by
  obtain ⟨⟨sl, hI⟩, ho⟩ := st
  refine tQ hh hI ho hd hf (fun A E Q' q => zc b ho hd hf ?_) fun h' kp => hQ h' s.toks fun c oc nc ec => kp c oc (fun z => nc (by simp [z])) ec
  rw [Array.getElem?_eq_none (by simp)]
  exact q
 self := fun i s Q E st hQ => let ⟨⟨_, hI⟩, _⟩ := st; wM hI hQ
theorem LQ (hh : A.handled = none) (b : byT w = false) (d : (!t.plain && decide (es.size > 1)) = false) (tb : Tb (!byT w) t) (hd : o.data = .set es ep t) (hf : t.fits es.size = true) (ne : a ≠ I) :
  Walks prog w A I [I, a] [I] (es.toList.map (·.2)).length (fun i v => (es.toList.map (·.2))[i]? = some v)
   (fun i h => (∃ sl : Nat, SetTable.below t.place sl = i /\ h.get? I = some (vJ (.int sl 0) i a es.size ep)) /\ h.get? a = some o) where
 sub := fun b hb => by simp at hb; simp [hb]
 frame := fun i h h' st hk => ⟨let ⟨sl, e1, e⟩ := st.1; ⟨sl, e1, hk I (by simp) _ e⟩, hk a (by simp) _ st.2⟩
 item := fun i s Q E hi st hQ => by
  obtain ⟨⟨sl, e1, hI⟩, ho⟩ := st
  have hi' : i < es.size := by simpa using hi
  have hl : t.led = true := by rw [tb.2, b]; rfl
  have hp : t.place.size = es.size := by
   simp only [SetTable.fits, Bool.and_eq_true, beq_iff_eq, decide_eq_true_eq] at hf
   exact hf.1
  have hip : i < t.place.size := by omega
  refine ux (x := (es[i]).2) (nx := t.place.getD i 0 + 1) hI ho hd hf (fun A E Q' q => CG b d hl ho hd hf ?_) fun h' e sb => hQ _ h' s.toks ?_ ⟨⟨t.place.getD i 0 + 1, Ft tb.1 hip, e⟩, (sb.2 a ne).trans ho⟩ fun c oc nc ec => (sb.2 c (fun z => nc (by simp [z]))).trans ec
  ·rw [Int.toNat_natCast, e1, Array.getElem?_eq_getElem hi', Array.getElem?_eq_getElem hip]
   rw [Array.getD_eq_getD_getElem?, Array.getElem?_eq_getElem hip] at q
   exact q
  ·rw [List.getElem?_map, Array.getElem?_toList, Array.getElem?_eq_getElem hi']
   rfl
 done := fun s Q E st hQ => by
  obtain ⟨⟨sl, e1, hI⟩, ho⟩ := st
  have hl : t.led = true := by rw [tb.2, b]; rfl
  refine tQ hh hI ho hd hf (fun A E Q' q => CG b d hl ho hd hf ?_) fun h' kp => hQ h' s.toks fun c oc nc ec => kp c oc (fun z => nc (by simp [z])) ec
  rw [Int.toNat_natCast, e1, Array.getElem?_eq_none (by simp)]
  exact q
 self := fun i s Q E st hQ => let ⟨⟨_, _, hI⟩, _⟩ := st; wM hI hQ
theorem FJ {tp : Addr} {c : Nat} {ps : List Nat} (hh : A.handled = none) (pm : ps.Perm (List.range es.size)) (hd : o.data = .set es ep t) (hf : t.fits es.size = true) (ne : a ≠ I) (nt : tp ≠ I) :
  Walks prog w A I [I, a, tp] [I] (ps.map fun i => (es.getD i (0, .none)).2).length (fun i v => (ps.map fun i => (es.getD i (0, .none)).2)[i]? = some v)
   (fun i h => h.get? I = some (vJ (.ref tp) i a es.size ep) /\ h.get? a = some o /\ h.get? tp = some { cls := .type "tuple", dict := none, data := .seq (ps.map fun (i : Nat) => rawInt i).toArray c, slots := #[] }) where
 sub := fun b hb => by simp at hb; simp [hb]
 frame := fun i h h' st hk => ⟨hk I (by simp) _ st.1, hk a (by simp) _ st.2.1, hk tp (by simp) _ st.2.2⟩
 item := fun i s Q E hi st hQ => by
  obtain ⟨hI, ho, ht⟩ := st
  rw [List.length_map] at hi
  have hm : ps[i] < es.size := List.mem_range.mp (pm.mem_iff.mp (List.getElem_mem hi))
  refine Bk (x := (es[ps[i]]).2) (hk := (es[ps[i]]).1) hI ho hd hf ht (List.getElem?_eq_getElem hi) (Array.getElem?_eq_getElem hm) fun h' e sb => hQ _ h' s.toks ?_ ⟨e, (sb.2 a ne).trans ho, (sb.2 tp nt).trans ht⟩ fun c oc nc ec => (sb.2 c (fun z => nc (by simp [z]))).trans ec
  rw [List.getElem?_map, List.getElem?_eq_getElem hi, Option.map_some, Array.getD_eq_getD_getElem?, Array.getElem?_eq_getElem hm]
  rfl
 done := fun s Q E st hQ => by
  obtain ⟨hI, ho, ht⟩ := st
  exact Aa hh hI ho hd hf ht (List.getElem?_eq_none (by rw [List.length_map]; exact Nat.le_refl _)) fun h' kp => hQ h' s.toks fun c oc nc ec => kp c oc (fun z => nc (by simp [z])) ec
 self := fun i s Q E st hQ => wM st.1 hQ
theorem G7 (es : Array (Int × Value)) : (List.range es.size).map (fun i => (es.getD i (0, Value.none)).2) = es.toList.map (·.2) := by
 apply List.ext_getElem?
 intro i
 rw [List.getElem?_map, List.getElem?_map, Array.getElem?_toList (xs := es)]
 by_cases h : i < es.size
 ·rw [List.getElem?_eq_getElem (by rw [List.length_range]; exact h), List.getElem_range, Option.map_some, Array.getD_eq_getD_getElem?, Array.getElem?_eq_getElem h]
  rfl
 ·rw [List.getElem?_eq_none (by rw [List.length_range]; omega), Array.getElem?_eq_none (by omega)]
  rfl
theorem Ln (hh : A.handled = none) (ho : s.heap.get? a = some o) (hx : o.ExactSet) (hd : o.data = .set es ep t) (hf : t.fits es.size = true) (hb : es.size < scanBound) (tb : Tb (!byT w) t) {Q : Value -> Shared -> Prop}
  (h : ∀ (h' : Heap) (d' : Drawn) (I : Addr) (fp : List Addr) (vs : List Value) (St : Nat -> Heap -> Prop), (∀ b o, s.heap.get? b = some o -> h'.get? b = some o) -> s.heap.objs.size <= I -> (∀ b ∈ fp, b = a ∨ s.heap.objs.size <= b) -> vs.Perm (es.toList.map (·.2)) ->
   (∀ A : Around, A.handled = none -> Walks prog w A I fp [I] vs.length (fun i v => vs[i]? = some v) St) -> St 0 h' -> Q (.ref I) { s with heap := h', drawn := d' }) : wpAny (model prog w) A (pyIter (.ref a)) Q E s := by
 have hT : s.TypeIs (.ref a) "set" := ⟨o, ho, hx.1⟩
 have la := Heap.lt_size ho
 refine wpAny_pyIter_slot hT PySem.F.slot_set_iter (wpAny_call_entry PySem.F.slot_set_iter hT Ef ?_ (PySem.F.args_set_iter_1 _))
 unfold Builtin.«frozenset.__iter__» Builtin.Frozenset.slot0 Builtin.Frozenset.addrOf Builtin.Frozenset.sizeOf
 refine wpAny_bind (wpAny_bind (wpAny_pure (wpAny_pure (wpAny_bind (wpAny_bind (wpAny_setEntries_of ho hd hf (wpAny_pure ?_)))))))
 refine wpAny_bind ?_
 unfold setDrawn
 refine wpAny_bind (wpAny_setState_of ho hd hf (wpAny_bind (wpAny_bind (wpAny_askSetting (wpAny_pure (wpAny_pure ?_))))))
 show wpAny _ _ (if (!byT w && (!t.plain && decide (es.size > 1))) = true then _ else _) _ _ _
 cases hc : (!byT w && (!t.plain && decide (es.size > 1))) with
 | false =>
  rw [if_neg Bool.false_ne_true]
  refine wpAny_bind (wpAny_pure (wpAny_bind ?_))
  unfold setEpoch
  refine wpAny_bind (wpAny_setState_of ho hd hf (wpAny_pure ?_))
  refine wpAny_bind (wpAny_newObj_type (wpAny_pure ⟨_, rfl, "set_iterator", _, ⟨_, Heap.get?_push_size _ rfl, rfl⟩, sl_sit_next.lookup, ?_⟩))
  have nI : a ≠ s.heap.objs.size := Nat.ne_of_lt la
  have fpok : ∀ b ∈ [s.heap.objs.size, a], b = a ∨ s.heap.objs.size <= b := fun b hb => by
   simp only [List.mem_cons, List.not_mem_nil, or_false] at hb
   rcases hb with z | z
   ·exact .inr (Nat.le_of_eq z.symm)
   ·exact .inl z
  cases hT : byT w with
  | true =>
   refine h _ s.drawn s.heap.objs.size [s.heap.objs.size, a] _ _ (fun b o e => Heap.get?_push_of_some _ e) (Nat.le_refl _) fpok ((Jm (w.params.setOrder a ep) es).map _) (fun A hA => Jp hA hT hd hf nI) ⟨⟨0, Heap.get?_push_size _ rfl⟩, Heap.get?_push_of_some _ ho⟩
  | false =>
   have hc' : (!t.plain && decide (es.size > 1)) = false := by rw [hT] at hc; exact hc
   refine h _ s.drawn s.heap.objs.size [s.heap.objs.size, a] _ _ (fun b o e => Heap.get?_push_of_some _ e) (Nat.le_refl _) fpok (.refl _) (fun A hA => LQ hA hT hc' tb hd hf nI) ⟨⟨0, EY tb.1, Heap.get?_push_size _ rfl⟩, Heap.get?_push_of_some _ ho⟩
 | true =>
  rw [if_pos rfl]
  refine wpAny_bind (HJ es.size (List.range es.size) s _ (by rw [List.length_range]) fun ps d' pm => wpAny_bind ?_)
  refine wpAny_newTuple (wpAny_bind ?_) ?_
  ·unfold setEpoch
   have ho' : (s.heap.push { cls := .type "tuple", data := .seq (ps.map fun (i : Nat) => rawInt i).toArray }).get? a = some o := Heap.get?_push_of_some _ ho
   refine wpAny_bind (wpAny_setState_of ho' hd hf (wpAny_pure ?_))
   refine wpAny_bind (wpAny_newObj_type (wpAny_pure ⟨_, rfl, "set_iterator", _, ⟨_, Heap.get?_push_size _ rfl, rfl⟩, sl_sit_next.lookup, ?_⟩))
   have sz : (s.heap.push { cls := .type "tuple", data := .seq (ps.map fun (i : Nat) => rawInt i).toArray }).objs.size = s.heap.objs.size + 1 := Heap.size_push ..
   refine h _ d' (s.heap.push { cls := .type "tuple", data := .seq (ps.map fun (i : Nat) => rawInt i).toArray }).objs.size [(s.heap.push { cls := .type "tuple", data := .seq (ps.map fun (i : Nat) => rawInt i).toArray }).objs.size, a, s.heap.objs.size] (ps.map fun i => (es.getD i (0, .none)).2) _
    (fun b o e => Heap.get?_push_of_some _ (Heap.get?_push_of_some _ e)) (by rw [sz]; exact Nat.le_succ _) (fun b hb => ?_) ?_ (fun A hA => FJ (c := 0) hA pm hd hf (by rw [sz]; exact Nat.ne_of_lt (Nat.lt_succ_of_lt la)) (by rw [sz]; exact Nat.ne_of_lt (Nat.lt_succ_self _)))
    ⟨Heap.get?_push_size _ rfl, Heap.get?_push_of_some _ ho', Heap.get?_push_of_some _ (Heap.get?_push_size _ rfl)⟩
   ·simp only [List.mem_cons, List.not_mem_nil, or_false] at hb
    rcases hb with z | z | z
    ·exact .inr (by rw [z, sz]; exact Nat.le_succ _)
    ·exact .inl z
    ·exact .inr (Nat.le_of_eq z.symm)
   ·exact (pm.map _).trans (by rw [G7])
  ·rw [List.length_map, pm.length_eq, List.length_range]
   exact fits_of_scanBound hb
end
end GX
namespace GX
open PySem PyProof.Rows
theorem xT {α : Type} [DecidableEq α] : ∀ {l m : List α}, l.Nodup -> (∀ x ∈ l, x ∈ m) -> m.length <= l.length -> m.Perm l
 | [], m, _, _, h => by
  have e : m = [] := List.eq_nil_of_length_eq_zero (Nat.le_zero.mp h)
  rw [e]
 | x :: l, m, nd, sub, h => by
  rw [List.nodup_cons] at nd
  have hx := sub x List.mem_cons_self
  have pm := List.perm_cons_erase hx
  refine pm.trans (List.Perm.cons x (xT nd.2 (fun y hy => ?_) ?_))
  ·have hy' := sub y (List.mem_cons_of_mem _ hy)
   exact (List.mem_erase_of_ne (show y ≠ x from fun z => nd.1 (z ▸ hy))).mpr hy'
  ·have := pm.length_eq
   rw [List.length_cons] at this h
   omega
theorem u9 (val : Nat -> Int) : ∀ i, (firstMet val i).Nodup
 | 0 => List.nodup_nil
 | i + 1 => by
  rw [firstMet_succ]
  unfold step_dedup
  have ih := u9 val i
  by_cases h : (firstMet val i).any (· == val i) = true
  ·rw [if_pos h]
   exact ih
  ·rw [if_neg h, List.nodup_append]
   refine ⟨ih, by simp, fun x hx y hy e => h ?_⟩
   rw [List.any_eq_true]
   refine ⟨x, hx, ?_⟩
   have e2 := List.mem_singleton.mp hy
   rw [e, e2, beq_self_eq_true]
theorem Bo (val : Nat -> Int) (i : Nat) (k : Int) : k ∈ firstMet val i ↔ ∃ j, j < i /\ val j = k := by
 have h := firstMet_any val i k
 rw [Bool.eq_iff_iff, List.any_eq_true, List.any_eq_true] at h
 constructor
 ·intro z
  obtain ⟨x, hx, e⟩ := h.mp ⟨k, z, by simp⟩
  obtain ⟨j, hj, ej⟩ := List.mem_map.mp hx
  exact ⟨j, List.mem_range.mp hj, by rw [ej]; simpa using e⟩
 ·rintro ⟨j, hj, e⟩
  obtain ⟨x, hx, e2⟩ := h.mpr ⟨val j, List.mem_map.mpr ⟨j, List.mem_range.mpr hj, rfl⟩, by simp [e]⟩
  have : x = k := by simpa using e2
  rw [← this]
  exact hx
section
variable {prog : Program} {w : World} {A : Around} {E : Value -> Shared -> Prop} {s : Shared} {a : Addr} {o : Obj} {es : Array (Int × Value)} {ep : Nat} {t : SetTable}
theorem yp : ∀ {l : List (Int × Value)}, ElemsOf (intKind prog w) l -> ∃ ns, IntsAre (l.map (·.2)) ns /\ ∀ k, k ∈ ns ↔ ∃ e ∈ l, (intKind prog w).is k e.2 = true
 | [], _ => ⟨[], .nil, fun k => by simp⟩
 | e :: l, h => by
  obtain ⟨ns, h1, h2⟩ := yp h.tail
  obtain ⟨⟨k, hk, _⟩, _⟩ := h.head
  obtain ⟨t, et⟩ := Value.isInt_shape (k := k) (v := e.2) hk
  refine ⟨k :: ns, ?_, fun j => ?_⟩
  ·rw [List.map_cons, et]
   exact .cons k t h1
  ·rw [List.mem_cons, h2 j]
   constructor
   ·rintro (z | ⟨e', he, q⟩)
    ·exact ⟨e, List.mem_cons_self, by rw [z]; exact hk⟩
    ·exact ⟨e', List.mem_cons_of_mem _ he, q⟩
   ·rintro ⟨e', he, q⟩
    rcases List.mem_cons.mp he with z | z
    ·rw [z] at q
     exact .inl ((intKind prog w).inj e.2 j k q hk)
    ·exact .inr ⟨e', z, q⟩
theorem IK {vs us : List Value} {ns : List Int} (pm : vs.Perm us) (h : IntsAre us ns) : ∃ ms, IntsAre vs ms /\ ms.Perm ns := by
 induction pm generalizing ns with
 | nil => exact ⟨ns, h, .refl _⟩
 | cons x p ih =>
  cases h with
  | cons n t hr =>
   obtain ⟨ms, h1, h2⟩ := ih hr
   exact ⟨n :: ms, .cons n t h1, h2.cons n⟩
 | swap x y l =>
  cases h with
  | cons n t hr =>
   cases hr with
   | cons m u hr => exact ⟨_, .cons m u (.cons n t hr), List.Perm.swap ..⟩
 | trans p q ih1 ih2 =>
  obtain ⟨ms, h1, h2⟩ := ih2 h
  obtain ⟨ks, h3, h4⟩ := ih1 h1
  exact ⟨ks, h3, h4.trans h2⟩
theorem Lf {Q : Bool -> Shared -> Prop} (hT : s.TypeIs (.ref a) "set") (h : Q false s) : wpAny (model prog w) A (Builtin.List.listLengthHint (.ref a)) Q E s := by
 unfold Builtin.List.listLengthHint
 refine wpAny_bind (wpAny_specialOf hT PySem.F.slot_set_len.lookup ?_)
 generalize hid : ("set.__len__" : String) = id0
 wp_delta
 rw [show splitId id0 = some ("set", "__len__") from by subst hid; decide +kernel]
 subst hid
 refine wpAny_bind (wpAny_isInstance (T := "set") (b := true) hT (by rw [isSubtype_type]; kernel_rfl) ?_)
 refine wpAny_ite_split (fun z => absurd z (by decide)) (fun _ => ?_)
 refine wpAny_ite_split (fun _ => ?_) (fun z => absurd (by decide +kernel) z)
 exact wpAny_bind (wpAny_typeOf hT (wpAny_pure h))
theorem DG {S : Int -> Bool} {n : Nat} {R : List Value -> Shared -> Prop} (hh : A.handled = none) (x : SetI prog w s.heap a S n)
  (h : ∀ (h' : Heap) (d' : Drawn) (tk : Nat) (vs : List Value) (ns : List Int), (∀ b o, s.heap.get? b = some o -> h'.get? b = some o) -> IntsAre vs ns -> ns.length = n -> (∀ k, k ∈ ns ↔ S k = true) -> R vs { s with heap := h', drawn := d', toks := tk }) :
  wpAny (model prog w) A (collect (.ref a)) R E s := by
 obtain ⟨o, es, ep, t, ho, hx, hd, he, hm, hb, hf, hn, tb⟩ := x
 have la := Heap.lt_size ho
 unfold collect
 refine wpAny_bind (wpAny_runValue (codeAny_builtin entry_proto_collect' ?_))
 rw [Around.under_plainId PySem.F.plain_proto_collect _]
 show wpAny _ A.in1 (newList [] >>= fun l => again (.builtin "list.__iadd__" ⟨[l, .ref a], []⟩)) _ _ s
 refine wpAny_bind (wpAny_newObj_type (wpAny_pure ⟨plainId_quiet PySem.F.plain_list_iadd _, codeAny_builtin entry_list_iadd' ?_⟩))
 rw [Around.under_plainId PySem.F.plain_list_iadd _]
 have hS1 : (s.heap.push { cls := .type "list", data := .seq ([] : List Value).toArray }).get? s.heap.objs.size = some { cls := .type "list", data := .seq #[] } := Heap.get?_push_size _ rfl
 have ho1 : (s.heap.push { cls := .type "list", data := .seq ([] : List Value).toArray }).get? a = some o := Heap.get?_push_of_some _ ho
 have sz1 : (s.heap.push { cls := .type "list", data := .seq ([] : List Value).toArray }).objs.size = s.heap.objs.size + 1 := Heap.size_push ..
 have kp1 : ∀ b ob, s.heap.get? b = some ob -> (s.heap.push { cls := .type "list", data := .seq ([] : List Value).toArray }).get? b = some ob := fun b ob e => Heap.get?_push_of_some _ e
 show wpAny _ A.in1 (Builtin.List.listExtendWith (.ref s.heap.objs.size) (.ref a) (.ref s.heap.objs.size)) _ _ _
 generalize s.heap.push { cls := .type "list", data := .seq ([] : List Value).toArray } = H1 at hS1 ho1 sz1 kp1 ⊢
 unfold Builtin.List.listExtendWith
 refine wpAny_bind (wpAny_typeOf (T := "set") ⟨o, ho1, hx.1⟩ ?_)
 have n1 : Builtin.List.listSameRef (.ref s.heap.objs.size) (.ref a) = false := by simp [Builtin.List.listSameRef, Nat.ne_of_gt la]
 have n2 : (Value.type "set" == Value.type "list") = false := by decide
 have n3 : (Value.type "set" == Value.type "tuple") = false := by decide
 simp only [n1, n2, n3, Bool.or_false, Bool.false_eq_true, if_false]
 refine wpAny_bind (Ln (s := { s with heap := H1 }) (A := A.in1) hh ho1 hx hd hf hb tb fun h2 d2 I fp vs St k2 lI fpk pm W st => ?_)
 refine wpAny_bind (wpAny_holding (Lf (s := { s with heap := h2, drawn := d2 }) ⟨o, k2 _ _ ho1, hx.1⟩ ?_))
 have hS2 := k2 _ _ hS1
 have nf : s.heap.objs.size ∉ fp := fun z => by
  rcases fpk _ z with q | q
  ·exact absurd la (by rw [← q]; exact Nat.lt_irrefl _)
  ·rw [sz1] at q
   exact absurd q (Nat.not_succ_le_self _)
 have hlen : vs.length = n := by rw [pm.length_eq, List.length_map, Array.length_toList, hn]
 have nz : vs.length <= sizeLine := by rw [hlen, ← hn]; exact fits_of_scanBound hb
 refine wpAny_ite_split (fun _ => ?_) (fun z => absurd (by decide) z)
 refine wpAny_bind (wpAny_rule (wpAny_bind ?_))
 show wpAny _ _ (updateSeq s.heap.objs.size (·.push .none) >>= fun _ => updateSeq s.heap.objs.size (·.pop)) _ _ _
 refine wpAny_bind (wpAny_updateSeq hS2 rfl ?_)
 have hS3 := Heap.get?_update_self (Obj.mapSeq (·.push Value.none)) hS2 rfl
 refine wpAny_updateSeq (hz := by seq_fits) hS3 rfl ?_
 have hS4 := Heap.get?_update_self (Obj.mapSeq (·.pop)) hS3 rfl
 have oth : ∀ b ob, b ≠ s.heap.objs.size -> h2.get? b = some ob -> ((h2.update s.heap.objs.size (Obj.mapSeq (·.push Value.none))).update s.heap.objs.size (Obj.mapSeq (·.pop))).get? b = some ob := fun b ob nb e => (Heap.get?_update_other _ _ (Ne.symm nb)).trans ((Heap.get?_update_other _ _ (Ne.symm nb)).trans e)
 refine wpAny_pure ⟨plainId_quiet PySem.F.plain_extend_loop _, codeAny_extend_loopS (W A.in1 hh).toS nz _ nf _ vs.length 0 _ #[] _ rfl (Nat.zero_le _) ((W A.in1 hh).frame 0 _ _ st fun b hb ob e => oth b ob (fun z => nf (z ▸ hb)) e) hS4 (ItemsOf.nil _) fun s' acc c' hmv hS' hacc => ?_⟩
 show wpAny _ A (load s.heap.objs.size >>= _) _ _ s'
 refine wpAny_bind (wpAny_load hS' ?_)
 have ea : acc.toList = vs := by
  apply List.ext_getElem?
  intro j
  rw [Array.getElem?_toList]
  by_cases hj : j < acc.size
  ·rw [Array.getElem?_eq_getElem hj]
   exact (hacc.2 j _ (Array.getElem?_eq_getElem hj)).symm
  ·rw [Array.getElem?_eq_none (by omega), List.getElem?_eq_none (by rw [← hacc.1]; omega)]
 obtain ⟨ns0, q1, q2⟩ := yp he
 obtain ⟨ns, q3, q4⟩ := IK pm q1
 have ln : ns.length = n := by rw [← q3.length, hlen]
 have := h s'.heap s'.drawn s'.toks vs ns (fun b ob e => hmv.heap b ob (fun z => ?_) (oth b ob (Nat.ne_of_lt (Heap.lt_size e)) (k2 b ob (kp1 b ob e)))) q3 ln (fun k => by rw [q4.mem_iff, q2 k, hm k])
 ·obtain ⟨h', g', d', t', os'⟩ := s'
  have eg : g' = s.gens := hmv.gens
  have eo : os' = s.os := hmv.os
  subst eg eo
  show wpAny _ A (pure acc.toList) _ _ _
  rw [ea]
  exact wpAny_pure this
 ·have l1 := Heap.lt_size e
  rcases List.mem_cons.mp z with z | z
  ·rw [z] at l1
   exact Nat.lt_irrefl _ l1
  ·rw [List.mem_singleton.mp z] at l1
   have q : H1.objs.size <= I := lI
   rw [sz1] at q
   exact absurd l1 (Nat.not_lt.mpr (Nat.le_trans (Nat.le_succ _) q))
end
end GX
namespace L2
open PySem PySem.Spec PyProof.Rows
def Ls (P : Program) (w : World) (a : Addr) (ks : List Int) : HO := .ext fun h => GX.SetI P w h a (fun k => ks.any (· == k)) ks.length
section
variable {X : Cx}
theorem Inv.draw {pins : List (Addr × Obj)} {σ : St} {H : Hp} {s : Shared} (I : Inv X pins σ H s) (d : Drawn) : Inv X pins σ H { s with drawn := d } := ⟨I.ok, I.os, I.bare, I.base, I.loc, I.cell, I.free, I.freeC, I.pin, I.hok, I.len⟩
theorem zA (hc : X.calm = true) : fK X (.type "set") (fun xs H Q => ∃ (p : Addr) (ns : List Int), xs = [.ref p] /\ SqL X.K H p (ns.map V.int) /\ ns.length <= 1000 /\ ∀ (q : Addr) (ks : List Int), H q = none -> ks.Nodup -> (∀ k, k ∈ ks ↔ k ∈ ns) -> Q (.ref q) (upd H q (Ls X.prog X.w q ks))) := by
 intro pins s σ H xs us Q I r h
 obtain ⟨p, ns, rfl, hq, hz, q⟩ := h
 obtain ⟨u, rfl, rx⟩ := vals1 r
 cases rx
 obtain ⟨its, rv, pl, hzz⟩ := I.list hq
 have hi : IntsAre its ns := intsAre_of rv
 have hl : its.length = ns.length := hi.length
 refine GX.Cm (items := its.toArray) (ns := ns) (I.ok.hd hc) pl.isList (by simpa using hi) (by rw [List.size_toArray, hl]; unfold scanBound; omega) fun h' tk x kp => ?_
 have sz : its.toArray.size = ns.length := by rw [List.size_toArray, hl]
 rw [sz] at x
 have new : ObjOk X.prog X.w (upd H s.heap.objs.size (Ls X.prog X.w s.heap.objs.size (firstMet (fun i => ns.getD i 0) ns.length))) h' s.heap.objs.size (Ls X.prog X.w s.heap.objs.size (firstMet (fun i => ns.getD i 0) ns.length)) := by
  refine ⟨x, ?_, fun h1 h2 y k => y.at k⟩
  obtain ⟨o, _, _, _, ho, _⟩ := x
  exact ⟨o, ho⟩
 refine ⟨.ref s.heap.objs.size, _, I.laid (t' := tk) kp (Nat.le_refl _) new, rfl, q _ _ (I.hok.fresh (Nat.le_refl _)) (GX.u9 _ _) fun k => ?_⟩
 rw [GX.Bo]
 constructor
 ·rintro ⟨j, hj, e⟩
  rw [List.getD_eq_getElem?_getD, List.getElem?_eq_getElem hj] at e
  have e' : ns[j] = k := e
  rw [← e']
  exact List.getElem_mem hj
 ·intro hk
  obtain ⟨j, hj, e⟩ := List.getElem_of_mem hk
  refine ⟨j, hj, ?_⟩
  rw [List.getD_eq_getElem?_getD, List.getElem?_eq_getElem hj]
  exact e
theorem tR (hc : X.calm = true) : fK X (.builtin "sorted") (fun xs H Q => ∃ (a : Addr) (ks : List Int), xs = [.ref a] /\ H a = some (Ls X.prog X.w a ks) /\ ks.Nodup /\ ks.length < 64 /\ ∀ (l : Addr) (ns : List Int), H l = none -> ns.Perm ks -> ns.Pairwise (· <= ·) -> Q (.ref l) (upd H l (.lst (ns.map V.int)))) := by
 intro pins s σ H xs us Q I r h
 obtain ⟨a, ks, rfl, ha, nd, hlen, q⟩ := h
 obtain ⟨u, rfl, rx⟩ := vals1 r
 cases rx
 have x : GX.SetI X.prog X.w s.heap a (fun k => ks.any (· == k)) ks.length := (I.hok a _ ha).1
 refine Calls.call_function_entry kind_sorted plain_sorted entry_sorted (args_sorted1 _) ?_
 unfold Builtin.«sorted»
 refine wpAny_bind (m := checkCount "sorted" 1 1 _) (wpAny_pure ?_)
 refine wpAny_bind (GX.DG (A := X.A.in1) (I.ok.hd hc) x fun h' d' tk vs ns hk hi hl hm => ?_)
 have pm : ns.Perm ks := GX.xT nd (fun k hk => (hm k).mpr (List.any_eq_true.mpr ⟨k, hk, by simp⟩)) (Nat.le_of_eq hl)
 have hv : vs.length = ks.length := by rw [hi.length, hl]
 have I1 : Inv X pins σ H { s with heap := h', drawn := d', toks := tk } := (I.draw d').kept (t' := tk) hk
 refine zu (s := { s with heap := h', drawn := d', toks := tk }) hi (by rw [hv]; exact hlen) (by rw [hv]; exact Nat.le_of_lt (aJ (by omega))) fun h2 out ns' e k2 he a1 a2 a3 => ?_
 have ln : ns'.length <= sizeLine := by rw [a2.length_eq, hl]; exact Nat.le_of_lt (aJ (by omega))
 exact ⟨.ref h'.objs.size, _, I1.lay_ints (tk := tk) k2 he a1 ln, rfl, q _ ns' (I1.hok.fresh (Nat.le_refl _)) (a2.trans pm) a3⟩
theorem GF (hc : X.calm = true) : fK X (.type "list") (fun xs H Q => ∃ (d : Addr) (m : List (Int × Int)), xs = [.ref d] /\ Rd H d (.dK (dI m)) /\ m.length <= 1000 /\ ∀ (l : Addr), H l = none -> Q (.ref l) (upd H l (.lst ((m.map (·.1)).map V.int)))) := by
 intro pins s σ H xs us Q I r h
 obtain ⟨d, m, rfl, hd, hlen, q⟩ := h
 obtain ⟨u, rfl, rx⟩ := vals1 r
 cases rx
 obtain ⟨z, hS, vs, rel, dd⟩ := ul I.hok hd
 obtain ⟨ep, hat⟩ := dd.dictAt
 have hl : vs.length = m.length := by rw [← rel.length, BJ]
 refine PySem.W.kdl_call (A := X.A) (PySem.W.kdl_dict (knd := bL X.prog X.w) (kvs := vs) (ep := ep) hS) (I.ok.hd hc) hat (by rw [hl]; exact Nat.le_of_lt (aJ (by omega))) fun h' tk acc c hk he hacc => ?_
 have hi : IntsAre acc.toList (m.map (·.1)) := uK (P := X.prog) (w := X.w) rel (by rw [Array.length_toList]; exact hacc.1) fun j v e => hacc.2 j v (by rw [← Array.getElem?_toList]; exact e)
 exact ⟨.ref s.heap.objs.size, _, I.lay_ints (tk := tk) (e := c) hk he hi (by rw [List.length_map]; exact Nat.le_of_lt (aJ (by omega))), rfl, q _ (I.hok.fresh (Nat.le_refl _))⟩
end
end L2
namespace GX
open PySem PyProof.Rows
section
variable {prog : Program} {w : World} {A : Around} {E : Value -> Shared -> Prop} {s : Shared} {I : Addr} {fp wr : List Addr} {N : Nat} {P : Nat -> Value -> Prop} {St : Nat -> Heap -> Prop}
end
end GX
namespace L2
open PySem PySem.Spec PyProof.Rows
section
variable {X : Cx}
abbrev Dcs (H : Hp) : List V -> List (List (Int × Int)) -> Prop := Paired fun x m => ∃ d, x = .ref d /\ Rd H d (.dK (dI m))
theorem Dcs.get {H : Hp} : ∀ {xs : List V} {ms : List (List (Int × Int))} {i : Nat} {x : V}, Dcs H xs ms -> xs[i]? = some x -> ∃ m, ms[i]? = some m /\ ∃ d, x = .ref d /\ Rd H d (.dK (dI m))
 | _, _, _, _, .nil, e => by simp at e
 | _, _, 0, _, .cons r _, e => by simp at e; subst e; exact ⟨_, rfl, r⟩
 | _, _, i + 1, x, .cons _ t, e => by
  obtain ⟨p, h1, h2⟩ := Dcs.get (i := i) (x := x) t (by simpa using e)
  exact ⟨p, by simpa using h1, h2⟩
end
end L2
namespace L2
open PySem PySem.Spec PyProof.Rows
section
variable {X : Cx}
end
end L2
namespace L2
open PySem PySem.Spec PyProof.Rows
mutual
inductive Dp (K : PySem.W.Frag) (H : Hp) : V -> PyData -> Prop
 | none : Dp K H .non .none
 | bool (b : Bool) : Dp K H (.bl b) (.bool b)
 | int (i : Int) : Dp K H (.int i) (.int i)
 | str (x : Str) : Dp K H (.str x) (.str x)
 | tup {a : Addr} {xs : List V} {ds : List PyData} : SqT K H a xs -> Dps K H xs ds -> Dp K H (.ref a) (.tuple ds)
inductive Dps (K : PySem.W.Frag) (H : Hp) : List V -> List PyData -> Prop
 | nil : Dps K H [] []
 | cons {x : V} {xs : List V} {d : PyData} {ds : List PyData} : Dp K H x d -> Dps K H xs ds -> Dps K H (x :: xs) (d :: ds)
end
def SmT (K : PySem.W.Frag) (H H' : Hp) : Prop := ∀ a xs, SqT K H a xs -> SqT K H' a xs
theorem SmT.same {K : PySem.W.Frag} {H H' : Hp} (e : Same H H') : SmT K H H' := by
 rintro a xs ((h | ⟨o, h⟩) | h)
 ·exact .inl (.inl (e _ _ h))
 ·exact .inl (.inr ⟨o, e _ _ h⟩)
 ·exact .inr h
section
variable {X : Cx} {pins : List (Addr × Obj)} {σ : St} {H : Hp} {s : Shared}
mutual
theorem Dp.reads (I : Inv X pins σ H s) : ∀ {x : V} {d : PyData} {u : Value}, Dp X.K H x d -> RelV x u -> ∃ as, Reads s.heap u d as
 | _, _, _, .none, r => by cases r; exact ⟨_, .none⟩
 | _, _, _, .bool b, r => by cases r; exact ⟨_, .bool b⟩
 | _, _, _, .int i, r => by obtain ⟨t, rfl⟩ := r; exact ⟨_, .int i t⟩
 | _, _, _, .str z, r => by obtain ⟨t, rfl⟩ := r; exact ⟨_, .str z t⟩
 | _, _, _, .tup h t, r => by
  cases r
  obtain ⟨its, rv, ⟨o, e, c, n, dd⟩, _⟩ := I.tuple h
  obtain ⟨as, q⟩ := Dps.reads I t rv
  exact ⟨_, .tuple e c dd (by simpa using q)⟩
theorem Dps.reads (I : Inv X pins σ H s) : ∀ {xs : List V} {ds : List PyData} {us : List Value}, Dps X.K H xs ds -> Vals xs us -> ∃ as, ReadsAll s.heap us ds as
 | _, _, _, .nil, r => by cases r; exact ⟨_, .nil⟩
 | _, _, _, .cons h t, r => by
  cases r with
  | cons r1 r2 =>
   obtain ⟨as, q⟩ := Dp.reads I h r1
   obtain ⟨bs, q2⟩ := Dps.reads I t r2
   exact ⟨_, .cons q q2⟩
end
def Dl (K : PySem.W.Frag) (H : Hp) (x : V) (d : PyData) : Prop := Dp K H x d ∨ ∃ a xs ds, x = .ref a /\ d = .list ds /\ SqL K H a xs /\ Dps K H xs ds
theorem Dl.reads (I : Inv X pins σ H s) {x : V} {d : PyData} {u : Value} (h : Dl X.K H x d) (r : RelV x u) : ∃ as, Reads s.heap u d as := by
 rcases h with h | ⟨a, xs, ds, rfl, rfl, h, t⟩
 ·exact Dp.reads I h r
 ·cases r
  obtain ⟨its, rv, ⟨o, n, e, c, _, dd⟩, _⟩ := I.list h
  obtain ⟨as, q⟩ := Dps.reads I t rv
  exact ⟨_, .list e c dd (by simpa using q)⟩
def Pg (K : PySem.W.Frag) : R2 := fun x y H Q => ∃ d e, Dl K H x d /\ Dl K H y e /\ d.canLay0 = true /\ e.canLay0 = true /\ min d.depth e.depth <= 60 /\ Q (.bl (d.eqv e)) H
def Ug (K : PySem.W.Frag) : R2 := fun x y H Q => ∃ d e, Dl K H x d /\ Dl K H y e /\ d.canLay0 = true /\ e.canLay0 = true /\ min d.depth e.depth <= 60 /\ Q (.bl (!d.eqv e)) H
theorem PB (hu : X.A.units + 64 < cLine) : OpR X (compareOp .Eq) (Pg X.K) := by
 intro pins s σ H x y v u Q I rx ry h
 obtain ⟨d, e, h1, h2, c1, c2, dp, q⟩ := h
 obtain ⟨as, r1⟩ := h1.reads I rx
 obtain ⟨bs, r2⟩ := h2.reads I ry
 exact SeqAt.compareEq_reads r1 r2 c1 c2 (by omega) ⟨.bl _, H, I, rfl, q⟩
theorem Od (hu : X.A.units + 64 < cLine) : OpR X (compareOp .NotEq) (Ug X.K) := by
 intro pins s σ H x y v u Q I rx ry h
 obtain ⟨d, e, h1, h2, c1, c2, dp, q⟩ := h
 obtain ⟨as, r1⟩ := h1.reads I rx
 obtain ⟨bs, r2⟩ := h2.reads I ry
 exact SeqAt.compareNe_reads r1 r2 c1 c2 (by omega) ⟨.bl _, H, I, rfl, q⟩
def K7 (K : PySem.W.Frag) (neg : Bool) : R2 := fun x y H Q => ∃ a xs ds d, y = .ref a /\ (SqL K H a xs ∨ SqT K H a xs) /\ Dps K H xs ds /\ Dp K H x d /\ PyData.canLayAll0 ds = true /\ d.canLay0 = true /\ d.depth <= 60 /\ Q (.bl (if neg then !(ds.any fun z => z.eqv d) else ds.any fun z => z.eqv d)) H
theorem Ww (hu : X.A.units + 64 < cLine) : OpR X (compareOp .In) (K7 X.K false) := by
 intro pins s σ H x y v u Q I rx ry h
 obtain ⟨a, xs, ds, d, rfl, hs, hd, hx, c1, c2, dp, q⟩ := h
 obtain ⟨bs, r2⟩ := hx.reads I rx
 cases ry
 rcases hs with hs | hs
 ·obtain ⟨as, r1⟩ := Dl.reads I (x := .ref a) (u := .ref a) (.inr ⟨a, xs, ds, rfl, rfl, hs, hd⟩) rfl
  exact SeqAt.in_list_reads r1 r2 c1 c2 (by omega) ⟨.bl _, H, I, rfl, q⟩
 ·obtain ⟨as, r1⟩ := Dp.reads I (x := .ref a) (u := .ref a) (.tup hs hd) rfl
  exact SeqAt.in_tuple_reads r1 r2 c1 c2 (by omega) ⟨.bl _, H, I, rfl, q⟩
theorem Jr (hu : X.A.units + 64 < cLine) : OpR X (compareOp .NotIn) (K7 X.K true) := by
 intro pins s σ H x y v u Q I rx ry h
 obtain ⟨a, xs, ds, d, rfl, hs, hd, hx, c1, c2, dp, q⟩ := h
 obtain ⟨bs, r2⟩ := hx.reads I rx
 cases ry
 rcases hs with hs | hs
 ·obtain ⟨as, r1⟩ := Dl.reads I (x := .ref a) (u := .ref a) (.inr ⟨a, xs, ds, rfl, rfl, hs, hd⟩) rfl
  exact SeqAt.notIn_list_reads r1 r2 c1 c2 (by omega) ⟨.bl _, H, I, rfl, q⟩
 ·obtain ⟨as, r1⟩ := Dp.reads I (x := .ref a) (u := .ref a) (.tup hs hd) rfl
  exact SeqAt.notIn_tuple_reads r1 r2 c1 c2 (by omega) ⟨.bl _, H, I, rfl, q⟩
end
theorem JN {K : PySem.W.Frag} {x y : V} {H : Hp} {Q : VK} {d : PyData} (h1 : Dl K H x d) (h2 : Dl K H y d) (c : d.canLay0 = true) (dp : d.depth <= 60) (q : Q (.bl true) H) : Pg K x y H Q :=
 ⟨d, d, h1, h2, c, c, by omega, by rw [SeqAt.eqv_refl d c]; exact q⟩
theorem uP {K : PySem.W.Frag} {x y : V} {H : Hp} {Q : VK} {d : PyData} (h1 : Dl K H x d) (h2 : Dl K H y d) (c : d.canLay0 = true) (dp : d.depth <= 60) (q : Q (.bl false) H) : Ug K x y H Q :=
 ⟨d, d, h1, h2, c, c, by omega, by rw [SeqAt.eqv_refl d c]; exact q⟩
end L2
namespace L2
open PySem PySem.Spec PyProof.Rows
theorem aH {H : Hp} {l : Addr} {o : HO} (h : H l = none) : Same H (upd H l o) := fun b u e => by rw [aL (aC e h)]; exact e
def But (d : Addr) (H H' : Hp) : Prop := ∀ b, b ≠ d -> H' b = H b
theorem But.upd {d : Addr} {H : Hp} {o : HO} : But d H (L2.upd H d o) := fun b h => aL h
theorem But.same {d : Addr} {B H H' : Hp} (e : But d H H') (s : Same B H) (h : B d = none) : Same B H' := fun b o hb => by rw [e b (aC hb h)]; exact s b o hb
theorem But.at {d b : Addr} {H H' : Hp} {o : Option HO} (e : But d H H') (n : b ≠ d) (h : H b = o) : H' b = o := by rw [e b n]; exact h
theorem But.of {d b : Addr} {H H' : Hp} {o u : HO} (e : But d H H') (hd : H d = some u) (h : H b = some o) (n : o ≠ u) : H' b = some o := e.at (nP h hd n) h
def nwT (xs : List V) (H : Hp) (Q : VK) : Prop := xs.length <= sizeLine /\ ∀ p, H p = none -> Q (.ref p) (upd H p (.tup xs))
def nwL (xs : List V) (H : Hp) (Q : VK) : Prop := xs.length <= sizeLine /\ ∀ p, H p = none -> Q (.ref p) (upd H p (.lst xs))
section
variable {D : Ends} {σ : St} {H : Hp} {Q : VK} {K : PySem.W.Frag}
theorem QS {t u : TS} (h : t { D with nx := u D } σ H) : xj t u D σ H := h
theorem Sy {te : TE} {g : TG} {u : TS} (h : te σ H fun x H1 => g x σ H1 (u D)) : xj (J5 te g) u D σ H := h
theorem Tf {te : TE} {u : TS} (h : te σ H fun _ H1 => u D σ H1) : xj (Kd te) u D σ H := h
theorem RC {td ty tv : TE} {u : TS} (h : Ho td ty tv { D with nx := u D } σ H) : xj (Ho td ty tv) u D σ H := h
theorem Uv {wi : TI} {g : TG} {tb u : TS} (h : Om wi g tb { D with nx := u D } σ H) : xj (Om wi g tb) u D σ H := h
theorem Rj {c : TT} {tb u : TS} (h : Gp c tb { D with nx := u D } σ H) : xj (Gp c tb) u D σ H := h
theorem RN {ta tv : TE} {f : Str} {u : TS} (h : KR K ta tv f { D with nx := u D } σ H) : xj (KR K ta tv f) u D σ H := h
theorem T7 {c : TT} {te : TE} {u : TS} (h : c σ H fun b H1 => if b = true then te σ H1 D.rt else u D σ H1) : xj (Qm c (Sq te) Io) u D σ H := h
theorem K3 (I : St -> Hp -> Prop) {t u : TS} (h2 : ∀ σ' H', I σ' H' -> u D σ' H') (h : ∀ N : St -> Hp -> Prop, (∀ σ' H', I σ' H' -> N σ' H') -> t { D with nx := N } σ H) : xj t u D σ H := h _ h2
theorem RB (h : D.nx σ H) : Io D σ H := h
theorem UT {te : TE} (h : te σ H D.rt) : Sq te D σ H := h
theorem T6 {te : TE} (h : te σ H fun _ H1 => D.nx σ H1) : Kd te D σ H := h
theorem VL {te : TE} {g : TG} (h : te σ H fun x H1 => g x σ H1 D.nx) : J5 te g D σ H := h
theorem Wj {c : TT} {t u : TS} (h : c σ H fun b H1 => if b = true then t D σ H1 else u D σ H1) : Qm c t u D σ H := h
theorem Sd {i : Nat} {v : V} {R : St -> Hp -> Prop} (h : R (σ.set i (some v)) H) : yl i v σ H R := h
theorem Sg {R : St -> Hp -> Prop} (h : R σ H) : Tp [] σ H R := ⟨rfl, h⟩
theorem O5 {t : TG} {u : TGs} {v : V} {r : List V} {R : St -> Hp -> Prop} (h : t v σ H fun σ' H' => u r σ' H' R) : Ht t u (v :: r) σ H R := ⟨v, r, rfl, h⟩
theorem Ri {n : Nat} {t : TGs} {a : Addr} {xs : List V} {R : St -> Hp -> Prop} (h1 : SqT K H a xs) (h2 : xs.length = n) (h : t xs σ H R) : O3 K n t (.ref a) σ H R := ⟨a, xs, rfl, h1, h2, h⟩
theorem UV {i : Nat} {v : V} (h1 : σ[i]? = some (some v)) (h : Q v H) : JF i σ H Q := ⟨v, h1, h⟩
theorem x_c {v : V} (h : Q v H) : tC v σ H Q := h
theorem WT {r : R2} {ta tb : TE} (h : ta σ H fun x H1 => tb σ H1 fun y H2 => r x y H2 Q) : tOp r ta tb σ H Q := h
theorem WK {r : V -> Hp -> VK -> Prop} {ta : TE} (h : ta σ H fun x H1 => r x H1 Q) : tUn r ta σ H Q := h
theorem WW {g : Int -> Int -> V} {i j : Int} (h : Q (g i j) H) : rI0 g (.int i) (.int j) H Q := ⟨i, j, rfl, rfl, h⟩
theorem x_I {C : Int -> Int -> Prop} {g : Int -> Int -> V} {i j : Int} (hc : C i j) (h : Q (g i j) H) : rI C g (.int i) (.int j) H Q := ⟨i, j, rfl, rfl, hc, h⟩
theorem x_U {g : Int -> V} {i : Int} (h : Q (g i) H) : rU g (.int i) H Q := ⟨i, rfl, h⟩
theorem Vz (i j : Int) : decide (V.int i = V.int j) = decide (i = j) := by
 by_cases h : i = j
 ·subst h; rw [decide_eq_true rfl, decide_eq_true rfl]
 ·rw [decide_eq_false h, decide_eq_false (fun e => h (V.int.inj e))]
theorem U5 (i j : Str) : decide (V.str i = V.str j) = decide (i = j) := by
 by_cases h : i = j
 ·subst h; rw [decide_eq_true rfl, decide_eq_true rfl]
 ·rw [decide_eq_false h, decide_eq_false (fun e => h (V.str.inj e))]
theorem Vb {i j : Int} (h : Q (.bl (decide (i = j))) H) : rEq (.int i) (.int j) H Q := ⟨rfl, by rw [Vz]; exact h⟩
theorem Vs {i j : Int} (h : Q (.bl (!decide (i = j))) H) : rNe (.int i) (.int j) H Q := ⟨rfl, by rw [Vz]; exact h⟩
theorem U3 {i j : Str} (h : Q (.bl (decide (i = j))) H) : rEq (.str i) (.str j) H Q := ⟨rfl, by rw [U5]; exact h⟩
theorem Vr {i j : Str} (h : Q (.bl (!decide (i = j))) H) : rNe (.str i) (.str j) H Q := ⟨rfl, by rw [U5]; exact h⟩
theorem Tw {t : TE} {R : Bool -> Hp -> Prop} (h : t σ H fun x H' => ∃ k, x = .bl k /\ R k H') : JW t σ H R := h
theorem VR {t : TE} {R : Bool -> Hp -> Prop} (h : t σ H fun x H' => ∃ k, LK K x H' k /\ R k H') : VM K t σ H R := h
theorem x_b {t : TE} {R : Bool -> Hp -> Prop} (h : t σ H fun x H' => ∃ k, x = .bl k /\ R k H') : tB t σ H R := h
theorem Tu {c : Bool} {P : Bool -> Prop} (h : P c) : ∃ k, V.bl c = .bl k /\ P k := ⟨c, rfl, h⟩
theorem Qt {c : Bool} {P : Bool -> Prop} (h : P c) : ∃ k, LK K (.bl c) H k /\ P k := ⟨c, rfl, h⟩
theorem Vf {t u : TT} {R : Bool -> Hp -> Prop} (h : t σ H fun c H1 => if c = true then u σ H1 R else R false H1) : Wl t u σ H R := h
theorem WP {t u : TT} {R : Bool -> Hp -> Prop} (h : t σ H fun c H1 => if c = true then R true H1 else u σ H1 R) : tOr t u σ H R := h
theorem V7 {t : TT} {R : Bool -> Hp -> Prop} (h : t σ H fun c H1 => R (!c) H1) : Vv t σ H R := h
theorem RT {ta tb : TE} (h : ta σ H fun x H1 => ∃ c, x = .bl c /\ if c = true then tb σ H1 Q else Q (.bl false) H1) : QJ ta tb σ H Q := h
theorem U6 {ta tb : TE} (h : ta σ H fun x H1 => ∃ c, x = .bl c /\ if c = true then Q (.bl true) H1 else tb σ H1 Q) : Vh ta tb σ H Q := h
theorem Ur {ta : TE} (h : ta σ H fun x H1 => ∃ c, x = .bl c /\ Q (.bl (!c)) H1) : Q3 ta σ H Q := h
theorem V3 {t : TT} {ta tb : TE} (h : t σ H fun c H1 => if c = true then ta σ H1 Q else tb σ H1 Q) : tIf t ta tb σ H Q := h
theorem U0 {R : List V -> Hp -> Prop} (h : R [] H) : Ez σ H R := h
theorem Tj {ta : TE} {tr : TA} {R : List V -> Hp -> Prop} (h : ta σ H fun x H1 => tr σ H1 fun xs H2 => R (x :: xs) H2) : wK ta tr σ H R := h
theorem VV {t : TA} (h : t σ H fun xs H1 => nwT xs H1 Q) : Ux t σ H Q := h
theorem U7 {t : TA} (h : t σ H fun xs H1 => nwL xs H1 Q) : Wn t σ H Q := h
theorem Wo {xs : List V} (hl : xs.length <= sizeLine) (h : ∀ p H', H p = none -> Same H H' -> H' p = some (.tup xs) -> Q (.ref p) H') : nwT xs H Q := ⟨hl, fun p hp => h p _ hp (aH hp) aB⟩
theorem UG {xs : List V} (hl : xs.length <= sizeLine) (h : ∀ p H', H p = none -> Same H H' -> H' p = some (.lst xs) -> Q (.ref p) H') : nwL xs H Q := ⟨hl, fun p hp => h p _ hp (aH hp) aB⟩
theorem Rv (h : ∀ p H', H p = none -> Same H H' -> H' p = some (.dK (dI [])) -> Q (.ref p) H') : Ku σ H Q := fun p hp => h p _ hp (aH hp) aB
theorem x_call {sp : Sp} {dvs : List V} {E : XK} {t : TA} (h : t σ H fun vs H1 => sp (vs ++ dvs) H1 Q E) : Hx sp dvs E t σ H Q := h
theorem Wv {r : List V -> Hp -> VK -> Prop} {t : TA} (h : t σ H fun vs H1 => r vs H1 Q) : tCB r t σ H Q := h
theorem WN {r : V -> Option Int -> Option Int -> Hp -> VK -> Prop} {te : TE} {tl th : TO} (h : te σ H fun x H1 => tl σ H1 fun l H2 => th σ H2 fun u H3 => r x l u H3 Q) : tSl r te tl th σ H Q := h
theorem Nu {R : Option Int -> Hp -> Prop} (h : R none H) : HR σ H R := h
theorem Uw {t : TE} {R : Option Int -> Hp -> Prop} (h : t σ H fun x H1 => ∃ i, x = .int i /\ R (some i) H1) : QW t σ H R := h
theorem PX {c : Int} {P : Int -> Prop} (h : P c) : ∃ k, V.int c = .int k /\ P k := ⟨c, rfl, h⟩
theorem U8 {a : Addr} {xs : List V} {lo hi : Option Int} (h1 : SqL K H a xs) (h : ∀ p H', H p = none -> Same H H' -> H' p = some (.lst (jB xs lo hi)) -> Q (.ref p) H') : Ul K (.ref a) lo hi H Q := ⟨a, xs, rfl, h1, fun p hp => h p _ hp (aH hp) aB⟩
theorem Uz {a : Addr} {xs : List V} {i : Int} {v : V} (h1 : SqL K H a xs) (h2 : atI xs i = some v) (h : Q v H) : Qq K (.ref a) (.int i) H Q := ⟨a, xs, i, v, rfl, rfl, h1, h2, h⟩
theorem V5 {a : Addr} {xs : List V} {i : Int} {v : V} (h1 : SqT K H a xs) (h2 : atI xs i = some v) (h : Q v H) : Qy K (.ref a) (.int i) H Q := ⟨a, xs, i, v, rfl, rfl, h1, h2, h⟩
theorem Up {td ty : TE} (h : td σ H fun x H1 => ty σ H1 fun y H2 => ∃ a v, x = .ref a /\ DGet H2 a y (some v) /\ Q v H2) : Q0 td ty σ H Q := h
theorem Ry {d : Addr} {m : List (Int × Int)} {k n : Int} {P : V -> Prop} (hd : Rd H d (.dK (dI m))) (hk : lkI m k = some n) (h : P (.int n)) : ∃ a v, V.ref d = .ref a /\ DGet H a (.int k) (some v) /\ P v :=
 ⟨d, .int n, rfl, .inl ⟨_, Sum.inl k, hd, rfl, by rw [Bw, hk]; rfl⟩, h⟩
theorem Pb {td ty tx : TE} (h : td σ H fun x H1 => ∃ a, x = .ref a /\ IsD H1 a /\ ty σ H1 fun y H2 => tx σ H2 fun z H3 => ∃ o, DGet H3 a y o /\ Q (o.getD z) H3) : Nx td ty tx σ H Q := h
theorem Ui {d : Addr} {m : List (Int × Int)} {k : Int} {P : Option V -> Prop} (hd : Rd H d (.dK (dI m))) (h : P ((lkI m k).map V.int)) : ∃ o, DGet H d (.int k) o /\ P o :=
 ⟨_, .inl ⟨_, Sum.inl k, hd, rfl, (Bw m k).symm⟩, h⟩
theorem Hq (o : Option Int) (z : Int) : (o.map V.int).getD (V.int z) = V.int (o.getD z) := by cases o <;> rfl
theorem MT {td ty : TE} (h : ty σ H fun y H1 => td σ H1 fun x H2 => ∃ a o, x = .ref a /\ DGet H2 a y o /\ Q (.bl (!o.isSome)) H2) : Hv ty td σ H Q := h
theorem S9 {td ty tv : TE} (h : tv σ H fun v H1 => td σ H1 fun x H2 => ty σ H2 fun y H3 => ∃ a H4, x = .ref a /\ DPut H3 a y v H4 /\ D.nx σ H4) : Ho td ty tv D σ H := h
theorem MF {d : Addr} {m : List (Int × Int)} {k n : Int} {P : Hp -> Prop} (hd : H d = some (.dK (dI m))) (nd : (m.map (·.1)).Nodup) (hl : m.length < sizeLine) (h : ∀ H2, But d H H2 -> H2 d = some (.dK (dI (eV m k n))) -> P H2) : ∃ a H4, V.ref d = .ref a /\ DPut H a (.int k) (.int n) H4 /\ P H4 :=
 ⟨d, _, rfl, .inl ⟨_, Sum.inl k, hd, rfl, by rw [BJ]; exact hl, rfl⟩, h _ .upd (by rw [aB, J0 m k n nd])⟩
theorem Ve {wi : TI} {g : TG} {tb : TS} (h : wi σ H fun J H1 => ∃ W : Nat -> Nat -> St -> Hp -> Prop, (∃ m, W 0 m σ H1) /\ ∀ i m σ H, W i m σ H ->
 (J.stop i H /\ D.nx σ H) ∨ (J.go i H /\ ∃ N : St -> Hp -> Prop, (∀ σ' H', N σ' H' -> ∃ m', m' < m /\ W (i + 1) m' σ' H') /\ ∀ x H', J.yld i H x H' -> g x σ H' fun σ2 H2 => tb { D with nx := N, ct := N, bk := D.nx } σ2 H2)) : Om wi g tb D σ H := h
theorem Oz {tl : TE} {R : It -> Hp -> Prop} (h : tl σ H fun x H1 => ∃ a, x = .ref a /\ (∃ xs, SqL K H1 a xs) /\ R (Itl K a) H1) : Mm K tl σ H R := h
theorem Ue {a : Addr} {xs : List V} {P : Addr -> Prop} (hd : SqL K H a xs) (h : P a) : ∃ b, V.ref a = .ref b /\ (∃ xs, SqL K H b xs) /\ P b := ⟨a, rfl, ⟨xs, hd⟩, h⟩
theorem RD {tl : TE} {R : It -> Hp -> Prop} (h : tl σ H fun x H1 => ∃ a, x = .ref a /\ (∃ xs, SqT K H1 a xs) /\ R (Itt K a) H1) : Us K tl σ H R := h
theorem RV {a : Addr} {xs : List V} {P : Addr -> Prop} (hd : SqT K H a xs) (h : P a) : ∃ b, V.ref a = .ref b /\ (∃ xs, SqT K H b xs) /\ P b := ⟨a, rfl, ⟨xs, hd⟩, h⟩
theorem VB {ta : TA} {R : It -> Hp -> Prop} (h : ta σ H fun vs H1 => ∃ j : Int, vs = [.int j] /\ -(2 ^ 62) <= j /\ j < 2 ^ 62 /\ R (Itr 0 j.toNat) H1) : Q5 ta σ H R := h
theorem WR {T : String} {r : V -> List V -> Hp -> VK -> Prop} {to : TE} {t : TA} (h : to σ H fun x H1 => tyV K T x H1 /\ t σ H1 fun xs H2 => r x xs H2 Q) : tBM K T r to t σ H Q := h
theorem Vq {T : String} {r : V -> List V -> Hp -> VK -> Prop} {to : TE} (h : to σ H fun x H1 => tyV K T x H1 /\ r x [] H1 Q) : V2 K T r to σ H Q := h
theorem Wh {a : Addr} {xs : List V} {P : Prop} (hd : H a = some (.lst xs)) (h : P) : tyV K "list" (.ref a) H /\ P := ⟨.inl ⟨rfl, _, SqL.of hd⟩, h⟩
theorem Nj {a : Addr} {xs : List V} {y : V} (hd : H a = some (.lst xs)) (hl : xs.length < sizeLine) (h : ∀ H2, But a H H2 -> H2 a = some (.lst (xs ++ [y])) -> Q .non H2) : ww (.ref a) [y] H Q := ⟨a, xs, y, rfl, rfl, hd, hl, h _ .upd aB⟩
theorem Uo {src : List (Option Nat)} {wi : TI} {g : TG} {tt : TT} {te : TE} (h : wi σ H fun J H1 => ∀ D, H1 D = none -> ∃ W : Nat -> Nat -> St -> Hp -> Prop, (∃ m, W 0 m (Ds src σ) (upd H1 D (.lst []))) /\
 ∀ i m σ' H', W i m σ' H' -> (J.stop i H' /\ Q (.ref D) H') ∨ (J.go i H' /\ ∃ N : St -> Hp -> Prop, (∀ σ2 H2, N σ2 H2 -> ∃ m', m' < m /\ W (i + 1) m' σ2 H2) /\
  ∀ x H'', J.yld i H' x H'' -> mF g tt te D N x σ' H'')) : J6 src wi g tt te σ H Q := h
end
theorem V6 {A B : Prop} (h : B) : if (!true) = true then A else B := h
theorem VJ {A B : Prop} (h : A) : if (!false) = true then A else B := h
theorem V8 : (10 : Int) ^ (18 : Int).toNat = 1000000000000000000 := by decide
theorem NZ : (0 : Int) < (10 : Int) ^ (18 : Int).toNat := by rw [V8]; decide
theorem Lq : (0 : Int) < (10 : Int) ^ (60 : Int).toNat := Int.pow_pos (by decide)
end L2
namespace L2
open PySem PySem.Spec PyProof.Rows
section
variable {X : Cx} {K : PySem.W.Frag}
theorem aY (hK : X.K = K) : IxR X (Qy K) := by subst hK; exact ix_tup
theorem bu (hK : X.K = K) : IxR X (Qq K) := by subst hK; exact ix_list
theorem qF (hK : X.K = K) : SlR X (Ul K) := by subst hK; exact O1
theorem zW (hK : X.K = K) : SlR X (Vm K) := by subst hK; exact RP
theorem Eo (hK : X.K = K) (hu : X.A.units + 64 < cLine) : OpR X (compareOp .Eq) (Pg K) := by subst hK; exact PB hu
theorem Es (hK : X.K = K) (hu : X.A.units + 64 < cLine) : OpR X (compareOp .NotEq) (Ug K) := by subst hK; exact Od hu
theorem HW (hK : X.K = K) (hu : X.A.units + 64 < cLine) : OpR X (compareOp .NotIn) (K7 K true) := by subst hK; exact Jr hu
def Wm (K : PySem.W.Frag) : List V -> Hp -> VK -> Prop := fun xs H Q => ∃ p ys, xs = [.ref p] /\ (SqL K H p ys ∨ SqT K H p ys) /\ Q (.int ys.length) H
theorem fG (hK : X.K = K) : fK X (.builtin "len") (Wm K) := by subst hK; exact z7
def Bd (K : PySem.W.Frag) : List V -> Hp -> VK -> Prop := fun xs H Q => ∃ p ys, xs = [.ref p] /\ (SqL K H p ys ∨ SqT K H p ys) /\ ∀ l, H l = none -> Q (.ref l) (upd H l (.lst ys))
theorem o4 (hK : X.K = K) : fK X (.type "list") (Bd K) := by subst hK; exact Ah
def Cr (K : PySem.W.Frag) : List V -> Hp -> VK -> Prop := fun xs H Q => ∃ p ys, xs = [.ref p] /\ ((SqL K H p ys /\ ∀ l, H l = none -> Q (.ref l) (upd H l (.tup ys))) ∨ (SqT K H p ys /\ Q (.ref p) H))
theorem iZ (hK : X.K = K) : fK X (.type "tuple") (Cr K) := by subst hK; exact yK
def WQ (K : PySem.W.Frag) : List V -> Hp -> VK -> Prop := fun xs H Q => ∃ (x : V) (t : Value) (T : String) (b : Bool), xs = [x, .ty T] /\ TyOf K H x t /\ PySem.W.kitOne K t (.type T) = some b /\ Q (.bl b) H
theorem lK (hK : X.K = K) : fK X (.builtin "isinstance") (WQ K) := by subst hK; exact Ed
theorem HD {es : List Expr} {k : Nat} {t : TGs} {n : Nat} {pos : Pos} (hK : X.K = K) (hc : X.calm = true) (h : PGs X es t) (hn : (assignEach es X.env).length = n := by rfl) (hst : (assignEach es X.env).findIdx? (·.1) = none := by rfl) : PG X (.Tuple es k pos) (O3 K n t) := by subst hK; exact R0 hc h hn hst
theorem bx {tg l : Expr} {tl : TE} (hK : X.K = K) (hl : PE X l tl) : PI X tg l (Mm K tl) := by subst hK; exact Qv hl
theorem Hn {tg l : Expr} {tl : TE} (hK : X.K = K) (hl : PE X l tl) : PI X tg l (Us K tl) := by subst hK; exact Um hl
theorem Og {tg l : Expr} {tl : TE} (hK : X.K = K) (hl : PE X l tl) : PI X tg l (VF K tl) := by subst hK; exact Ua hl
theorem lN {o e : Expr} {to : TE} {t : TA} {apos cpos : Pos} (hK : X.K = K) (h : PE X (.Call (.Attribute o "append" apos) [e] [] cpos) (tBM X.K "list" ww to t)) : PE X (.Call (.Attribute o "append" apos) [e] [] cpos) (tBM K "list" ww to t) := by subst hK; exact h
end
section
variable {σ : St} {H : Hp} {Q : VK} {K : PySem.W.Frag}
theorem Lz {a : Addr} {xs : List V} (hd : SqL K H a xs) (h : ∀ p H', H p = none -> Same H H' -> H' p = some (.lst xs) -> Q (.ref p) H') : Bd K [.ref a] H Q := ⟨a, xs, rfl, .inl hd, fun p hp => h p _ hp (aH hp) aB⟩
theorem K1 {a : Addr} {xs : List V} (hd : SqT K H a xs) (h : ∀ p H', H p = none -> Same H H' -> H' p = some (.lst xs) -> Q (.ref p) H') : Bd K [.ref a] H Q := ⟨a, xs, rfl, .inr hd, fun p hp => h p _ hp (aH hp) aB⟩
theorem Qn {a : Addr} {xs : List V} (hd : SqL K H a xs) (h : ∀ p H', H p = none -> Same H H' -> H' p = some (.tup xs) -> Q (.ref p) H') : Cr K [.ref a] H Q := ⟨a, xs, rfl, .inl ⟨hd, fun p hp => h p _ hp (aH hp) aB⟩⟩
end
end L2
namespace L2
open PySem PySem.Spec PyProof.Rows
theorem Kr (ns : List Int) (lo hi : Option Int) : ∃ ms : List Int, jB (ns.map V.int) lo hi = ms.map V.int /\ ms.length <= ns.length := by
 refine ⟨(ns.drop (HT.sIx (ns.map V.int).length 0 lo)).take (HT.sIx (ns.map V.int).length (ns.map V.int).length hi - HT.sIx (ns.map V.int).length 0 lo), ?_, ?_⟩
 ·unfold jB
  rw [List.map_take, List.map_drop]
 ·rw [List.length_take, List.length_drop]
  omega
theorem dH {H H' : Hp} {a : Addr} {u : HO} (s : Same H H') (h : Rd H a u) : Rd H' a u := by
 rcases h with h | ⟨o, h⟩
 ·exact .inl (s _ _ h)
 ·exact .inr ⟨o, s _ _ h⟩
theorem bf {α : Type} {ls : List α} {i : Nat} {n : α} (h : ls[i]? = some n) : ls.take (i + 1) = ls.take i ++ [n] := by
 rw [List.take_succ, h]
 rfl
theorem iw {ms : List Int} {i : Nat} {x : V} (h : (ms.map V.int)[i]? = some x) : ∃ n : Int, ms[i]? = some n /\ x = .int n := by
 rw [List.getElem?_map] at h
 cases e : ms[i]? with
 | none => rw [e] at h; cases h
 | some n => rw [e] at h; exact ⟨n, rfl, (Option.some.inj h).symm⟩
theorem wu {α : Type} {xs : List α} {i : Int} {v : α} (h0 : 0 <= i) (h : xs[i.toNat]? = some v) : atI xs i = some v := by
 obtain ⟨n, rfl⟩ := Int.eq_ofNat_of_zero_le h0
 exact jh h
theorem Dw (m : List (Int × Int)) (k v : Int) : lkI (eV m k v) k = some v := by rw [Gb, if_pos rfl]
abbrev Nm := Int × Int × Int
def nmD (p : Nm) : PyData := .tuple [.int p.1, .int p.2.1, .int p.2.2]
def NmAt (H : Hp) (x : V) (p : Nm) : Prop := ∃ a, x = .ref a /\ H a = some (.tup [.int p.1, .int p.2.1, .int p.2.2])
abbrev Nms (H : Hp) : List V -> List Nm -> Prop := Paired (NmAt H)
def SmH (H H' : Hp) : Prop := ∀ a xs, H a = some (.tup xs) -> H' a = some (.tup xs)
theorem SmH.trans {H1 H2 H3 : Hp} (a : SmH H1 H2) (b : SmH H2 H3) : SmH H1 H3 := fun _ _ h => b _ _ (a _ _ h)
theorem SmH.same {H H' : Hp} (e : Same H H') : SmH H H' := fun _ _ h => e _ _ h
theorem SmH.upd {H : Hp} {l : Addr} {o : HO} (h1 : ∀ xs, H l ≠ some (.tup xs)) : SmH H (upd H l o) := fun a xs h => by
 have : a ≠ l := fun e => h1 xs (e ▸ h)
 rw [aL this]; exact h
theorem SmH.lst {H : Hp} {l : Addr} {o : HO} {ys : List V} (h : H l = some (.lst ys)) : SmH H (L2.upd H l o) := .upd (fun _ z => by rw [h] at z; cases z)
theorem SmH.but {H H' : Hp} {l : Addr} {o : HO} (e : But l H H') (h : H l = some o) (n : ∀ xs, o ≠ .tup xs) : SmH H H' := fun a xs z => e.of h z (Ne.symm (n xs))
theorem NmAt.up {H H' : Hp} (m : SmH H H') {x : V} {p : Nm} (h : NmAt H x p) : NmAt H' x p := by
 obtain ⟨a, e, h⟩ := h
 exact ⟨a, e, m _ _ h⟩
theorem Nms.up {H H' : Hp} (m : SmH H H') : ∀ {xs : List V} {ns : List Nm}, Nms H xs ns -> Nms H' xs ns
 | _, _, .nil => .nil
 | _, _, .cons r t => .cons (r.up m) (Nms.up m t)
theorem Nms.get {H : Hp} : ∀ {xs : List V} {ns : List Nm} {i : Nat} {x : V}, Nms H xs ns -> xs[i]? = some x -> ∃ p, ns[i]? = some p /\ NmAt H x p
 | _, _, _, _, .nil, e => by simp at e
 | _, _, 0, _, .cons r _, e => by simp at e; subst e; exact ⟨_, rfl, r⟩
 | _, _, i + 1, x, .cons _ t, e => by
  obtain ⟨p, h1, h2⟩ := Nms.get (i := i) (x := x) t (by simpa using e)
  exact ⟨p, by simpa using h1, h2⟩
theorem Nms.len {H : Hp} {xs : List V} {ns : List Nm} (h : Nms H xs ns) : xs.length = ns.length := Paired.length h
theorem Nms.at {H : Hp} {xs : List V} {ns : List Nm} {i : Nat} (h : Nms H xs ns) (hi : i < ns.length) : ∃ x, xs[i]? = some x /\ NmAt H x ns[i] := by
 have hx : i < xs.length := by rw [h.len]; exact hi
 obtain ⟨p, e, r⟩ := h.get (List.getElem?_eq_getElem hx)
 rw [List.getElem?_eq_getElem hi] at e
 cases e
 exact ⟨_, List.getElem?_eq_getElem hx, r⟩
theorem Nms.snoc {H : Hp} : ∀ {xs : List V} {ns : List Nm} {x : V} {p : Nm}, Nms H xs ns -> NmAt H x p -> Nms H (xs ++ [x]) (ns ++ [p])
 | _, _, _, _, .nil, h => .cons h .nil
 | _, _, _, _, .cons r t, h => .cons r (Nms.snoc t h)
theorem NmAt.dp {K : PySem.W.Frag} {H : Hp} {x : V} {p : Nm} (h : NmAt H x p) : Dp K H x (nmD p) := by
 obtain ⟨a, rfl, h⟩ := h
 exact .tup (SqT.of h) (.cons (.int _) (.cons (.int _) (.cons (.int _) .nil)))
theorem Nms.dps {K : PySem.W.Frag} {H : Hp} : ∀ {xs : List V} {ns : List Nm}, Nms H xs ns -> Dps K H xs (ns.map nmD)
 | _, _, .nil => .nil
 | _, _, .cons r t => .cons r.dp (Nms.dps t)
theorem Gm (p : Nm) : (nmD p).canLay0 = true := rfl
theorem HY : ∀ ns : List Nm, PyData.canLayAll0 (ns.map nmD) = true
 | [] => rfl
 | p :: ns => by rw [List.map_cons, PyData.canLayAll0.eq_2, Gm, HY ns]; rfl
theorem Ij : ∀ ns : List Nm, PyData.depthAll (ns.map nmD) <= 1
 | [] => by rw [List.map_nil, PyData.depthAll.eq_1]; omega
 | p :: ns => by
  have e : PyData.depthAll ((p :: ns).map nmD) = max (nmD p).depth (PyData.depthAll (ns.map nmD)) := rfl
  rw [e]
  have := Ij ns
  have : (nmD p).depth = 1 := rfl
  omega
section
variable {σ : St} {H : Hp} {Q : VK} {K : PySem.W.Frag} {X : Cx}
theorem HX (hK : X.K = K) : IxR X (rIx K) := by subst hK; exact Sx
theorem VG {a : Addr} {xs : List V} {i : Int} {v : V} (h1 : SqL K H a xs ∨ SqT K H a xs) (h2 : atI xs i = some v) (h : Q v H) : rIx K (.ref a) (.int i) H Q := by
 rcases h1 with h1 | h1
 ·exact .inl ⟨a, xs, i, v, rfl, rfl, h1, h2, h⟩
 ·exact .inr (.inl ⟨a, xs, i, v, rfl, rfl, h1, h2, h⟩)
theorem QB {a : Addr} {xs : List V} (hd : SqL K H a xs ∨ SqT K H a xs) (h : Q (.int xs.length) H) : Wm K [.ref a] H Q := ⟨a, xs, rfl, hd, h⟩
end
theorem JX {P : Prop} (h : P) : V.non = V.non /\ P := ⟨rfl, h⟩
end L2
namespace L2
open PySem PySem.Spec PyProof.Rows
section
variable {X : Cx} {CX : CXT} {k : Nat} {f C : Addr} {fd : FuncData} {ps : List Str} {sp : Sp} {dvs : List V} {ds : List Value} {E : XK} {x m : Str} {p pos apos : Pos} {e o : Expr} {es : List Expr} {ta : TE} {t : TA}
structure ClsFn (K : PySem.W.Frag) (C : Addr) (m : Str) (f : Addr) : Prop where
 ga : PySem.W.specialIn K (.ref C) "__getattribute__" = some (some (.builtin "type.__getattribute__"))
 rd : PySem.W.readsIn K C (.type "type") = true
 at_ : PySem.W.findCls K (.ref C) (.type "type") m = some (.val (.ref f))
 hd : PySem.W.handedIn (.ref f) = true
 kp : PySem.W.keepIn K (.ref f) = true
theorem Kq {pl : Sem Bool} (hg : Gl X x) (hm : X.mg x = some (.ref C)) (c : ClsFn X.K C m f) (F : FnOk X.prog X.w X.K X.mg X.base CX0 k f fd ps sp) (hb : Binds X.K fd ps []) (hr : Room k X.A) (ha : PA X (e :: es) t)
  (hdb : (x == ("__debug__" : Str)) = false := by decide)
  (hst : starEach (e :: es) X.env = (false, eval e X.env) :: starEach es X.env := by rfl) (hpl : (backTo pos (starEach es X.env)).any (·.1) = false := by rfl)
  (ht : eval (.Call (.Attribute (.Name x p) m apos) (e :: es) [] pos) X.env = (do
   let ov ← eval (.Name x p) X.env
   standAt apos.atName
   let (f, first) ← holding [ov] (getMethod ov m pl)
   callWith pos f first (backTo pos (starEach (e :: es) X.env)) (backToKw pos (keywordEach [] X.env))) := by rfl) :
  PE X (.Call (.Attribute (.Name x p) m apos) (e :: es) [] pos) (Hx sp [] E0 t) := by
 intro pins s σ H Q I h
 refine PySem.W.methodCall_KW (pl := pl) (thn (Il (v := .ref C) hg hm rfl hdb pins s σ H (fun v H1 => v = .ref C /\ t σ H1 fun vs H2 => sp (vs ++ []) H2 Q E0) I ⟨rfl, h⟩) fun u s1 ⟨x, H1, I1, rx, ex, q⟩ => ?_) ht
 subst ex
 obtain rfl : u = Value.ref C := rx
 refine PySem.W.method_cls I1.kIn c.ga (PySem.W.cls_value I1.kIn c.rd c.at_ c.hd ?_)
 refine PySem.W.callWith_K (first := []) (h₀ := X.base) I.ok.mod.kin c.kp (thn (ha pos pins _ σ H1 _ (I1.tok _) q) fun us s2 ⟨vs, H2, I2, r, q2⟩ => ⟨I2.kIn, ?_⟩) hst hpl
 exact sX (us := us) (vs := vs) F hr hb .nil wR I2 r q2
def MOk (P : Program) (w : World) (K : PySem.W.Frag) (mg : Str -> Option Value) (base : Heap) (k : Nat) (m : Str) (ms : List (Addr × Sp)) : Prop :=
 ∀ cs ∈ ms, ∃ f fd ps, Cls K cs.1 /\ Meth K cs.1 m f /\ FnOk P w K mg base CX0 k f fd ps cs.2 /\ Binds K fd ps []
theorem MOk.nil {P : Program} {w : World} {K : PySem.W.Frag} {mg : Str -> Option Value} {base : Heap} : MOk P w K mg base k m [] := fun _ h => nomatch h
theorem MOk.cons {P : Program} {w : World} {K : PySem.W.Frag} {mg : Str -> Option Value} {base : Heap} {ms : List (Addr × Sp)} (c : Cls K C) (hm : Meth K C m f) (F : FnOk P w K mg base CX0 k f fd ps sp) (hb : Binds K fd ps []) (r : MOk P w K mg base k m ms) : MOk P w K mg base k m ((C, sp) :: ms) := by
 intro cs h
 rcases List.mem_cons.mp h with rfl | h
 ·exact ⟨f, fd, ps, c, hm, F, hb⟩
 ·exact r cs h
def mtS (ms : List (Addr × Sp)) (m : Str) (t : TA) (σ : St) (x : V) (H : Hp) (Q : VK) : Prop :=
 ∃ cs ∈ ms, ∃ a dx fs, x = .ref a /\ H a = some (.ins cs.1 dx fs) /\ fs.lookup m = none /\ t σ H fun vs H2 => cs.2 (x :: (vs ++ [])) H2 Q E0
def Gx (ms : List (Addr × Sp)) (m : Str) (ta : TE) (t : TA) : TE := fun σ H Q => ta σ H fun x H1 => mtS ms m t σ x H1 Q
theorem uf {pl : Sem Bool} {ms : List (Addr × Sp)} (M : MOk X.prog X.w X.K X.mg X.base k m ms) (he : PE X o ta) (hr : Room k X.A) (ha : PA X (e :: es) t)
  (hst : starEach (e :: es) X.env = (false, eval e X.env) :: starEach es X.env := by rfl) (hpl : (backTo pos (starEach es X.env)).any (·.1) = false := by rfl)
  (ht : eval (.Call (.Attribute o m apos) (e :: es) [] pos) X.env = (do
   let ov ← eval o X.env
   standAt apos.atName
   let (f, first) ← holding [ov] (getMethod ov m pl)
   callWith pos f first (backTo pos (starEach (e :: es) X.env)) (backToKw pos (keywordEach [] X.env))) := by rfl) :
  PE X (.Call (.Attribute o m apos) (e :: es) [] pos) (Gx ms m ta t) := by
 intro pins s σ H Q I h
 refine PySem.W.methodCall_KW (pl := pl) (thn (he pins s σ H _ I h) fun u s1 ⟨x, H1, I1, rx, cs, hcs, a, dx, fs, ex, ea, l, q⟩ => ?_) ht
 subst ex
 obtain rfl : u = Value.ref a := rx
 obtain ⟨f, fd, ps, c, hm, F, hb⟩ := M cs hcs
 refine xQ I1 ea c hm l ?_
 refine PySem.W.callWith_K (first := [.ref a]) (h₀ := X.base) I.ok.mod.kin hm.kp (thn (ha pos pins s1 σ H1 _ I1 q) fun us s2 ⟨vs, H2, I2, r, q2⟩ => ⟨I2.kIn, ?_⟩) hst hpl
 exact sX (us := .ref a :: us) (vs := .ref a :: vs) F hr hb .nil wR I2 (.cons rfl r) q2
theorem d7 {pl : Sem Bool} {ms : List (Addr × Sp)} (M : MOk X.prog X.w X.K X.mg X.base k m ms) (he : PE X o ta) (hr : Room k X.A)
  (ht : eval (.Call (.Attribute o m apos) [] [] pos) X.env = (do
   let ov ← eval o X.env
   standAt apos.atName
   let (f, first) ← holding [ov] (getMethod ov m pl)
   callWith pos f first (backTo pos (starEach [] X.env)) (backToKw pos (keywordEach [] X.env))) := by rfl) :
  PE X (.Call (.Attribute o m apos) [] [] pos) (Gx ms m ta Ez) := by
 intro pins s σ H Q I h
 refine PySem.W.methodCall_KW (pl := pl) (thn (he pins s σ H _ I h) fun u s1 ⟨x, H1, I1, rx, cs, hcs, a, dx, fs, ex, ea, l, q⟩ => ?_) ht
 subst ex
 obtain rfl : u = Value.ref a := rx
 obtain ⟨f, fd, ps, c, hm, F, hb⟩ := M cs hcs
 refine xQ I1 ea c hm l ?_
 exact PySem.W.callWith_K0 (first := [.ref a]) I1.kIn hm.kp (sX (us := [.ref a]) (vs := [.ref a]) F hr hb .nil wR I1 (.cons rfl .nil) q)
end
section
variable {X : Cx} {K : PySem.W.Frag}
theorem dC {e : Expr} {ta : TE} {f : Str} {pos : Pos} (hK : X.K = K) (he : PE X e ta) (hb : attributeBase e f X.env (eval e X.env) = eval e X.env) : PE X (.Attribute e f pos) (TX K ta f) := by subst hK; exact Th he hb
theorem um {o value : Expr} {ta tv : TE} {f : Str} {pos pos' : Pos} (hK : X.K = K) (ha : PE X o ta) (hv : PE X value tv) (hs : swapsWith value (some (.Attribute o f pos')) pos.line X.env = pure false) : PS X (.Assign [.Attribute o f pos'] value pos) (KR K ta tv f) := by subst hK; exact TF ha hv hs
end
section
variable {D : Ends} {σ : St} {H : Hp} {Q : VK} {K : PySem.W.Frag}
def Vd (K : PySem.W.Frag) (f : Str) (x : V) (H : Hp) (Q : VK) : Prop := ∃ a C dx fs v, x = .ref a /\ H a = some (.ins C dx fs) /\ Cls K C /\ NoAttr K C f /\ fs.lookup f = some v /\ Q v H
theorem Vn {ta : TE} {f : Str} (h : ta σ H fun x H1 => Vd K f x H1 Q) : TX K ta f σ H Q := h
theorem Uc {f : Str} {a C dx : Addr} {fs : List (Str × V)} {v : V} (e : H a = some (.ins C dx fs)) (c : Cls K C) (n : NoAttr K C f) (l : fs.lookup f = some v) (h : Q v H) : Vd K f (.ref a) H Q := ⟨a, C, dx, fs, v, rfl, e, c, n, l, h⟩
def sfK (K : PySem.W.Frag) (f : Str) (y x : V) (H : Hp) (R : Hp -> Prop) : Prop := ∃ a C dx fs, x = .ref a /\ H a = some (.ins C dx fs) /\ Cls K C /\ NoAttr K C f /\ fs.length < 1000 /\ R (upd H a (.ins C dx (lD f y fs)))
theorem S7 {ta tv : TE} {f : Str} (h : tv σ H fun y H1 => ta σ H1 fun x H2 => sfK K f y x H2 fun H3 => D.nx σ H3) : KR K ta tv f D σ H := h
theorem Vp {f : Str} {y : V} {a C dx : Addr} {fs : List (Str × V)} {R : Hp -> Prop} (e : H a = some (.ins C dx fs)) (c : Cls K C) (n : NoAttr K C f) (hl : fs.length < 1000) (h : ∀ H2, But a H H2 -> H2 a = some (.ins C dx (lD f y fs)) -> R H2) : sfK K f y (.ref a) H R := ⟨a, C, dx, fs, rfl, e, c, n, hl, h _ .upd aB⟩
theorem Py {ms : List (Addr × Sp)} {m : Str} {ta : TE} {t : TA} (h : ta σ H fun x H1 => mtS ms m t σ x H1 Q) : Gx ms m ta t σ H Q := h
theorem Gg {ms : List (Addr × Sp)} {m : Str} {t : TA} {C a dx : Addr} {sp : Sp} {fs : List (Str × V)} (e : H a = some (.ins C dx fs)) (l : fs.lookup m = none) (h : t σ H fun vs H2 => sp (.ref a :: (vs ++ [])) H2 Q E0) : mtS ((C, sp) :: ms) m t σ (.ref a) H Q :=
 ⟨(C, sp), List.mem_cons_self, a, dx, fs, rfl, e, l, h⟩
theorem Ey {ms : List (Addr × Sp)} {m : Str} {t : TA} {cs : Addr × Sp} {x : V} (h : mtS ms m t σ x H Q) : mtS (cs :: ms) m t σ x H Q := by
 obtain ⟨c, h1, h2⟩ := h
 exact ⟨c, List.mem_cons_of_mem _ h1, h2⟩
def mkK (C : Addr) (sp : Sp) (vs : List V) (H : Hp) (Q : VK) : Prop := ∀ x dx, H x = none -> H dx = none -> dx ≠ x -> sp (.ref x :: (vs ++ [])) (upd (upd H dx (.own x)) x (.ins C dx [])) (fun v H2 => v = .non /\ Q (.ref x) H2) E0
theorem Uh {C : Addr} {sp : Sp} {t : TA} (h : t σ H fun vs H1 => mkK C sp vs H1 Q) : Q9 C sp [] E0 t σ H Q := h
theorem Wx {C : Addr} {sp : Sp} {vs : List V} (h : ∀ x dx H', H x = none -> Same H H' -> H' x = some (.ins C dx []) -> sp (.ref x :: (vs ++ [])) H' (fun v H2 => v = .non /\ Q (.ref x) H2) E0) : mkK C sp vs H Q := by
 intro x dx nx ndx nex
 refine h x dx _ nx (fun b o e => ?_) aB
 rw [aL (aC e nx), aL (aC e ndx)]
 exact e
end
theorem WF {f b c : St -> Hp -> Prop} {r : VK} {σ : St} {H : Hp} (h : f σ H) : Ends.nx ⟨f, r, b, c⟩ σ H := h
theorem Vi {σ : St} {H : Hp} {R : Bool -> Hp -> Prop} (h : R true H) : Rt σ H R := h
theorem Ub {g : TG} {tt : TT} {te : TE} {D : Addr} {N : St -> Hp -> Prop} {x : V} {σ : St} {H : Hp} (h : g x σ H fun σ2 H2 => tt σ2 H2 fun b H3 => if b = true then te σ2 H3 fun y H4 => ∃ ys, H4 D = some (.lst ys) /\ ys.length < sizeLine /\ N σ2 (upd H4 D (.lst (ys ++ [y]))) else N σ2 H3) : mF g tt te D N x σ H := h
theorem T3 {D : Ends} {σ : St} {H : Hp} {c : TT} {u : TS} (h : c σ H fun b H1 => if b = true then False else u D σ H1) : xj (Qm c Lr Io) u D σ H := h
end L2
namespace L2
open PySem PySem.Spec PyProof.Rows
theorem Mh {K : PySem.W.Frag} {H H' : Hp} {a : Addr} {xs : List V} (e : Same H H') (h : SqT K H a xs) : SqT K H' a xs := by
 rcases h with (h | ⟨o, h⟩) | h
 ·exact .inl (.inl (e _ _ h))
 ·exact .inl (.inr ⟨o, e _ _ h⟩)
 ·exact .inr h
structure Ck (m : List (Int × Int)) : Prop where
 nd : (m.map (·.1)).Nodup
 nn : ∀ p ∈ m, 0 <= p.2
 rg : ∀ p ∈ m, 0 <= p.1 /\ p.1 < 63
def Oc : List Int := (List.range 63).map fun (h : Nat) => (h : Int)
theorem mem_hs {k : Int} : k ∈ Oc ↔ 0 <= k /\ k < 63 := by
 unfold Oc
 rw [List.mem_map]
 constructor
 ·rintro ⟨n, hn, rfl⟩
  have := List.mem_range.mp hn
  omega
 ·rintro ⟨h0, h1⟩
  exact ⟨k.toNat, List.mem_range.mpr (by omega), by omega⟩
theorem Mj {α : Type} [DecidableEq α] : ∀ {l m : List α}, l.Nodup -> (∀ x ∈ l, x ∈ m) -> l.length <= m.length
 | [], m, _, _ => Nat.zero_le _
 | x :: l, m, nd, sub => by
  rw [List.nodup_cons] at nd
  have hx := sub x List.mem_cons_self
  have pm := List.perm_cons_erase hx
  have := Mj (l := l) (m := m.erase x) nd.2 fun y hy => (List.mem_erase_of_ne (show y ≠ x from fun z => nd.1 (z ▸ hy))).mpr (sub y (List.mem_cons_of_mem _ hy))
  have q := pm.length_eq
  rw [List.length_cons] at q ⊢
  omega
theorem qJ {l : List Int} (nd : l.Nodup) (h : ∀ k ∈ l, 0 <= k /\ k < 63) : l.length < 64 := by
 have := Mj nd (m := Oc) fun k hk => mem_hs.mpr (h k hk)
 unfold Oc at this
 rw [List.length_map, List.length_range] at this
 omega
theorem Ck.keys {m : List (Int × Int)} (c : Ck m) : ∀ k ∈ m.map (·.1), 0 <= k /\ k < 63 := fun k hk => by
 obtain ⟨p, hp, e⟩ := List.mem_map.mp hk
 rw [← e]
 exact c.rg p hp
theorem Ck.len {m : List (Int × Int)} (c : Ck m) : m.length < 64 := by
 have := qJ c.nd c.keys
 rw [List.length_map] at this
 exact this
theorem Ck.nil : Ck [] := ⟨List.nodup_nil, (fun p hp => nomatch hp), (fun p hp => nomatch hp)⟩
theorem Ck.ct {m : List (Int × Int)} (c : Ck m) (k : Int) : 0 <= ct m k := by
 unfold L2.ct
 cases e : lkI m k with
 | none => exact Int.le_refl _
 | some v => exact c.nn _ (Gi e)
theorem uZ {m : List (Int × Int)} {k : Int} (h : k ∉ m.map (·.1)) : ct m k = 0 := by
 unfold ct
 rw [PN h]
 rfl
theorem Rh {m : List (Int × Int)} {k : Int} (h : k ∈ m.map (·.1)) : lkI m k = some (ct m k) := by
 obtain ⟨v, e⟩ := PP h
 unfold ct
 rw [e]
 rfl
theorem QV {m : List (Int × Int)} (nd : (m.map (·.1)).Nodup) {p : Int × Int} (h : p ∈ m) : ct m p.1 = p.2 := by
 unfold ct
 rw [Rg (k := p.1) (v := p.2) nd h]
 rfl
theorem Ck.put {m : List (Int × Int)} (c : Ck m) {k v : Int} (h0 : 0 <= k) (h1 : k < 63) (hv : 0 <= v) : Ck (eV m k v) :=
 ⟨J1 m k v c.nd, fun p hp => by
  rcases ur m k v p hp with z | z
  ·rw [z]; exact hv
  ·exact c.nn p z, fun p hp => by
  rcases ur m k v p hp with z | z
  ·rw [z]; exact ⟨h0, h1⟩
  ·exact c.rg p z⟩
theorem qD (m : List (Int × Int)) (k v j : Int) : ct (eV m k v) j = if j = k then v else ct m j := by
 unfold ct
 rw [Gb]
 split <;> rfl
structure Td (m : List (Int × Int)) : Prop extends Ck m where
 ps : ∀ p ∈ m, 0 < p.2
theorem Td.nil : Td [] := ⟨Ck.nil, (fun p hp => nomatch hp)⟩
theorem Td.pos {m : List (Int × Int)} (t : Td m) {k : Int} (h : k ∈ m.map (·.1)) : 0 < L2.ct m k := by
 obtain ⟨p, hp, e⟩ := List.mem_map.mp h
 rw [← e, QV t.nd hp]
 exact t.ps p hp
def R6 (ms : List (List (Int × Int))) (k b : Int) : Prop := (∃ m ∈ ms, ct m k = b) /\ ∀ m ∈ ms, ct m k <= b
def cov (m n : List (Int × Int)) : Bool := (List.range 63).all fun (h : Nat) => decide (ct n h <= ct m h)
theorem Qa {m n : List (Int × Int)} (cm : Ck m) (cn : Ck n) : cov m n = true ↔ ∀ k, ct n k <= ct m k := by
 unfold cov
 rw [List.all_eq_true]
 constructor
 ·intro h k
  by_cases hk : 0 <= k /\ k < 63
  ·have := of_decide_eq_true (h k.toNat (List.mem_range.mpr (by omega)))
   rw [show ((k.toNat : Nat) : Int) = k by omega] at this
   exact this
  ·rw [uZ (fun z => hk (cn.keys k z))]
   exact cm.ct k
 ·intro h n _
  exact decide_eq_true (h n)
def ig (ps : List (Int × Int)) : List (Int × Int) := ps.filter fun p => decide (0 < p.2)
theorem Ox {ps : List (Int × Int)} {p : Int × Int} (h : 0 < p.2) : ig (ps ++ [p]) = ig ps ++ [p] := by
 unfold ig
 rw [List.filter_append, List.filter_cons, decide_eq_true h]
 rfl
theorem S5 {ps : List (Int × Int)} {p : Int × Int} (h : ¬ 0 < p.2) : ig (ps ++ [p]) = ig ps := by
 unfold ig
 rw [List.filter_append, List.filter_cons, decide_eq_false h]
 exact List.append_nil _
theorem zT {ps : List (Int × Int)} (h : (ps.map (·.1)).Nodup) : ((ig ps).map (·.1)).Nodup := by
 unfold ig
 exact h.sublist ((List.filter_sublist).map _)
theorem Ol (ps : List (Int × Int)) : (ig ps).length <= ps.length := List.length_filter_le _ _
def prs (S : List Int) (f : Int -> Int) : List (Int × Int) := S.map fun k => (k, f k)
theorem qz (S : List Int) (f : Int -> Int) : (prs S f).map (·.1) = S := by
 unfold prs
 rw [List.map_map]
 exact List.map_id _
theorem prs_td {S : List Int} {f : Int -> Int} (nd : S.Nodup) (rg : ∀ k ∈ S, 0 <= k /\ k < 63) : Td (ig (prs S f)) := by
 have mem : ∀ p ∈ ig (prs S f), 0 < p.2 /\ p.1 ∈ S := fun p hp => by
  have h := List.mem_filter.mp hp
  refine ⟨of_decide_eq_true h.2, ?_⟩
  have := List.mem_map_of_mem (f := (·.1)) h.1
  rw [qz] at this
  exact this
 exact ⟨⟨zT (by rw [qz]; exact nd), fun p hp => Int.le_of_lt (mem p hp).1, fun p hp => rg _ (mem p hp).2⟩, fun p hp => (mem p hp).1⟩
theorem Te {S : List Int} {f : Int -> Int} (nd : S.Nodup) (k : Int) (hk : k ∈ S) (h0 : 0 <= f k) : ct (ig (prs S f)) k = f k := by
 by_cases h : 0 < f k
 ·have hm : (k, f k) ∈ ig (prs S f) := List.mem_filter.mpr ⟨List.mem_map_of_mem (f := fun k => (k, f k)) hk, decide_eq_true h⟩
  exact QV (p := (k, f k)) (zT (by rw [qz]; exact nd)) hm
 ·have e : f k = 0 := by omega
  rw [e]
  apply uZ
  intro z
  obtain ⟨p, hp, e2⟩ := List.mem_map.mp z
  have q := List.mem_filter.mp hp
  obtain ⟨k', _, e3⟩ := List.mem_map.mp q.1
  have := of_decide_eq_true q.2
  rw [← e3] at e2 this
  have e2 : k' = k := e2
  rw [e2] at this
  exact h this
theorem Qw {S : List Int} {f : Int -> Int} {k : Int} (hk : k ∉ S) : ct (ig (prs S f)) k = 0 := by
 apply uZ
 intro z
 apply hk
 have : k ∈ (prs S f).map (·.1) := ((List.filter_sublist).map _).subset z
 rw [qz] at this
 exact this
theorem two {m n : List (Int × Int)} {k : Int} : (∃ x ∈ [m, n], k ∈ x.map (·.1)) ↔ k ∈ m.map (·.1) ∨ k ∈ n.map (·.1) := by simp
theorem O4 (m : List (Int × Int)) (h : Int) : ((fX (dI m) (Sum.inl h : Key)).getD (.int 0)) = V.int (ct m h) := by
 rw [Bw]
 unfold ct
 cases lkI m h <;> rfl
def cfl (n c k w cs : V) : List (Str × V) := [("number", n), ("caller", c), ("count", k), ("word", w), ("causes", cs)]
theorem Pn (n c k w cs : V) : lD "causes" cs (lD "word" w (lD "count" k (lD "caller" c (lD "number" n [])))) = cfl n c k w cs := by
 have e : ∀ (a b : Str), decide (a = b) = false -> a ≠ b := fun a b h => of_decide_eq_false h
 simp only [lD, cfl, if_neg (e "number" "caller" (by decide +kernel)), if_neg (e "number" "count" (by decide +kernel)), if_neg (e "caller" "count" (by decide +kernel)), if_neg (e "number" "word" (by decide +kernel)), if_neg (e "caller" "word" (by decide +kernel)), if_neg (e "count" "word" (by decide +kernel)), if_neg (e "number" "causes" (by decide +kernel)), if_neg (e "caller" "causes" (by decide +kernel)), if_neg (e "count" "causes" (by decide +kernel)), if_neg (e "word" "causes" (by decide +kernel))]
theorem G8 {n c k w cs : V} : (cfl n c k w cs).lookup ("number" : Str) = some n := by kernel_rfl
theorem Gz {n c k w cs : V} : (cfl n c k w cs).lookup ("caller" : Str) = some c := by kernel_rfl
theorem Jy {n c k w cs : V} : (cfl n c k w cs).lookup ("count" : Str) = some k := by kernel_rfl
theorem Mv {n c k w cs : V} : (cfl n c k w cs).lookup ("word" : Str) = some w := by kernel_rfl
theorem Fe {n c k w cs : V} : (cfl n c k w cs).lookup ("causes" : Str) = some cs := by kernel_rfl
theorem J7 {n c k w cs : V} : (cfl n c k w cs).lookup ("free" : Str) = none := by kernel_rfl
theorem BX {n c k w cs : V} : (cfl n c k w cs).lookup ("in_turn" : Str) = none := by kernel_rfl
theorem xf {n c k w cs : V} : (cfl n c k w cs).lookup ("asks_place" : Str) = none := by kernel_rfl
theorem NQ {n c k w cs : V} : (cfl n c k w cs).lookup ("kind" : Str) = none := by kernel_rfl
theorem Kh {n c k w cs : V} : (cfl n c k w cs).lookup ("name" : Str) = none := by kernel_rfl
theorem Ke {n c k w cs : V} : (cfl n c k w cs).lookup ("rank" : Str) = none := by kernel_rfl
theorem Nt {n c k w cs : V} : (cfl n c k w cs).lookup ("told" : Str) = none := by kernel_rfl
theorem Ph {K : PySem.W.Frag} {H : Hp} {Q : VK} {a : Addr} {kd : Str} (h : kd = "own" ∨ kd = "heard" ∨ kd = "one") (ha : SqT K H a [.str "own", .str "heard", .str "one"]) (q : Q (.bl false) H) : K7 K true (.str kd) (.ref a) H Q := by
 refine ⟨a, _, _, _, rfl, .inr ha, .cons (.str _) (.cons (.str _) (.cons (.str _) .nil)), .str kd, by kernel_rfl, ?_, by show 0 <= 60; decide, ?_⟩
 ·rcases h with rfl | rfl | rfl <;> kernel_rfl
 ·have e : (([.str "own", .str "heard", .str "one"] : List PyData).any fun z => z.eqv (.str kd)) = true := by rcases h with rfl | rfl | rfl <;> kernel_rfl
  show Q (.bl (!_)) H
  rw [e]
  exact q
theorem Vy : decide (("heard" : Str) = "own") = false := by decide +kernel
theorem UW : decide (("one" : Str) = "own") = false := by decide +kernel
theorem Wr : decide (("one" : Str) = "heard") = false := by decide +kernel
theorem Vk : decide (("own" : Str) = "own") = true := by decide +kernel
theorem Vw : decide (("heard" : Str) = "heard") = true := by decide +kernel
def prD (p : Int × Int) : PyData := .tuple [.int p.1, .int p.2]
theorem Prs.dps {K : PySem.W.Frag} {H : Hp} : ∀ {xs : List V} {ps : List (Int × Int)}, Prs H xs ps -> Dps K H xs (ps.map prD)
 | _, _, .nil => .nil
 | _, _, .cons r t => by
  obtain ⟨a, rfl, h⟩ := r
  exact .cons (.tup (SqT.of h) (.cons (.int _) (.cons (.int _) .nil))) (Prs.dps t)
theorem Bs : ∀ ps : List (Int × Int), PyData.canLayAll0 (ps.map prD) = true
 | [] => rfl
 | p :: ps => by rw [List.map_cons, PyData.canLayAll0.eq_2, Bs ps]; rfl
theorem Ad : ∀ ps : List (Int × Int), PyData.depthAll (ps.map prD) <= 1
 | [] => by rw [List.map_nil, PyData.depthAll.eq_1]; omega
 | p :: ps => by
  have e : PyData.depthAll ((p :: ps).map prD) = max (prD p).depth (PyData.depthAll (ps.map prD)) := rfl
  rw [e]
  have := Ad ps
  have : (prD p).depth = 1 := rfl
  omega
theorem M4 {H : Hp} {Q : VK} {a b : Addr} {xs zs : List V} (h1 : H a = some (.lst xs)) (h2 : H b = some (.lst zs)) (hl : xs.length + zs.length <= 1000) (h : ∀ p H', H p = none -> Same H H' -> H' p = some (.lst (xs ++ zs)) -> Q (.ref p) H') : Wq (.ref a) (.ref b) H Q := ⟨a, b, xs, zs, rfl, rfl, h1, h2, Nat.le_of_lt (aJ hl), fun p hp => h p _ hp (aH hp) aB⟩
def SmB (d : Addr) (B H : Hp) : Prop := ∀ b o, b ≠ d -> B b = some o -> H b = some o
theorem SmB.refl (d : Addr) (B : Hp) : SmB d B B := fun _ _ _ h => h
theorem SmB.but {d : Addr} {B H H' : Hp} (a : SmB d B H) (s : But d H H') : SmB d B H' := fun b o n h => s.at n (a b o n h)
structure TCall (K : PySem.W.Frag) (C : Addr) : Prop where
 cl : Cls K C
 n1 : NoAttr K C "number"
 n2 : NoAttr K C "caller"
 n3 : NoAttr K C "count"
 n4 : NoAttr K C "word"
 n5 : NoAttr K C "causes"
end L2
namespace L2
open PySem PySem.Spec PyProof.Rows
def dG (m : List (Int × V)) : List (Key × V) := m.map fun p => (Sum.inl p.1, p.2)
theorem M3 (m : List (Int × V)) : (dG m).length = m.length := List.length_map ..
def lkG : List (Int × V) -> Int -> Option V
 | [], _ => none
 | p :: m, k => if p.1 = k then some p.2 else lkG m k
theorem Lp : ∀ (m : List (Int × V)) (k : Int), fX (dG m) (Sum.inl k : Key) = lkG m k
 | [], _ => rfl
 | p :: m, k => by
  show fX ((Sum.inl p.1, p.2) :: dG m) (Sum.inl k) = _
  unfold lkG
  by_cases e : p.1 = k
  ·rw [if_pos e, dN (by rw [e])]
  ·rw [if_neg e, eF (fun z => e (Sum.inl.inj z)), Lp m k]
def vP : List (Int × V) -> Int -> V -> List (Int × V)
 | [], k, v => [(k, v)]
 | p :: m, k, v => if p.1 = k then (p.1, v) :: m else p :: vP m k v
theorem K6 (k : Int) : ∀ m : List (Int × V), ((dG m).any fun kv => decide (kv.1 = (Sum.inl k : Key))) = m.any fun p => decide (p.1 = k)
 | [] => rfl
 | p :: m => by
  show (decide ((Sum.inl p.1 : Key) = Sum.inl k) || (dG m).any _) = (decide (p.1 = k) || m.any _)
  rw [K6 k m]
  congr 1
  rw [decide_eq_decide]
  exact ⟨fun h => Sum.inl.inj h, fun h => congrArg _ h⟩
theorem putg_new : ∀ (m : List (Int × V)) (k : Int) (v : V), (m.any fun p => decide (p.1 = k)) = false -> vP m k v = m ++ [(k, v)]
 | [], _, _, _ => rfl
 | p :: m, k, v, h => by
  rw [List.any_cons, Bool.or_eq_false_iff] at h
  show (if p.1 = k then (p.1, v) :: m else p :: vP m k v) = _
  rw [if_neg (of_decide_eq_false h.1), putg_new m k v h.2]
  rfl
theorem DP : ∀ (m : List (Int × V)) (k : Int) (v : V), (m.map (·.1)).Nodup -> (m.any fun p => decide (p.1 = k)) = true -> vP m k v = m.map fun p => if p.1 = k then (p.1, v) else p
 | [], _, _, _, h => by cases h
 | p :: m, k, v, nd, h => by
  rw [List.map_cons, List.nodup_cons] at nd
  show (if p.1 = k then (p.1, v) :: m else p :: vP m k v) = (if p.1 = k then (p.1, v) else p) :: m.map _
  by_cases e : p.1 = k
  ·rw [if_pos e, if_pos e]
   congr 1
   have : m.map (fun p => if p.1 = k then (p.1, v) else p) = m.map id := List.map_congr_left fun q hq => by
    rw [if_neg (fun z => nd.1 (by rw [e, ← z]; exact List.mem_map_of_mem hq))]
    rfl
   rw [this, List.map_id]
  ·rw [if_neg e, if_neg e, DP m k v nd.2 (by
    rw [List.any_cons, decide_eq_false e, Bool.false_or] at h
    exact h)]
theorem TY (m : List (Int × V)) (k : Int) (v : V) (nd : (m.map (·.1)).Nodup) : putK (dG m) (Sum.inl k : Key) (v) = dG (vP m k v) := by
 unfold putK
 rw [K6]
 cases e : m.any fun p => decide (p.1 = k) with
 | false =>
  rw [putg_new m k v e]
  unfold dG
  rw [List.map_append]
  rfl
 | true =>
  rw [DP m k v nd e]
  unfold dG
  rw [List.map_map, if_pos rfl, List.map_map]
  apply List.map_congr_left
  intro p _
  show (if (Sum.inl p.1 : Key) = Sum.inl k then ((Sum.inl p.1 : Key), v) else (Sum.inl p.1, p.2)) = ((Sum.inl (if p.1 = k then (p.1, v) else p).1 : Key), (if p.1 = k then (p.1, v) else p).2)
  by_cases z : p.1 = k
  ·rw [if_pos (congrArg _ z), if_pos z]
  ·rw [if_neg (fun q => z (Sum.inl.inj q)), if_neg z]
section
variable {X : Cx}
theorem sE {α β : Type} {R : α -> β -> Prop} : ∀ {xs : List α} {ys : List β}, xs.length = ys.length -> (∀ (i : Nat) x y, xs[i]? = some x -> ys[i]? = some y -> R x y) -> Paired R xs ys
 | [], [], _, _ => .nil
 | [], _ :: _, h, _ => by cases h
 | _ :: _, [], h, _ => by cases h
 | x :: xs, y :: ys, h, k => .cons (k 0 x y rfl rfl) (sE (Nat.succ.inj h) fun i a b ha hb => k (i + 1) a b (by simpa using ha) (by simpa using hb))
theorem BL : fK X (.type "range") (fun xs H Q => ∃ j : Int, xs = [.int j] /\ ∀ r, H r = none -> Q (.ref r) (upd H r (.rng 0 j))) := by
 intro pins s σ H xs us Q I r h
 obtain ⟨j, rfl, q⟩ := h
 obtain ⟨u, rfl, t, rfl⟩ := vals1 r
 exact call_range_1 ⟨.ref s.heap.objs.size, _, I.laid (o := .rng 0 j) (t' := s.toks + 1 + 1) (fun b o e => Heap.get?_push_of_some _ e) (Nat.le_refl _) ⟨_, _, _, Heap.get?_push_size _ rfl⟩, rfl, q _ (I.hok.fresh (Nat.le_refl _))⟩
theorem FZ (hc : X.calm = true) : fK X (.type "list") (fun xs H Q => ∃ (r : Addr) (n : Nat), xs = [.ref r] /\ H r = some (.rng 0 n) /\ n <= 1000 /\ ∀ l, H l = none -> Q (.ref l) (upd H l (.lst (((List.range n).map fun (i : Nat) => (i : Int)).map V.int)))) := by
 intro pins s σ H xs us Q I rr h
 obtain ⟨r, n, rfl, hr, hn, q⟩ := h
 obtain ⟨u, rfl, rx⟩ := vals1 rr
 cases rx
 obtain ⟨t, u, v, e⟩ : ∃ t u v, s.heap.get? r = some { cls := .type "range", data := .fields #[.int 0 t, .int n u, .int 1 v] } := I.hok r _ hr
 have hs : Builtin.Range.rangeSize 0 n 1 = (n : Int) := by rw [rangeSize_one]; split <;> omega
 refine call_list_range (I.ok.hd hc) e (small_one (by omega) (by omega) (by omega) (by omega)) hs (Nat.le_trans hn (by decide)) fun h' tk acc c' kp he ho => ?_
 refine ⟨.ref s.heap.objs.size, _, I.laid (o := .lst (((List.range n).map fun (i : Nat) => (i : Int)).map V.int)) (t' := tk) kp (Nat.le_refl _) ⟨?_, acc.toList, c', ?_, ?_⟩, rfl, q _ (I.hok.fresh (Nat.le_refl _))⟩
 ·rw [List.length_map, List.length_map, List.length_range]
  exact Nat.le_of_lt (aJ hn)
 ·refine sE ?_ fun i x u hx hu => ?_
  ·rw [List.length_map, List.length_map, List.length_range, Array.length_toList, ho.1]
  ·have hi : i < n := by
    have := (List.getElem?_eq_some_iff.mp hx).1
    rw [List.length_map, List.length_map, List.length_range] at this
    exact this
   rw [Array.getElem?_toList] at hu
   obtain ⟨tt, rfl⟩ := ho.2 i u hu
   rw [List.getElem?_map, List.getElem?_map, List.getElem?_range hi] at hx
   cases hx
   exact ⟨tt, by show Value.int (0 + (i : Int) * 1) tt = Value.int (i : Int) tt; congr 1; omega⟩
 ·rw [he]
theorem Bb : fK X (.builtin "sorted") (fun xs H Q => ∃ (p : Addr) (ns : List Int), xs = [.ref p] /\ SqL X.K H p (ns.map V.int) /\ ns.length < 64 /\ ∀ (l : Addr) (ms : List Int), H l = none -> ms.Perm ns -> ms.Pairwise (· <= ·) -> Q (.ref l) (upd H l (.lst (ms.map V.int)))) := by
 intro pins s σ H xs us Q I r h
 obtain ⟨p, ns, rfl, hp, hl, q⟩ := h
 obtain ⟨u, rfl, rx⟩ := vals1 r
 cases rx
 obtain ⟨its, rv, pl, hz⟩ := I.list hp
 have hi := intsAre_of rv
 refine sorted_ints pl.isList hi (by rw [hi.length]; exact hl) fun out ms a1 a2 a3 => ?_
 obtain ⟨e, he⟩ := sortedAll_at s.heap its out
 refine ⟨.ref (s.heap.objs.size + 1), _, I.laid (o := .lst (ms.map V.int)) (t' := s.toks) (fun b o e => sortedAll_old e) (Nat.le_succ _) ⟨?_, out.toList, e, qR a1, he⟩, rfl, q _ ms (I.hok.fresh (Nat.le_succ _)) a2 a3⟩
 rw [List.length_map, a2.length_eq]
 exact Nat.le_of_lt (aJ (by omega))
theorem CV : ∀ (ns : List Int) (n : Nat), n <= ns.length -> preSum (fun i => ns.getD i 0) n = (ns.take n).sum := by
 intro ns n
 induction n with
 | zero => intro _; rfl
 | succ n ih =>
  intro h
  show preSum _ n + ns.getD n 0 = _
  rw [ih (by omega), List.take_succ, List.sum_append]
  have : n < ns.length := h
  rw [List.getD_eq_getElem?_getD, List.getElem?_eq_getElem this]
  simp
theorem Jg (hc : X.calm = true) : fK X (.builtin "sum") (fun xs H Q => ∃ (p : Addr) (ns : List Int), xs = [.ref p] /\ SqL X.K H p (ns.map V.int) /\ Q (.int ns.sum) H) := by
 intro pins s σ H xs us Q I r h
 obtain ⟨p, ns, rfl, hq, q⟩ := h
 obtain ⟨u, rfl, rx⟩ := vals1 r
 cases rx
 obtain ⟨its, rv, pl, hz⟩ := I.list hq
 have hl : its.toArray.size = ns.length := by rw [List.size_toArray, ← rv.length, List.length_map]
 have hp : p < s.heap.objs.size := let ⟨_, z, _⟩ := pl.isList; Heap.lt_size z
 refine call_sum_walkG (wpAny_pyIter_list pl.isList ?_)
 refine ⟨s.heap.objs.size, [s.heap.objs.size, p], [s.heap.objs.size], its.toArray.size, _, _, fun i => ns.getD i 0, rfl, Walks.list (A := X.A.in1) (I.ok.hd hc) _ p (Nat.ne_of_lt hp) its.toArray,
  ⟨⟨_, Heap.get?_push_size _ rfl, rfl, rfl⟩, pl.isList.push _⟩, fun b hb => ?_, fun i v hP => ?_, fun h' tk t' kp => ?_⟩
 ·rw [Heap.size_push]
  rcases List.mem_cons.mp hb with z | z
  ·rw [z]; exact Nat.lt_succ_self _
  ·rw [List.mem_singleton.mp z]; exact Nat.lt_succ_of_lt hp
 ·have hv : its[i]? = some v := by simpa using hP
  have hb : i < ns.length := by
   have := (List.getElem?_eq_some_iff.mp hv).1
   rw [← hl, List.size_toArray]
   exact this
  obtain ⟨u, hu, ru⟩ := rv.get (i := i) (x := V.int ns[i]) (by rw [List.getElem?_map, List.getElem?_eq_getElem hb]; rfl)
  rw [hv] at hu
  cases hu
  obtain ⟨t, rfl⟩ := ru
  refine ⟨t, ?_⟩
  show Value.int ns[i] t = Value.int (ns.getD i 0) t
  rw [List.getD_eq_getElem?_getD, List.getElem?_eq_getElem hb, Option.getD_some]
 ·refine ⟨.int ns.sum, H, I.kept (t' := tk) fun b o e => kp b o ?_ (Heap.get?_push_of_some _ e), ⟨t', ?_⟩, q⟩
  ·intro z
   have z' : b = s.heap.objs.size := by simpa using z
   exact absurd (Heap.lt_size e) (by rw [z']; exact Nat.lt_irrefl _)
  ·rw [hl, CV ns ns.length (Nat.le_refl _), List.take_length]
end
section
variable {D : Ends} {σ : St} {H : Hp} {Q : VK}
theorem Uk {d : Addr} {kvs : List (Key × V)} {P : Addr -> Prop} (hd : Rd H d (.dK kvs)) (h : P d) : ∃ a, V.ref d = .ref a /\ IsD H a /\ P a := ⟨d, rfl, .inl ⟨_, hd⟩, h⟩
end
end L2
namespace L2
open PySem PySem.Spec PyProof.Rows
theorem snoc_ind {α : Type} {P : List α -> Prop} (h0 : P []) (h1 : ∀ l a, P l -> P (l ++ [a])) (l : List α) : P l := by
 have key : ∀ r : List α, P r.reverse := by
  intro r
  induction r with
  | nil => exact h0
  | cons a r ih => rw [List.reverse_cons]; exact h1 _ _ ih
 have := key l.reverse
 rw [List.reverse_reverse] at this
 exact this
theorem Ut : ∀ (l : List Nat) (b : Nat), l.Pairwise (· < ·) -> (∀ x ∈ l, x < b) -> (l.map fun h => 2 ^ h).sum < 2 ^ b := by
 refine snoc_ind ?_ ?_
 ·intro b _ _; exact Nat.two_pow_pos b
 ·intro l h ih b hp hb
  rw [List.pairwise_append] at hp
  have h1 := ih h hp.1 fun x hx => hp.2.2 x hx h (by simp)
  have h2 : h < b := hb h (by simp)
  rw [List.map_append, List.sum_append]
  have h3 : 2 ^ (h + 1) <= 2 ^ b := Nat.pow_le_pow_right (by decide) h2
  rw [Nat.pow_succ] at h3
  simp only [List.map_cons, List.map_nil, List.sum_cons, List.sum_nil]
  omega
theorem sum_set : ∀ (l : List Nat), l.Pairwise (· < ·) -> (l.map fun h => 2 ^ h).sum = GB.Pj l := by
 refine snoc_ind ?_ ?_
 ·intro _; rfl
 ·intro l h ih hp
  rw [List.pairwise_append] at hp
  have h1 := Ut l h hp.1 fun x hx => hp.2.2 x hx h (by simp)
  have e := ih hp.1
  rw [List.map_append, List.sum_append]
  unfold GB.Pj at e ⊢
  rw [List.foldl_append, ← e]
  simp only [List.map_cons, List.map_nil, List.sum_cons, List.sum_nil, List.foldl_cons, List.foldl_nil]
  have := Nat.two_pow_add_eq_or_of_lt h1 1
  rw [Nat.mul_one] at this
  rw [Nat.add_zero, Nat.add_comm, this, Nat.or_comm]
structure Hs (hs : List Int) : Prop where
 up : hs.Pairwise (· < ·)
 rg : ∀ h ∈ hs, 0 <= h /\ h < 63
theorem Hs.nat {hs : List Int} (c : Hs hs) : ∃ l : List Nat, hs = l.map (fun (h : Nat) => (h : Int)) /\ l.Pairwise (· < ·) /\ ∀ x ∈ l, x < 63 := by
 refine ⟨hs.map Int.toNat, ?_, ?_, ?_⟩
 ·rw [List.map_map]
  conv => lhs; rw [← List.map_id hs]
  refine List.map_congr_left fun h hh => ?_
  have := (c.rg h hh).1
  show h = ((h.toNat : Nat) : Int)
  omega
 ·rw [List.pairwise_map]
  refine c.up.imp_of_mem fun {a b} ha hb h => ?_
  have := (c.rg a ha).1
  omega
 ·intro x hx
  obtain ⟨h, hh, rfl⟩ := List.mem_map.mp hx
  have := c.rg h hh
  omega
theorem Dc : ∀ l : List Nat, (l.map fun (h : Nat) => (h : Int)).sum = ((l.sum : Nat) : Int)
 | [] => rfl
 | x :: l => by rw [List.map_cons, List.sum_cons, List.sum_cons, Dc l]; omega
end L2
namespace L2
open PySem PySem.Spec PyProof.Rows
section
variable {X : Cx}
end
section
variable {X : Cx}
end
end L2
namespace L2
open PySem PySem.Spec PyProof.Rows
section
variable {X : Cx}
def VwO (v d : Addr) : HO := .ext fun h => h.IsValuesView v d
end
end L2
namespace L2
open PySem PySem.Spec PyProof.Rows
section
variable {X : Cx}
def Q8 : V -> List V -> Hp -> VK -> Prop := fun x vs H Q => ∃ d m i y, x = .ref d /\ vs = [.int i, y] /\ H d = some (.dK (dG m)) /\ m.length < 1000 /\ (∀ v, lkG m i = some v -> Q v H) /\ (lkG m i = none -> Q y (upd H d (.dK (putK (dG m) (Sum.inl i) y))))
theorem G4 : MtR X "dict.setdefault" Q8 := by
 intro pins s σ H x xs v us Q I rx rv h
 obtain ⟨d, m, i, y, rfl, rfl, hd, hl, q1, q2⟩ := h
 cases rx
 obtain ⟨u1, u2, rfl, r1, r2⟩ := rv.two
 obtain ⟨t, rfl⟩ := r1
 obtain ⟨z, hS, vs, rel, dd⟩ := QD I.hok hd
 obtain ⟨h1, h2⟩ := Ac (T := "dict") I (x := .ref d) rfl (.inr (.inr (.inl ⟨rfl, .inl ⟨_, hd⟩⟩)))
 have l1 : vs.length = m.length := by rw [← KV.length rel, M3]
 have hv := rel.val (Sum.inl i : Key)
 rw [Lp] at hv
 have hk := qt X.prog X.w i t
 refine call_meetsIn PySem.F.slot_dict_setdefault h1 PySem.F.entry_dict_setdefault (PySem.F.args_dict_setdefault_3 _ _ _) (kt_meets_setdefault (bL X.prog X.w) d hk hS u2) ⟨vs, dd, by rw [l1]; exact Nat.le_of_lt (aJ (by omega)), fun v e => ?_, fun e h' g1 sb => ?_⟩
 ·cases w : lkG m i with
  | none =>
   rw [w] at hv
   rw [RelO.none_of hv] at e
   cases e
  | some v0 =>
   rw [w] at hv
   obtain ⟨u, hu, ru⟩ := RelO.some_of hv
   rw [hu] at e
   cases e
   exact ⟨v0, H, I.tok _, ru, q1 v0 w⟩
 ·have w : lkG m i = none := by
   cases w : lkG m i with
   | none => rfl
   | some v0 =>
    rw [w] at hv
    obtain ⟨u, hu, ru⟩ := RelO.some_of hv
    rw [hu] at e
    cases e
  obtain ⟨o, es, ep, ho, rr⟩ := id g1
  have lp : (putK (dG m) (Sum.inl i) y).length <= 1000 := by
   have := mO (dG m) (Sum.inl i : Key) y
   rw [M3] at this
   omega
  exact ⟨y, _, I.write (t' := s.toks + 1) (x := d) (e := d) (o := .dK (putK (dG m) (Sum.inl i) y)) (by rw [hd]; trivial) (.inl rfl) (fun b ob n e => (sb.2 b n).trans e) ⟨o, ho⟩ (Fj (Nat.le_of_lt (aJ lp)) hS (KV.put rel (Sum.inl i : Key) r2) g1), r2, q2 w⟩
end
theorem Rq {H : Hp} {Q : VK} {d : Addr} {m : List (Int × V)} {i : Int} {y : V} (hd : H d = some (.dK (dG m))) (nd : (m.map (·.1)).Nodup) (hl : m.length < 1000) (h : ∀ v H', (lkG m i = some v /\ H' = H) ∨ (lkG m i = none /\ v = y /\ H' = upd H d (.dK (dG (vP m i y)))) -> Q v H') : Q8 (.ref d) [.int i, y] H Q :=
 ⟨d, m, i, y, rfl, rfl, hd, hl, fun v e => h v H (.inl ⟨e, rfl⟩), fun e => h y _ (.inr ⟨e, rfl, by rw [TY m i y nd]⟩)⟩
end L2
namespace GX
open PySem
section
variable {prog : Program} {w : World} {A : Around} {E : Value -> Shared -> Prop} {s : Shared} {K : Type} [DecidableEq K] {knd : KeyKind prog w K}
end
end GX
namespace L2
open PySem PySem.Spec PyProof.Rows
section
variable {X : Cx}
end
end L2
namespace GX
open PySem PyProof.Rows
abbrev p7 (h h' : Heap) : Prop := ∀ b o, h.get? b = some o -> h'.get? b = some o
section
variable {prog : Program} {w : World} {A : Around} {E : Value -> Shared -> Prop} {s : Shared} {l I S : Addr} {vs : List Value} {R : Result -> Shared -> Prop} {Q : Value -> Shared -> Prop} {h0 : Heap}
theorem oJ {h h' : Heap} (g : p7 h h') (x : h.IsList l vs.toArray) : h'.IsList l vs.toArray := let ⟨o, ho, r⟩ := x; ⟨o, g _ _ ho, r⟩
theorem Pu (kf : Nat -> Int) (dk : List (Str × Value)) (hh : A.handled = none) (hl : h0.IsList l vs.toArray) (hlI : l ≠ I) (hSI : S ≠ I) (zS : h0.get? S = none) (zI : h0.get? I = none)
  (turn : ∀ (i : Nat) (v : Value), vs[i]? = some v -> ∀ (h : Heap) (tk : Nat), p7 h0 h -> ∀ (Q' : Value -> Shared -> Prop) (E' : Value -> Shared -> Prop), (∀ tk' t, Q' (.int (kf i) t) { s with heap := h, toks := tk' }) -> wpAny (model prog w) A.in1 (call (.builtin "len") [v]) Q' E' { s with heap := h, toks := tk })
  (hR : ∀ i v h' tk', vs[i]? = some v -> (∀ j, j < vs.length -> kf i ≥ kf j /\ (j < i -> kf i > kf j)) -> p7 h0 h' -> R (.ok (.ret v)) { s with heap := h', toks := tk' }) :
  ∀ (r j i : Nat) (h : Heap) (tk : Nat) (vb : Value) (tb : Tok) (c : Nat), vs.length - (j + 1) = r -> j + 1 <= vs.length -> p7 h0 h -> h.get? S = some (seqObj "list" #[vb, .int (kf i) tb] c) -> h.IsListIter I l (j + 1) -> vs[i]? = some vb -> i <= j -> (∀ j', j' <= j -> kf i ≥ kf j' /\ (j' < i -> kf i > kf j')) ->
   codeAny (model prog w) A (.builtin "max.loop" ⟨[.ref I, .builtin "len", .ref S], dk⟩) R { s with heap := h, toks := tk } := by
 have hname : (toString "max" ++ toString ".loop" : String) = "max.loop" := by decide
 have W := Walks.list (prog := prog) (w := w) (A := A.in1) hh I l hlI vs.toArray
 have hsz : vs.toArray.size = vs.length := List.size_toArray ..
 have nS : ∀ b o, h0.get? b = some o -> b ≠ S := fun b o e z => by rw [z, zS] at e; cases e
 have nI : ∀ b o, h0.get? b = some o -> b ∉ [I] := fun b o e z => by rw [List.mem_singleton.mp z, zI] at e; cases e
 intro r
 induction r with
 | zero =>
  intro j i h tk vb tb c hr hj G gS hit hvb hij hbest
  have hin : j + 1 = vs.length := by omega
  refine codeAny_builtin PySem.F.entry_max_loop ?_
  rw [Around.under_plainId PySem.F.plain_max_loop _]
  show wpAny _ A.in1 (seqItems? (.ref S) >>= _) _ _ _
  refine wpAny_bind (wpAny_seqItems gS rfl ?_)
  show wpAny _ A.in1 (tryCatch (pyNext (.ref I)) _ >>= _) _ _ _
  refine wpAny_bind (wpAny_tryCatch (W.done _ _ _ ⟨by rw [hsz, ← hin]; exact hit, oJ G hl⟩ fun h' tk' hk' => ?_))
  have hS' := hk' S _ (by simpa using hSI) gS
  have s1 := Heap.SameBut.update h' S (Obj.mapSeq fun _ => (#[] : Array Value))
  show wpAny _ A.in1 (updateSeq S (fun _ => #[]) >>= _) _ _ _
  refine wpAny_bind ?_
  refine wpAny_updateSeq hS' rfl (wpAny_bind (wpAny_letGo (wpAny_pure ?_)))
  exact hR i vb _ _ hvb (fun j' hj' => hbest j' (by omega)) fun b o e => (s1.2 b (nS b o e)).trans (hk' b o (nI b o e) (G b o e))
 | succ r ih =>
  intro j i h tk vb tb c hr hj G gS hit hvb hij hbest
  have hlt : j + 1 < vs.length := by omega
  refine codeAny_builtin PySem.F.entry_max_loop ?_
  rw [Around.under_plainId PySem.F.plain_max_loop _]
  show wpAny _ A.in1 (seqItems? (.ref S) >>= _) _ _ _
  refine wpAny_bind (wpAny_seqItems gS rfl ?_)
  show wpAny _ A.in1 (tryCatch (pyNext (.ref I)) _ >>= _) _ _ _
  refine wpAny_bind (wpAny_tryCatch (W.item (j + 1) _ _ _ (by rw [hsz]; exact hlt) ⟨hit, oJ G hl⟩ fun v h' tk' hP hst' hk' => ?_))
  have hv : vs[j + 1]? = some v := by simpa using hP
  have G1 : p7 h0 h' := fun b o e => hk' b o (nI b o e) (G b o e)
  have gS1 := hk' S _ (by simpa using hSI) gS
  show wpAny _ A.in1 (tryCatch (holding [v] (call (.builtin "len") [v])) _ >>= _) _ _ _
  refine wpAny_bind (wpAny_tryCatch (wpAny_holding (turn (j + 1) v hv h' tk' G1 _ _ fun tk2 t2 => ?_)))
  show wpAny _ A.in1 (tryCatch (holding [v, .int (kf (j + 1)) t2] (richCompare .Gt (.int (kf (j + 1)) t2) (.int (kf i) tb) >>= _)) _ >>= _) _ _ _
  refine wpAny_bind (wpAny_tryCatch (wpAny_holding (wpAny_bind (CmpOf.ints_gt (prog := prog) (w := w) (A := A.in1) (P := fun i v => ∃ t, v = .int (kf i) t) kf (fun i v h => h) (j + 1) i _ _ _ _ _ ⟨t2, rfl⟩ ⟨tb, rfl⟩ ?_))))
  refine wpAny_bind (wpAny_holding (wpAny_truthy_bool ?_))
  refine wpAny_bind (wpAny_letGo (wpAny_pure ?_))
  by_cases hb' : kf (j + 1) > kf i
  ·have s1 := Heap.SameBut.update h' S (Obj.mapSeq fun _ => #[v, .int (kf (j + 1)) t2])
   obtain ⟨c2, hc2⟩ : ∃ c2, (h'.update S (Obj.mapSeq fun _ => #[v, .int (kf (j + 1)) t2])).get? S = some (seqObj "list" #[v, .int (kf (j + 1)) t2] c2) := ⟨_, get?_update_seq gS1 fun _ => #[v, .int (kf (j + 1)) t2]⟩
   simp only [hb', decide_true, if_true]
   refine wpAny_bind ?_
   refine wpAny_updateSeq gS1 rfl (wpAny_bind (wpAny_letGo ?_))
   rw [hname]
   obtain ⟨oI', hoI', hoc, hod⟩ := id hst'.1
   refine wpAny_pure ⟨plainId_quiet PySem.F.plain_max_loop _, ih (j + 1) (j + 1) _ _ v t2 c2 (by omega) hlt (fun b o e => (s1.2 b (nS b o e)).trans (G1 b o e)) hc2 ⟨oI', (s1.2 I hSI.symm).trans hoI', hoc, hod⟩ hv (Nat.le_refl _) fun j' hj' => ?_⟩
   by_cases e : j' = j + 1
   ·subst e
    exact ⟨by omega, fun _ => by omega⟩
   ·have hb1 := hbest j' (by omega)
    have hb2 := hb1.1
    exact ⟨by omega, fun _ => by omega⟩
  ·simp only [hb', decide_false, Bool.false_eq_true, if_false]
   refine wpAny_bind (wpAny_letGo ?_)
   rw [hname]
   refine wpAny_pure ⟨plainId_quiet PySem.F.plain_max_loop _, ih (j + 1) i _ _ vb tb c (by omega) hlt G1 gS1 hst'.1 hvb (by omega) fun j' hj' => ?_⟩
   by_cases e : j' = j + 1
   ·subst e
    exact ⟨by omega, fun _ => by omega⟩
   ·exact hbest j' (by omega)
theorem Rw (a v d : Value) : argsOk "max" ⟨[a], [(Str.ofString "key", v), (Str.ofString "default", d)]⟩ := by unfold argsOk; kernel_rfl
theorem Sh (kf : Nat -> Int) (d : Value) (hh : A.handled = none) (hl : s.heap.IsList l vs.toArray)
  (turn : ∀ (i : Nat) (v : Value), vs[i]? = some v -> ∀ (h : Heap) (tk : Nat), p7 s.heap h -> ∀ (Q' : Value -> Shared -> Prop) (E' : Value -> Shared -> Prop), (∀ tk' t, Q' (.int (kf i) t) { s with heap := h, toks := tk' }) -> wpAny (model prog w) A.in1 (call (.builtin "len") [v]) Q' E' { s with heap := h, toks := tk })
  (hD : vs = [] -> ∀ h' tk', p7 s.heap h' -> Q d { s with heap := h', toks := tk' })
  (hQ : ∀ i v h' tk', vs[i]? = some v -> (∀ j, j < vs.length -> kf i ≥ kf j /\ (j < i -> kf i > kf j)) -> p7 s.heap h' -> Q v { s with heap := h', toks := tk' }) :
  wpAny (model prog w) A (call (.builtin "max") [.ref l] [(Str.ofString "key", .builtin "len"), (Str.ofString "default", d)]) Q E s := by
 have hname : (toString "max" ++ toString ".loop" : String) = "max.loop" := by decide
 obtain ⟨ol, hol, _⟩ := id hl
 have hll : l < s.heap.objs.size := Heap.lt_size hol
 refine kmb_tree PySem.F.kind_max PySem.F.plain_max PySem.F.entry_max (Rw _ _ _) ?_
 show wpAny _ A.in1 (Builtin.Builtins.bindParams "max" ["key", "default"] 0 ⟨[], [(Str.ofString "key", .builtin "len"), (Str.ofString "default", d)]⟩ >>= _) _ _ s
 refine wpAny_bind (wpAny_of_eq (show Builtin.Builtins.bindParams "max" ["key", "default"] 0 ⟨[], [(Str.ofString "key", .builtin "len"), (Str.ofString "default", d)]⟩ = pure [some (.builtin "len"), some d] from rfl) ?_)
 refine wpAny_bind (wpAny_pure ?_)
 refine wpAny_bind (wpAny_pyIter_list hl ?_)
 refine wpAny_bind (wpAny_newList ?_ (Nat.zero_le _))
 rw [hname]
 generalize hhI : s.heap.push { cls := .type "list_iterator", data := .fields #[.ref l, .int 0 0] } = hI
 have hS : hI.objs.size = s.heap.objs.size + 1 := by rw [← hhI]; exact size_push' ..
 have gI0 : hI.get? s.heap.objs.size = some { cls := .type "list_iterator", data := .fields #[.ref l, .int 0 0] } := by rw [← hhI]; exact Heap.get?_push_size _ rfl
 have gr0 : p7 s.heap hI := fun b o e => by rw [← hhI]; exact Heap.get?_push_of_some _ e
 have hlI : l ≠ s.heap.objs.size := Nat.ne_of_lt hll
 have hSI : hI.objs.size ≠ s.heap.objs.size := by rw [hS]; exact Nat.ne_of_gt (Nat.lt_succ_self _)
 have zI : s.heap.get? s.heap.objs.size = none := Heap.get?_none_of_le (Nat.le_refl _)
 have zS : s.heap.get? hI.objs.size = none := Heap.get?_none_of_le (by rw [hS]; exact Nat.le_succ _)
 have G : p7 s.heap (hI.push (seqObj "list" #[] 0)) := fun b o e => Heap.get?_push_of_some _ (gr0 b o e)
 have gI : (hI.push (seqObj "list" #[] 0)).get? s.heap.objs.size = some { cls := .type "list_iterator", data := .fields #[.ref l, .int 0 0] } := Heap.get?_push_of_some _ gI0
 have gS : (hI.push (seqObj "list" #[] 0)).get? hI.objs.size = some (seqObj "list" #[] 0) := Heap.get?_push_size _ rfl
 have nS : ∀ b o, s.heap.get? b = some o -> b ≠ hI.objs.size := fun b o e z => by rw [z, zS] at e; cases e
 have nI : ∀ b o, s.heap.get? b = some o -> b ∉ [s.heap.objs.size] := fun b o e z => by rw [List.mem_singleton.mp z, zI] at e; cases e
 have W := Walks.list (prog := prog) (w := w) (A := A.in1) hh s.heap.objs.size l hlI vs.toArray
 have hsz : vs.toArray.size = vs.length := List.size_toArray ..
 refine wpAny_pure ⟨plainId_quiet PySem.F.plain_max_loop _, ?_⟩
 refine codeAny_builtin PySem.F.entry_max_loop ?_
 rw [Around.under_plainId PySem.F.plain_max_loop _]
 show wpAny _ A.in1 (seqItems? (.ref _) >>= _) _ _ _
 refine wpAny_bind (wpAny_seqItems gS rfl ?_)
 show wpAny _ A.in1 (tryCatch (pyNext (.ref s.heap.objs.size)) _ >>= _) _ _ _
 by_cases hne : 0 < vs.length
 ·refine wpAny_bind (wpAny_tryCatch (W.item 0 _ _ _ (by rw [hsz]; exact hne) ⟨⟨_, gI, rfl, rfl⟩, oJ G hl⟩ fun v h' tk' hP hst' hk' => ?_))
  have hv : vs[0]? = some v := by simpa using hP
  have G1 : p7 s.heap h' := fun b o e => hk' b o (nI b o e) (G b o e)
  have gS1 := hk' hI.objs.size _ (by simpa using hSI) gS
  show wpAny _ A.in1 (tryCatch (holding [v] (call (.builtin "len") [v])) _ >>= _) _ _ _
  refine wpAny_bind (wpAny_tryCatch (wpAny_holding (turn 0 v hv h' tk' G1 _ _ fun tk2 t2 => ?_)))
  have s1 := Heap.SameBut.update h' hI.objs.size (Obj.mapSeq fun _ => #[v, .int (kf 0) t2])
  obtain ⟨c2, hc2⟩ : ∃ c2, (h'.update hI.objs.size (Obj.mapSeq fun _ => #[v, .int (kf 0) t2])).get? hI.objs.size = some (seqObj "list" #[v, .int (kf 0) t2] c2) := ⟨_, get?_update_seq gS1 fun _ => #[v, .int (kf 0) t2]⟩
  show wpAny _ A.in1 (updateSeq hI.objs.size (fun _ => #[v, .int (kf 0) t2]) >>= _) _ _ _
  refine wpAny_bind ?_
  refine wpAny_updateSeq gS1 rfl ?_
  rw [hname]
  obtain ⟨oI', hoI', hoc, hod⟩ := id hst'.1
  refine wpAny_pure ⟨plainId_quiet PySem.F.plain_max_loop _, Pu kf _ hh hl hlI hSI zS zI turn hQ _ 0 0 _ _ v t2 c2 rfl hne (fun b o e => (s1.2 b (nS b o e)).trans (G1 b o e)) hc2 ⟨oI', (s1.2 _ hSI.symm).trans hoI', hoc, hod⟩ hv (Nat.le_refl _) fun j' hj' => ?_⟩
  have e : j' = 0 := by omega
  subst e
  exact ⟨by omega, fun h => absurd h (Nat.lt_irrefl _)⟩
 ·have e0 : vs = [] := List.length_eq_zero_iff.mp (by omega)
  refine wpAny_bind (wpAny_tryCatch (W.done _ _ _ ⟨⟨_, gI, rfl, by rw [hsz, e0]; rfl⟩, oJ G hl⟩ fun h' tk' hk' => ?_))
  show wpAny _ A.in1 (rule _ >>= _) _ _ _
  refine wpAny_bind (wpAny_rule (wpAny_pure ?_))
  exact hD e0 h' tk' fun b o e => hk' b o (nI b o e) (G b o e)
end
end GX
namespace L2
open PySem PySem.Spec PyProof.Rows
abbrev TLs (K : PySem.W.Frag) (H : Hp) : List V -> List Nat -> Prop := Paired fun v n => ∃ a ys, v = .ref a /\ SqT K H a ys /\ ys.length = n
def Q4 (K : PySem.W.Frag) (te td : TE) : TE := fun σ H Q => te σ H fun x H1 => td σ H1 fun y H2 => ∃ l vs ns, x = .ref l /\ SqL K H2 l vs /\ TLs K H2 vs ns /\ (vs = [] -> Q y H2) /\ ∀ (i : Nat) v n, vs[i]? = some v -> ns[i]? = some n -> (∀ j m, ns[j]? = some m -> m <= n /\ (j < i -> m < n)) -> Q v H2
theorem bC {α β : Type} {F : α -> β -> Prop} : ∀ {l : List α} {m : List β} {i : Nat} {a : α}, Paired F l m -> l[i]? = some a -> ∃ b, m[i]? = some b /\ F a b
 | _, _, _, _, .nil, e => by simp at e
 | _, _, 0, _, .cons h _, e => by simp at e; subst e; exact ⟨_, rfl, h⟩
 | _, _, i + 1, x, .cons _ t, e => by
  obtain ⟨b, h1, h2⟩ := bC (i := i) t (by simpa using e)
  exact ⟨b, by simpa using h1, h2⟩
section
variable {X : Cx}
theorem Jl {K : PySem.W.Frag} {e dflt : Expr} {te td : TE} {p p2 pos k1 k2 : Pos} (hK : X.K = K) (hc : X.calm = true) (ha : PA X [e] (wK te Ez)) (hd : PE X dflt td) (hg : Gl X "max") (hm : X.mg "max" = none) (hgl : Gl X "len") (hml : X.mg "len" = none)
  (h1 : backTo pos (starEach [e] X.env) = (false, eval e X.env) :: backTo pos (starEach [] X.env) := by rfl) (h2 : (backTo pos (starEach [e] X.env)).any (·.1) = false := by rfl) :
  PE X (.Call (.Name "max" p) [e] [⟨some "key", .Name "len" p2, k1⟩, ⟨some "default", dflt, k2⟩] pos) (Q4 K te td) := by
 subst hK
 intro pins s σ H Q I h
 refine wpAny_Call_Name_kw (o9 I hg hm PyProof.Rows.boot_max ?_)
 refine PyProof.Rows.callWith_kw ?_ h1 h2
 refine thn (ha pos pins s σ H (fun vs H1 => match vs with | [x] => td σ H1 fun y H2 => ∃ l vs ns, x = .ref l /\ SqL X.K H2 l vs /\ TLs X.K H2 vs ns /\ (vs = [] -> Q y H2) /\ ∀ (i : Nat) v n, vs[i]? = some v -> ns[i]? = some n -> (∀ j m, ns[j]? = some m -> m <= n /\ (j < i -> m < n)) -> Q v H2 | _ => False) I h) fun us s1 ⟨vs, H1, I1, r1, q1⟩ => ?_
 obtain ⟨x, rfl⟩ : ∃ x, vs = [x] := by
  match vs, q1 with
  | [x], _ => exact ⟨x, rfl⟩
 obtain ⟨u, rfl, rx⟩ := vals1 r1
 refine PyProof.Rows.kws_cons (o9 I1 hgl hml PySem.boot_len ?_)
 refine PyProof.Rows.kws_cons (thn (hd pins s1 σ H1 _ I1 q1) fun w s2 ⟨y, H2, I2, ry, l, xs, ns, ex, hl, ht, q0, q⟩ => ?_)
 subst ex
 cases rx
 refine PyProof.Rows.kws_nil ?_
 obtain ⟨its, rv, pl, hz⟩ := I2.list hl
 have l63 := uz
 have lx := rv.length
 have ln : xs.length = ns.length := Paired.length ht
 have lens : ∀ (i : Nat) v, its[i]? = some v -> ∃ x n a ys, xs[i]? = some x /\ ns[i]? = some n /\ x = .ref a /\ v = .ref a /\ SqT X.K H2 a ys /\ ys.length = n := by
  intro i v e
  have hi : i < xs.length := by rw [lx]; exact (List.getElem?_eq_some_iff.mp e).1
  obtain ⟨n, hn, a, ys, ea, hs, hl⟩ := bC ht (List.getElem?_eq_getElem hi)
  obtain ⟨u, hu, ru⟩ := rv.get (List.getElem?_eq_getElem hi)
  rw [e] at hu
  cases hu
  rw [ea] at ru
  exact ⟨_, n, a, ys, List.getElem?_eq_getElem hi, hn, ea, ru, hs, hl⟩
 show wpAny _ _ (call (.builtin "max") [Value.ref l] [(Str.ofString "key", .builtin "len"), (Str.ofString "default", w)]) _ _ _
 refine GX.Sh (fun i => ((ns.getD i 0 : Nat) : Int)) w (I2.ok.hd hc) pl.isList (fun i v hv h tk G Q' E' hq => ?_) (fun e h' tk' G => ?_) (fun i v h' tk' hv best G => ?_)
 ·obtain ⟨x, n, a, ys, hx, hn, rfl, rfl, hs, hl⟩ := lens i v hv
  obtain ⟨its2, r2, tp, hz2⟩ := I2.tuple hs
  have l2 := r2.length
  refine len_tuple (s := { s2 with heap := h, toks := tk }) (tp.keeps G) (by simp only [List.size_toArray] <;> omega) ?_
  have e : ((its2.toArray.size : Nat) : Int) = ((ns.getD i 0 : Nat) : Int) := by
   rw [List.size_toArray, ← l2, hl, List.getD_eq_getElem?_getD, hn]
   rfl
  rw [e]
  exact hq _ _
 ·rw [e] at lx
  exact ⟨y, H2, I2.kept (t' := tk') G, ry, q0 (List.length_eq_zero_iff.mp lx)⟩
 ·obtain ⟨x, n, a, ys, hx, hn, rfl, rfl, hs, hl⟩ := lens i v hv
  refine ⟨.ref a, H2, I2.kept (t' := tk') G, rfl, q i _ n hx hn fun j m hm => ?_⟩
  have hj := (List.getElem?_eq_some_iff.mp hm).1
  have b := best j (by omega)
  simp only [List.getD_eq_getElem?_getD, hn, hm, Option.getD_some] at b
  omega
end
theorem R4 {K : PySem.W.Frag} {te td : TE} {σ : St} {H : Hp} {Q : VK} (h : te σ H fun x H1 => td σ H1 fun y H2 => ∃ l vs ns, x = .ref l /\ SqL K H2 l vs /\ TLs K H2 vs ns /\ (vs = [] -> Q y H2) /\ ∀ (i : Nat) v n, vs[i]? = some v -> ns[i]? = some n -> (∀ j m, ns[j]? = some m -> m <= n /\ (j < i -> m < n)) -> Q v H2) : Q4 K te td σ H Q := h
end L2
namespace HT
open PySem PyProof.Rows
section
open PySem.SeqAt
open PySem.AutoSeq1 (wpAny_loadPart')
open PySem.MeetsSeq PySem.MeetsSeq2 PySem.MeetsSeq3
end
section
variable {prog : Program} {w : World} {A : Around} {E : Value -> Shared -> Prop} {s : Shared}
end
end HT
namespace L2
open PySem PySem.Spec PyProof.Rows
section
variable {X : Cx}
end
section
variable {me hd ba ye vo re ag v : V}
end
end L2
namespace GX
open PySem PyProof.Rows
section
variable {prog : Program} {w : World} {A : Around} {R : Result -> Shared -> Prop} {I d : Addr} {fp wr : List Addr} {n : Nat} {P : Nat -> Value -> Prop} {St : Nat -> Heap -> Prop} {K : Type} [DecidableEq K] {knd : KeyKind prog w K}
def jn (kx : List (List K × Addr × Value)) : List (List K × Addr × Value) := kx.foldl (fun acc p => storedH acc p.1 p.2.1 p.2.2) []
theorem zM (kx : List (List K × Addr × Value)) (p : List K × Addr × Value) : jn (kx ++ [p]) = storedH (jn kx) p.1 p.2.1 p.2.2 := by
 unfold jn
 rw [List.foldl_append]
 rfl
theorem Ce {xs : List (List K × Addr × Value)} {k : List K} {b : Addr} {v : Value} {x : List K × Addr × Value} (h : x ∈ storedH xs k b v) : (∃ y ∈ xs, y.1 = x.1 /\ y.2.1 = x.2.1) ∨ x = (k, b, v) := by
 unfold storedH at h
 by_cases z : (atKey xs k).isSome = true
 ·rw [if_pos z] at h
  obtain ⟨y, hy, e⟩ := List.mem_map.mp h
  refine .inl ⟨y, hy, ?_⟩
  rw [← e]
  unfold putAt
  split <;> exact ⟨rfl, rfl⟩
 ·rw [if_neg z] at h
  rcases List.mem_append.mp h with q | q
  ·exact .inl ⟨x, q, rfl, rfl⟩
  ·exact .inr (List.mem_singleton.mp q)
theorem Ec (xs : List (List K × Addr × Value)) (k : List K) (b : Addr) (v : Value) : (storedH xs k b v).length <= xs.length + 1 := by
 unfold storedH
 split
 ·rw [List.length_map]; omega
 ·rw [List.length_append]; exact Nat.le_refl _
theorem p8 {G : List K -> Addr -> Prop} : ∀ (kx acc : List (List K × Addr × Value)), (∀ x ∈ acc, G x.1 x.2.1) -> (∀ p ∈ kx, G p.1 p.2.1) -> (∀ x ∈ kx.foldl (fun acc p => storedH acc p.1 p.2.1 p.2.2) acc, G x.1 x.2.1) /\ (kx.foldl (fun acc p => storedH acc p.1 p.2.1 p.2.2) acc).length <= acc.length + kx.length
 | [], acc, ha, _ => ⟨ha, Nat.le_refl _⟩
 | p :: kx, acc, ha, h => by
  have hp := h p List.mem_cons_self
  have := p8 (G := G) kx (storedH acc p.1 p.2.1 p.2.2) (fun x hx => by
   rcases Ce hx with ⟨y, hy, e1, e2⟩ | e
   ·have := ha y hy
    rw [e1, e2] at this
    exact this
   ·rw [e]; exact hp) (fun q hq => h q (List.mem_cons_of_mem _ hq))
  refine ⟨this.1, ?_⟩
  have l := Ec acc p.1 p.2.1 p.2.2
  have l2 := this.2
  rw [List.foldl_cons, List.length_cons]
  omega
theorem DK {h h' : Heap} {k : List K} {b : Addr} (x : IsTupleKey knd h k b) (e : ∀ o, h.get? b = some o -> h'.get? b = some o) : IsTupleKey knd h' k b := by
 obtain ⟨o, items, n, ho, r⟩ := x
 exact ⟨o, items, n, e o ho, r⟩
def DT (knd : KeyKind prog w K) (h : Heap) (d : Addr) (xs : List (List K × Addr × Value)) : Prop := ∃ o es ep, h.get? d = some o /\ o.ExactDict /\ o.data = .dict es ep /\ es.toList = xs.map (entryOfKey (tupleKind knd)) /\ (xs.map (·.1)).Nodup
theorem Iv (W : Walks prog w A.in1 I fp wr n P St) (nd : d ∉ fp) (h₀ : Heap) (kx : List (List K × Addr × Value)) (hn : kx.length = n) (hz : n <= sizeLine) (hu : (tupleKind knd).room A.in1)
  (hK : ∀ p ∈ kx, IsTupleKey knd h₀ p.1 p.2.1 /\ p.2.1 ≠ d /\ p.2.1 ∉ wr)
  (hP : ∀ i v, P i v -> ∃ a k b x o c, v = .ref a /\ kx[i]? = some (k, b, x) /\ h₀.get? a = some o /\ o.cls = .type "tuple" /\ o.data = .seq #[.ref b, x] c /\ a ≠ d /\ a ∉ wr) :
  ∀ (k i : Nat) (s : Shared) (t : Tok), n = i + k -> St i s.heap -> (∀ b o, b ∉ wr -> b ≠ d -> h₀.get? b = some o -> s.heap.get? b = some o) -> DT knd s.heap d (jn (kx.take i)) ->
  (∀ h' tk, (∀ b o, b ∉ wr -> b ≠ d -> h₀.get? b = some o -> h'.get? b = some o) -> DT knd h' d (jn kx) -> R (.ok (.ret .none)) { s with heap := h', toks := tk }) ->
  codeAny (model prog w) A (.builtin "dict.update.loop" ⟨[.ref d, .ref I, .int i t, .none], []⟩) R s := by
 have nw : d ∉ wr := fun z => nd (W.sub _ z)
 have isAt : ∀ (h : Heap) (j : Nat), (∀ b o, b ∉ wr -> b ≠ d -> h₀.get? b = some o -> h.get? b = some o) -> ∀ x ∈ jn (kx.take j), IsTupleKey knd h x.1 x.2.1 := fun h j kp => (p8 (G := fun k b => IsTupleKey knd h k b) (kx.take j) [] (fun x hx => (nomatch hx)) (fun p hp => by
  obtain ⟨q1, q2, q3⟩ := hK p (List.mem_of_mem_take hp)
  exact DK q1 fun o e => kp _ o q3 q2 e)).1
 intro k
 induction k with
 | zero =>
  intro i s t en st kp dd fin
  refine codeAny_builtin jm ?_
  rw [Around.under_plainId cB _]
  show wpAny _ A.in1 (pyNext (.ref I) >>= _) _ _ s
  have e1 : n = i := by omega
  refine wpAny_bind (W.done s _ _ (e1 ▸ st) fun h' tk kk => ?_)
  show wpAny _ _ (Builtin.Dict.addKeywords d [] >>= _) _ _ _
  refine wpAny_bind (wpAny_pure (wpAny_pure (fin h' tk (fun b o nb nb' e => kk b o nb (kp b o nb nb' e)) ?_)))
  have e2 : kx.take i = kx := by rw [← e1, ← hn, List.take_length]
  rw [e2] at dd
  obtain ⟨od, es, ep, ho, r⟩ := dd
  exact ⟨od, es, ep, kk d od nw ho, r⟩
 | succ k ih =>
  intro i s t en st kp dd fin
  refine codeAny_builtin jm ?_
  rw [Around.under_plainId cB _]
  show wpAny _ A.in1 (pyNext (.ref I) >>= _) _ _ s
  refine wpAny_bind (W.item i s _ _ (by omega) st fun v h' tk pv st' kk => ?_)
  obtain ⟨a, kk2, b, x, o, c, rfl, hx, ha, hc, hd, na, naw⟩ := hP i v pv
  have kp' : ∀ b o, b ∉ wr -> b ≠ d -> h₀.get? b = some o -> h'.get? b = some o := fun b o nb nb' e => kk b o nb (kp b o nb nb' e)
  have ha' : h'.get? a = some o := kp' a o naw na ha
  have dd' : h'.DictOfH (tupleKind knd) d (jn (kx.take i)) := by
   obtain ⟨od, es, ep, ho, r1, r2, r3, r4⟩ := dd
   exact ⟨od, es, ep, kk d od nw ho, r1, r2, r3, isAt h' i kp', r4⟩
  have hT : ({ s with heap := h', toks := tk } : Shared).TypeIs (.ref a) "tuple" := ⟨o, ha', hc⟩
  obtain ⟨q1, q2, q3⟩ := hK _ (List.mem_of_getElem? hx)
  have hb' : IsTupleKey knd h' kk2 b := DK q1 fun o e => kp' _ o q3 q2 e
  show wpAny _ _ (holding [.ref a] _ >>= _) _ _ _
  refine wpAny_bind (wpAny_holding (wpAny_bind (wpAny_tryCatch ?_)))
  unfold Builtin.Dict.pairItems
  refine wpAny_bind (wpAny_typeOf hT ?_)
  rw [if_pos (by decide)]
  refine wpAny_bind (wpAny_seqItems ha' hd (wpAny_pure ?_))
  show wpAny _ _ (holding [.ref b, x] (dictSet d (.ref b) x)) _ _ _
  have hl := (p8 (G := fun _ _ => True) (kx.take i) [] (fun _ _ => trivial) (fun _ _ => trivial)).2
  refine wpAny_holding (wpAny_dictSet_heap (knd := tupleKind knd) hu hb' dd' (fun h2 d2 sb => ?_) (Nat.le_trans hl (by rw [List.length_take, List.length_nil]; omega)))
  have e3 : ((i : Int) + 1) = ((i + 1 : Nat) : Int) := by push_cast; rfl
  have e4 : jn (kx.take (i + 1)) = storedH (jn (kx.take i)) kk2 b x := by
   rw [List.take_succ, hx]
   exact zM _ _
  rw [← e4] at d2
  refine wpAny_pure ⟨plainId_quiet cB _, ?_⟩
  show codeAny _ _ (.builtin "dict.update.loop" ⟨[.ref d, .ref I, .int ((i : Int) + 1) 0, .none], []⟩) _ _
  rw [e3]
  obtain ⟨od, es, ep, ho, r1, r2, r3, _, r4⟩ := d2
  refine ih (i + 1) _ 0 (by omega) (W.frame _ _ _ st' fun b hb o e => (sb.2 b (fun z => nd (z ▸ hb))).trans e) (fun b o nb nb' e => (sb.2 b nb').trans (kp' b o nb nb' e)) ⟨od, es, ep, ho, r1, r2, r3, r4⟩ fun h3 tk3 k3 d3 => fin h3 tk3 k3 d3
end
section
variable {prog : Program} {w : World} {A : Around} {E : Value -> Shared -> Prop} {s : Shared} {K : Type} [DecidableEq K] {knd : KeyKind prog w K}
theorem yJ {l : Addr} {vs : List Value} {n : Nat} {kx : List (List K × Addr × Value)} {Q : Value -> Shared -> Prop} (hA : A.handled = none) (hu : (tupleKind knd).room A.in1.in1)
  (hl : s.heap.get? l = some { cls := .type "list", dict := none, data := .seq vs.toArray n, slots := #[] }) (hz : vs.length <= sizeLine) (hlen : kx.length = vs.length)
  (hK : ∀ p ∈ kx, IsTupleKey knd s.heap p.1 p.2.1)
  (hP : ∀ (i : Nat) v, vs[i]? = some v -> ∃ a k b x o c, v = .ref a /\ kx[i]? = some (k, b, x) /\ s.heap.get? a = some o /\ o.cls = .type "tuple" /\ o.data = .seq #[.ref b, x] c)
  (h : ∀ h' tk, (∀ b o, s.heap.get? b = some o -> h'.get? b = some o) -> DT knd h' s.heap.objs.size (jn kx) -> Q (.ref s.heap.objs.size) { s with heap := h', toks := tk }) :
  wpAny (model prog w) A (call (.type "dict") [.ref l]) Q E s := by
 refine callType_codes (Q₁ := fun obj s₁ => obj = .ref s.heap.objs.size /\ s₁ = { s with heap := s.heap.push { cls := .type "dict", data := .dict #[] } }) F.kt_called_dict (F.kt_typeCall_dict_1 _) F.entry_dict_init (kt_code_dict_new _ ⟨rfl, rfl⟩) ?_
 rintro obj s₁ ⟨rfl, rfl⟩
 have hnew : (s.heap.push { cls := .type "dict", data := .dict #[] }).DictOfH (tupleKind knd) s.heap.objs.size [] := Heap.DictOfH.new s.heap
 have hl' : (s.heap.push { cls := .type "dict", data := .dict #[] }).get? l = some { cls := .type "list", dict := none, data := .seq vs.toArray n, slots := #[] } := Heap.get?_push_of_some _ hl
 refine ⟨hnew.typeIs, F.args_dict_init_2 _ _, ?_⟩
 unfold Builtin.«dict.__init__»
 refine wpAny_bind ?_
 unfold Builtin.Dict.selfAndRest
 refine wpAny_bind (wpAny_notOrdered_dict hnew.typeIs ?_)
 show wpAny _ _ (pure (s.heap.objs.size, [Value.ref l])) _ _ _
 refine wpAny_pure ?_
 show wpAny _ _ (Builtin.Dict.updateFrom "dict.__init__" s.heap.objs.size (.ref l) [] .none) _ _ _
 unfold Builtin.Dict.updateFrom
 refine wpAny_bind (wpAny_typeOf (T := "list") ⟨_, hl', rfl⟩ ?_)
 rw [if_pos (by decide)]
 refine wpAny_bind (Hd hA hl' fun h1 tk1 k1 => ?_)
 show wpAny _ _ (rule _ >>= _) _ _ _
 refine wpAny_bind (wpAny_rule ?_)
 have hl1 := k1 l _ hl'
 have lt1 : l < h1.objs.size := Heap.lt_size hl1
 have ld : l < s.heap.objs.size := Heap.lt_size hl
 have il : h1.IsList l vs.toArray := ⟨_, hl1, rfl, n, rfl⟩
 have d1 : DT knd h1 s.heap.objs.size [] := by
  obtain ⟨od, es, ep, ho, r1, r2, r3, _, r4⟩ := hnew
  exact ⟨od, es, ep, k1 _ _ ho, r1, r2, r3, r4⟩
 have dlt : s.heap.objs.size < h1.objs.size := by
  obtain ⟨od, es, ep, ho, r⟩ := d1
  exact Heap.lt_size ho
 have hI : ∀ {b : Addr}, b < h1.objs.size -> b ≠ h1.objs.size := fun z => Nat.ne_of_lt z
 have nw : ∀ {b : Addr}, b < s.heap.objs.size -> b ∉ [h1.objs.size] := fun {b} hb z => by
  have z' : b = h1.objs.size := by simpa using z
  exact absurd (Nat.lt_trans hb dlt) (by rw [z']; exact Nat.lt_irrefl _)
 refine wpAny_bind (wpAny_pyIter_list (s := { s with heap := h1, toks := tk1 }) il ?_)
 refine wpAny_pure ⟨plainId_quiet cB _, ?_⟩
 have W := Walks.list (prog := prog) (w := w) (A := A.in1.in1) hA h1.objs.size l (hI lt1) vs.toArray
 refine Iv (A := A.in1) (knd := knd) W (d := s.heap.objs.size) ?_ s.heap kx (by rw [hlen, List.size_toArray]) (by rw [List.size_toArray]; exact hz) hu (fun p hp => ?_) (fun i v hv => ?_) vs.toArray.size 0 _ 0 (by omega)
  ⟨⟨_, Heap.get?_push_size _ rfl, rfl, rfl⟩, il.push _⟩ (fun b o _ nb e => Heap.get?_push_of_some _ (k1 b o (Heap.get?_push_of_some _ e))) ?_ fun h2 tk2 k2 d2 => ?_
 ·intro z
  have z' : s.heap.objs.size = h1.objs.size ∨ s.heap.objs.size = l := by simpa using z
  rcases z' with z' | z'
  ·exact absurd dlt (by rw [z']; exact Nat.lt_irrefl _)
  ·exact absurd ld (by rw [z']; exact Nat.lt_irrefl _)
 ·have q := hK p hp
  obtain ⟨o, items, m, ho, r⟩ := id q
  exact ⟨q, Nat.ne_of_lt (Heap.lt_size ho), nw (Heap.lt_size ho)⟩
 ·obtain ⟨a, k, b, x, o, c, e1, e2, e4, e5, e6⟩ := hP i v (by simpa using hv)
  exact ⟨a, k, b, x, o, c, e1, e2, e4, e5, e6, Nat.ne_of_lt (Heap.lt_size e4), nw (Heap.lt_size e4)⟩
 ·obtain ⟨od, es, ep, ho, r⟩ := d1
  exact ⟨od, es, ep, Heap.get?_push_of_some _ ho, r⟩
 ·exact ⟨rfl, h h2 tk2 (fun b o e => k2 b o (nw (Heap.lt_size e)) (Nat.ne_of_lt (Heap.lt_size e)) e) d2⟩
end
end GX
namespace L2
open PySem PySem.Spec PyProof.Rows
abbrev FQ (H : Hp) : List V -> List (List Key × V) -> Prop := Paired fun x q => ∃ a b, x = .ref a /\ H a = some (.tup [.ref b, q.2]) /\ H b = some (.tup (q.1.map kV))
def oE (ps : List (List Key × V)) : List (List Key × V) := ps.foldl (fun acc p => putK acc p.1 p.2) []
section
variable {X : Cx}
theorem zb {pins : List (Addr × Obj)} {σ : St} {H : Hp} {s : Shared} (I : Inv X pins σ H s) : ∀ {xs : List V} {us : List Value} {ps : List (List Key × V)}, FQ H xs ps -> Vals xs us ->
  ∃ kx : List (List Key × Addr × Value), Paired (fun (p : List Key × V) (q : List Key × Addr × Value) => p.1 = q.1 /\ H q.2.1 = some (.tup (p.1.map kV)) /\ RelV p.2 q.2.2) ps kx /\ kx.length = us.length /\ ∀ (i : Nat) v, us[i]? = some v -> ∃ a k b x o c, v = .ref a /\ kx[i]? = some (k, b, x) /\ s.heap.get? a = some o /\ o.cls = .type "tuple" /\ o.data = .seq #[.ref b, x] c
 | _, _, _, .nil, .nil => ⟨[], .nil, rfl, fun i v e => by simp at e⟩
 | x :: xs, u :: us, p :: ps, .cons h t, .cons r q => by
  obtain ⟨kx, k1, k2, k3⟩ := zb I t q
  obtain ⟨a, b, rfl, ha, hb⟩ := h
  obtain rfl : u = Value.ref a := r
  obtain ⟨_, its, rv, o, ho, hc, n, hd, _⟩ : [V.ref b, p.2].length <= sizeLine /\ ∃ its : List Value, Vals [V.ref b, p.2] its /\ IsTpl s.heap a its.toArray := I.hok a _ ha
  obtain ⟨u1, u2, rfl, r1, r2⟩ := vals2 rv
  obtain rfl : u1 = Value.ref b := r1
  refine ⟨(p.1, b, u2) :: kx, .cons ⟨rfl, hb, r2⟩ k1, congrArg (· + 1) k2, fun i v e => ?_⟩
  cases i with
  | zero =>
   have e' : Value.ref a = v := Option.some.inj e
   subst e'
   exact ⟨a, p.1, b, u2, o, n, rfl, rfl, ho, hc, hd⟩
  | succ i => exact k3 i v e
theorem Im {H : Hp} : ∀ {ps : List (List Key × V)} {kx : List (List Key × Addr × Value)}, Paired (fun (p : List Key × V) (q : List Key × Addr × Value) => p.1 = q.1 /\ H q.2.1 = some (.tup (p.1.map kV)) /\ RelV p.2 q.2.2) ps kx -> ∀ {acc : List (List Key × V)} {xs : List (List Key × Addr × Value)}, KT H acc xs ->
  KT H (ps.foldl (fun acc p => putK acc p.1 p.2) acc) (kx.foldl (fun acc p => storedH acc p.1 p.2.1 p.2.2) xs)
 | _, _, .nil, _, _, h => h
 | p :: ps, q :: kx, .cons ⟨e1, e2, e3⟩ t, acc, xs, h => by
  rw [List.foldl_cons, List.foldl_cons]
  refine Im t ?_
  rw [← e1]
  exact h.put p.1 e2 e3
theorem Hb (ps : List (List Key × V)) : ∀ acc : List (List Key × V), (ps.foldl (fun acc p => putK acc p.1 p.2) acc).length <= acc.length + ps.length := by
 induction ps with
 | nil => intro acc; exact Nat.le_refl _
 | cons p ps ih =>
  intro acc
  have h1 := ih (putK acc p.1 p.2)
  have h2 := mO acc p.1 p.2
  rw [List.foldl_cons, List.length_cons]
  omega
theorem Eh (hc : X.calm = true) (hu : X.A.units + 2 < cLine) : fK X (.type "dict") (fun xs H Q => ∃ (a : Addr) (ys : List V) (ps : List (List Key × V)), xs = [.ref a] /\ H a = some (.lst ys) /\ FQ H ys ps /\ ps.length <= 1000 /\ ∀ p, H p = none -> Q (.ref p) (upd H p (.dT (oE ps)))) := by
 intro pins s σ H xs us Q I r h
 obtain ⟨a, ys, ps, rfl, ha, hp, hl, q⟩ := h
 obtain ⟨u, rfl, rx⟩ := vals1 r
 cases rx
 obtain ⟨z, its, n, rv, hlen, e⟩ := I.lstM ha
 obtain ⟨kx, k1, k2, k3⟩ := zb I hp rv
 have hK : ∀ p ∈ kx, IsTupleKey (bL X.prog X.w) s.heap p.1 p.2.1 := by
  have all : ∀ {l : List (List Key × V)} {m : List (List Key × Addr × Value)}, Paired (fun (p : List Key × V) (q : List Key × Addr × Value) => p.1 = q.1 /\ H q.2.1 = some (.tup (p.1.map kV)) /\ RelV p.2 q.2.2) l m -> ∀ x ∈ m, IsTupleKey (bL X.prog X.w) s.heap x.1 x.2.1 := by
   intro l m q
   induction q with
   | nil => intro x hx; exact nomatch hx
   | @cons a b as bs h t ih =>
    intro x hx
    rcases List.mem_cons.mp hx with z | z
    ·rw [z, ← h.1]; exact rN I.hok h.2.1
    ·exact ih x z
  exact all k1
 refine GX.yJ (knd := bL X.prog X.w) (I.ok.hd hc) ?_ e (by rw [← hlen]; exact z) k2 hK k3 fun h' tk kp dd => ?_
 ·exact hu
 have I0 : Inv X pins σ H { s with heap := h', toks := tk } := I.kept kp
 obtain ⟨o, es, ep, ho, r1, r2, r3, r4⟩ := dd
 refine ⟨.ref s.heap.objs.size, _, I.laid (o := .dT (oE ps)) (t' := tk) kp (Nat.le_refl _) ⟨?_, beq_eq_false_iff_ne.mpr (Ne.symm (Nat.ne_of_lt I.big)), GX.jn kx, ?_, o, es, ep, ho, r1, r2, r3, r4⟩, rfl, q _ (I.hok.fresh (Nat.le_refl _))⟩
 ·have := Hb ps []
  rw [List.length_nil] at this
  exact Nat.le_of_lt (aJ (by unfold oE; omega))
 ·refine (Im k1 .nil).keeps fun c zs ec => ?_
  rw [aL (aC ec (I.hok.fresh (Nat.le_refl _)))]
  exact ec
end
end L2
namespace L2
open PySem PySem.Spec PyProof.Rows
abbrev Cx.one (X : Cx) : Cx := { X with A := X.A.in1, xe := fun _ _ => False }
section
variable {X : Cx} {pins : List (Addr × Obj)} {σ : St} {H : Hp} {s : Shared}
theorem Inv.one (I : Inv X pins σ H s) : Inv X.one pins σ H s :=
 ⟨⟨I.ok.mod, I.ok.kind, I.ok.glob, I.ok.blt, I.ok.above, I.ok.inj, I.ok.has, I.ok.cab, I.ok.hd, I.ok.frames, I.ok.stk, I.ok.exf, I.ok.bs, I.ok.bsz, I.ok.noex, I.ok.exfs, I.ok.funs, I.ok.frf⟩, I.os, I.bare, I.base, I.loc, I.cell, I.free, I.freeC, I.pin, I.hok, I.len⟩
theorem Inv.back (ok : X.Ok) (I : Inv X.one pins σ H s) : Inv X pins σ H s :=
 ⟨ok, I.os, I.bare, I.base, I.loc, I.cell, I.free, I.freeC, I.pin, I.hok, I.len⟩
end
theorem Be : ∀ a : List Int, HT.lexLt a a = false
 | [] => rfl
 | x :: a => by rw [HT.oW, if_pos rfl]; exact Be a
theorem Dd : ∀ {a b : List Int}, HT.lexLt a b = true -> HT.lexLt b a = false
 | [], [], h => by cases h
 | [], _ :: _, _ => rfl
 | _ :: _, [], h => by cases h
 | x :: a, y :: b, h => by
  rw [HT.oW] at h ⊢
  by_cases z : x = y
  ·rw [if_pos z] at h
   rw [if_pos z.symm]
   exact Dd h
  ·rw [if_neg z] at h
   rw [if_neg (fun w => z w.symm)]
   have h := of_decide_eq_true h
   exact decide_eq_false (by omega)
theorem HQ : ∀ {a b c : List Int}, HT.lexLt a b = true -> HT.lexLt c b = false -> HT.lexLt a c = true
 | [], [], _, h, _ => by cases h
 | _ :: _, [], _, h, _ => by cases h
 | [], _ :: _, [], _, h => by cases h
 | [], _ :: _, _ :: _, _, _ => rfl
 | x :: a, y :: b, [], h, h2 => by cases h2
 | x :: a, y :: b, z :: c, h, h2 => by
  rw [HT.oW] at h h2 ⊢
  by_cases e1 : x = y
  ·rw [if_pos e1] at h
   by_cases e2 : z = y
   ·rw [if_pos e2] at h2
    rw [if_pos (e1.trans e2.symm)]
    exact HQ h h2
   ·rw [if_neg e2] at h2
    have h2 := of_decide_eq_false h2
    rw [if_neg (fun w => e2 (w.symm.trans e1))]
    exact decide_eq_true (by omega)
  ·rw [if_neg e1] at h
   have h := of_decide_eq_true h
   by_cases e2 : z = y
   ·rw [if_neg (fun w => e1 (w.trans e2))]
    exact decide_eq_true (by omega)
   ·rw [if_neg e2] at h2
    have h2 := of_decide_eq_false h2
    rw [if_neg (by omega)]
    exact decide_eq_true (by omega)
section
variable {X : Cx} {pins : List (Addr × Obj)} {σ : St} {H0 : Hp} {l I S f : Addr} {xs : List V} {its : List Value} {ks : List (List Int)} {R : Result -> Shared -> Prop} {k : Nat} {fd : FuncData} {ps : List Str} {sp : Sp}
theorem O2 (dk : List (Str × Value)) (hh : X.A.handled = none) (hu : X.A.units + 2 < cLine) (F : FnOk X.prog X.w X.K X.mg X.base CX0 k f fd ps sp) (hr : Room k X.A.in1) (hb : Binds X.K fd ps [])
  (hS0 : SqL X.K H0 l xs) (rv : Vals xs its) (lk : xs.length = ks.length) (hlI : l ≠ I) (hSI : S ≠ I)
  (lst : ∀ s H, Inv X pins σ H s -> Same H0 H -> s.heap.IsList l its.toArray)
  (KY : ∀ (i : Nat) x k H3 (Q' : VK), xs[i]? = some x -> ks[i]? = some k -> Same H0 H3 -> (∀ H4 t, Same H3 H4 -> SqT X.K H4 t (k.map V.int) -> Q' (.ref t) H4) -> sp [x] H3 Q' E0)
  (hR : ∀ (i : Nat) v kb s' H', its[i]? = some v -> ks[i]? = some kb -> (∀ (j' : Nat) k', ks[j']? = some k' -> HT.lexLt k' kb = false /\ (j' < i -> HT.lexLt kb k' = true)) -> Inv X pins σ H' s' -> Same H0 H' -> R (.ok (.ret v)) s') :
  ∀ (r j i : Nat) (s : Shared) (H : Hp) (bt : Addr) (c : Nat) (vb : Value) (kb : List Int), xs.length - (j + 1) = r -> j + 1 <= xs.length -> Inv X pins σ H s -> Same H0 H -> SqT X.K H bt (kb.map V.int) -> s.heap.get? S = some (seqObj "list" #[vb, .ref bt] c) -> s.heap.IsListIter I l (j + 1) -> nG X pins H S -> nG X pins H I ->
   its[i]? = some vb -> ks[i]? = some kb -> i <= j -> (∀ (j' : Nat) k', j' <= j -> ks[j']? = some k' -> HT.lexLt k' kb = false /\ (j' < i -> HT.lexLt kb k' = true)) ->
   codeAny (model X.prog X.w) X.A (.builtin "min.loop" ⟨[.ref I, .ref f, .ref S], dk⟩) R s := by
 have hname : (toString "min" ++ toString ".loop" : String) = "min.loop" := by decide
 have W := Walks.list (prog := X.prog) (w := X.w) (A := X.A.in1) hh I l hlI its.toArray
 have hsz : its.toArray.size = its.length := List.size_toArray ..
 have lx := rv.length
 intro r
 induction r with
 | zero =>
  intro j i s H bt c vb kb hr' hj IV sm hbt gS hit fS fI hvb hkb hij hbest
  have hin : j + 1 = its.length := by omega
  obtain ⟨f0, f1, f2, f3, f4, f5⟩ := id fI
  obtain ⟨e0, e1, e2, e3, e4, e5⟩ := id fS
  refine codeAny_builtin PySem.F.entry_min_loop ?_
  rw [Around.under_plainId PySem.F.plain_min_loop _]
  show wpAny _ X.A.in1 (seqItems? (.ref S) >>= _) _ _ _
  refine wpAny_bind (wpAny_seqItems gS rfl ?_)
  show wpAny _ X.A.in1 (tryCatch (pyNext (.ref I)) _ >>= _) _ _ _
  refine wpAny_bind (wpAny_tryCatch (W.done _ _ _ ⟨by rw [hsz, ← hin]; exact hit, lst s H IV sm⟩ fun h' tk' hk' => ?_))
  have gS' := hk' S _ (by simpa using hSI) gS
  have I1 : Inv X pins σ H { s with heap := h', toks := tk' } := IV.turned (it := I) (fun b o hb e => hk' b o (by simpa using hb) e) f0 f1 f3 f4 f5
  have s1 := Heap.SameBut.update h' S (Obj.mapSeq fun _ => (#[] : Array Value))
  show wpAny _ X.A.in1 (updateSeq S (fun _ => #[]) >>= _) _ _ _
  refine wpAny_bind ?_
  refine wpAny_updateSeq gS' rfl (wpAny_bind (wpAny_letGo (wpAny_pure ?_)))
  refine hR i vb kb _ H hvb hkb (fun j' k' hj' => hbest j' k' ?_ hj') (I1.turned (it := S) (fun b o hb e => (s1.2 b hb).trans e) e0 e1 e3 e4 e5) sm
  have := (List.getElem?_eq_some_iff.mp hj').1
  omega
 | succ r ih =>
  intro j i s H bt c vb kb hr' hj IV sm hbt gS hit fS fI hvb hkb hij hbest
  have hlt : j + 1 < its.length := by omega
  obtain ⟨f0, f1, f2, f3, f4, f5⟩ := id fI
  obtain ⟨e0, e1, e2, e3, e4, e5⟩ := id fS
  refine codeAny_builtin PySem.F.entry_min_loop ?_
  rw [Around.under_plainId PySem.F.plain_min_loop _]
  show wpAny _ X.A.in1 (seqItems? (.ref S) >>= _) _ _ _
  refine wpAny_bind (wpAny_seqItems gS rfl ?_)
  show wpAny _ X.A.in1 (tryCatch (pyNext (.ref I)) _ >>= _) _ _ _
  refine wpAny_bind (wpAny_tryCatch (W.item (j + 1) _ _ _ (by rw [hsz]; exact hlt) ⟨hit, lst s H IV sm⟩ fun v h' tk' hP hst' hk' => ?_))
  have hv : its[j + 1]? = some v := by simpa using hP
  have gS1 := hk' S _ (by simpa using hSI) gS
  have I1 : Inv X pins σ H { s with heap := h', toks := tk' } := IV.turned (it := I) (fun b o hb e => hk' b o (by simpa using hb) e) f0 f1 f3 f4 f5
  obtain ⟨oI', hoI', hoc, hod⟩ := id hst'.1
  have hx : j + 1 < xs.length := by omega
  obtain ⟨v', hv', rx⟩ := rv.get (List.getElem?_eq_getElem hx)
  rw [hv] at hv'
  cases hv'
  have hk2 : ks[j + 1]? = some ks[j + 1] := List.getElem?_eq_getElem (by omega)
  have ncS : ∀ w, (seqObj "list" #[vb, .ref bt] c).data ≠ .cell w := fun w z => nomatch z
  have ncI : ∀ w, oI'.data ≠ .cell w := fun w z => by rw [hod] at z; cases z
  have IP : Inv X (pins ++ qH [S, I] h') σ H { s with heap := h', toks := tk' } := I1.pinned (fp := [S, I]) (fun b hb => by
    rcases List.mem_cons.mp hb with z | z
    ·rw [z]; exact fS
    ·rw [List.mem_singleton.mp z]; exact fI) (fun b hb => by
    rcases List.mem_cons.mp hb with z | z
    ·rw [z]; exact ⟨_, gS1, ncS⟩
    ·rw [List.mem_singleton.mp z]; exact ⟨_, hoI', ncI⟩)
  show wpAny _ X.A.in1 (tryCatch (holding [v] (call (.ref f) [v])) _ >>= _) _ _ _
  have key := sX (X := X.one) (vs := [xs[j + 1]]) (us := [v]) (Q := fun z H4 => ∃ t, z = .ref t /\ Same H H4 /\ SqT X.K H4 t (ks[j + 1].map V.int)) (E := E0) (dvs := []) (ds := []) F hr hb .nil (fun _ _ _ _ _ _ _ q => q.elim) IP.one (.cons rx .nil) (by
   rw [List.append_nil]
   exact KY (j + 1) _ _ H _ (List.getElem?_eq_getElem hx) hk2 sm fun H4 t s4 h4 => ⟨t, rfl, s4, h4⟩)
  refine wpAny_bind (wpAny_tryCatch (wpAny_holding (wpAny_mono key (fun u s2 q => ?_) fun _ _ q => q.elim)))
  obtain ⟨z, H4, I4, rz, t2, rfl, s4, ht2⟩ := q
  cases rz
  have I4 := Inv.back IV.ok I4
  have pS := I4.pin (S, seqObj "list" #[vb, .ref bt] c) (List.mem_append_right _ (List.mem_append_right _ (eO (by simp) gS1)))
  have pI := I4.pin (I, oI') (List.mem_append_right _ (List.mem_append_right _ (eO (by simp) hoI')))
  have I5 := I4.unpinned
  have fS4 : nG X pins H4 S := ⟨pS.2.1, e1, e2, e3, e4, e5⟩
  have fI4 : nG X pins H4 I := ⟨pI.2.1, f1, f2, f3, f4, f5⟩
  have hbt4 : SqT X.K H4 bt (kb.map V.int) := SmT.same s4 _ _ hbt
  obtain ⟨ia, ra, pa, _⟩ := I5.tuple ht2
  obtain ⟨ib, rb, pb, _⟩ := I5.tuple hbt4
  have i1 : IntsAre ia.toArray.toList ks[j + 1] := intsAre_of ra
  have i2 : IntsAre ib.toArray.toList kb := intsAre_of rb
  show wpAny _ X.A.in1 (tryCatch (holding [v, .ref t2] (richCompare .Lt (.ref t2) (.ref bt) >>= _)) _ >>= _) _ _ _
  refine wpAny_bind (wpAny_tryCatch (wpAny_holding (wpAny_bind (HT.Gw (A := X.A.in1) pa pb i1 i2 (by show X.A.units + 1 < cLine; omega) ?_))))
  refine wpAny_bind (wpAny_holding (wpAny_truthy_bool ?_))
  refine wpAny_bind (wpAny_letGo (wpAny_pure ?_))
  cases hb' : HT.lexLt ks[j + 1] kb with
  | true =>
   have s1 := Heap.SameBut.update s2.heap S (Obj.mapSeq fun _ => #[v, .ref t2])
   obtain ⟨c2, hc2⟩ : ∃ c2, (s2.heap.update S (Obj.mapSeq fun _ => #[v, .ref t2])).get? S = some (seqObj "list" #[v, .ref t2] c2) := ⟨_, get?_update_seq pS.1 fun _ => #[v, .ref t2]⟩
   simp only [if_true]
   refine wpAny_bind ?_
   refine wpAny_updateSeq pS.1 rfl (wpAny_bind (wpAny_letGo ?_))
   rw [hname]
   refine wpAny_pure ⟨plainId_quiet PySem.F.plain_min_loop _, ih (j + 1) (j + 1) _ H4 t2 c2 v ks[j + 1] (by omega) hx (I5.turned (it := S) (fun b o hb e => (s1.2 b hb).trans e) fS4.1 e1 e3 e4 e5) (sm.trans s4) ht2 hc2 ⟨oI', (s1.2 I hSI.symm).trans pI.1, hoc, hod⟩ fS4 fI4 hv hk2 (Nat.le_refl _) fun j' k' hj' hk' => ?_⟩
   by_cases e : j' = j + 1
   ·subst e
    rw [hk2] at hk'
    cases hk'
    exact ⟨Be _, fun h => absurd h (Nat.lt_irrefl _)⟩
   ·have hb1 := hbest j' k' (by omega) hk'
    have q1 := HQ hb' hb1.1
    exact ⟨Dd q1, fun _ => q1⟩
  | false =>
   simp only [Bool.false_eq_true, if_false]
   refine wpAny_bind (wpAny_letGo ?_)
   rw [hname]
   refine wpAny_pure ⟨plainId_quiet PySem.F.plain_min_loop _, ih (j + 1) i s2 H4 bt c vb kb (by omega) hx I5 (sm.trans s4) hbt4 pS.1 ⟨oI', pI.1, hoc, hod⟩ fS4 fI4 hvb hkb (by omega) fun j' k' hj' hk' => ?_⟩
   by_cases e : j' = j + 1
   ·subst e
    rw [hk2] at hk'
    cases hk'
    exact ⟨hb', fun h => absurd h (by omega)⟩
   ·exact hbest j' k' (by omega) hk'
theorem SN (a v d : Value) : argsOk "min" ⟨[a], [(Str.ofString "key", v), (Str.ofString "default", d)]⟩ := by unfold argsOk; kernel_rfl
theorem TQ {s : Shared} {H : Hp} {Q : Value -> Shared -> Prop} {E : Value -> Shared -> Prop} (d : Value) (hh : X.A.handled = none) (hu : X.A.units + 2 < cLine) (F : FnOk X.prog X.w X.K X.mg X.base CX0 k f fd ps sp) (hr : Room k X.A.in1) (hb : Binds X.K fd ps [])
  (IV : Inv X pins σ H s) (hS0 : SqL X.K H l xs) (rv : Vals xs its) (lk : xs.length = ks.length)
  (lst : ∀ s H', Inv X pins σ H' s -> Same H H' -> s.heap.IsList l its.toArray)
  (KY : ∀ (i : Nat) x k H3 (Q' : VK), xs[i]? = some x -> ks[i]? = some k -> Same H H3 -> (∀ H4 t, Same H3 H4 -> SqT X.K H4 t (k.map V.int) -> Q' (.ref t) H4) -> sp [x] H3 Q' E0)
  (hD : xs = [] -> ∀ s', Inv X pins σ H s' -> Q d s')
  (hR : ∀ (i : Nat) v kb s' H', its[i]? = some v -> ks[i]? = some kb -> (∀ (j' : Nat) k', ks[j']? = some k' -> HT.lexLt k' kb = false /\ (j' < i -> HT.lexLt kb k' = true)) -> Inv X pins σ H' s' -> Same H H' -> Q v s') :
  wpAny (model X.prog X.w) X.A (call (.builtin "min") [.ref l] [(Str.ofString "key", .ref f), (Str.ofString "default", d)]) Q E s := by
 have hname : (toString "min" ++ toString ".loop" : String) = "min.loop" := by decide
 have hl := lst s H IV (.refl _)
 obtain ⟨ol, hol, _⟩ := id hl
 have hll : l < s.heap.objs.size := Heap.lt_size hol
 have lx := rv.length
 refine kmb_tree PySem.F.kind_min PySem.F.plain_min PySem.F.entry_min (SN _ _ _) ?_
 show wpAny _ X.A.in1 (Builtin.Builtins.bindParams "min" ["key", "default"] 0 ⟨[], [(Str.ofString "key", .ref f), (Str.ofString "default", d)]⟩ >>= _) _ _ s
 refine wpAny_bind (wpAny_of_eq (show Builtin.Builtins.bindParams "min" ["key", "default"] 0 ⟨[], [(Str.ofString "key", .ref f), (Str.ofString "default", d)]⟩ = pure [some (.ref f), some d] from rfl) ?_)
 refine wpAny_bind (wpAny_pure ?_)
 refine wpAny_bind (wpAny_pyIter_list hl ?_)
 refine wpAny_bind (wpAny_newList ?_ (Nat.zero_le _))
 rw [hname]
 have fI0 : nG X pins H s.heap.objs.size := IV.fpOk (Nat.le_refl _) (IV.hok.fresh (Nat.le_refl _))
 generalize hhI : s.heap.push { cls := .type "list_iterator", data := .fields #[.ref l, .int 0 0] } = hI
 have hS : hI.objs.size = s.heap.objs.size + 1 := by rw [← hhI]; exact size_push' ..
 have gI0 : hI.get? s.heap.objs.size = some { cls := .type "list_iterator", data := .fields #[.ref l, .int 0 0] } := by rw [← hhI]; exact Heap.get?_push_size _ rfl
 have gr0 : ∀ b o, s.heap.get? b = some o -> hI.get? b = some o := fun b o e => by rw [← hhI]; exact Heap.get?_push_of_some _ e
 have fS0 : nG X pins H hI.objs.size := IV.fpOk (by rw [hS]; exact Nat.le_succ _) (IV.hok.fresh (by rw [hS]; exact Nat.le_succ _))
 have hlI : l ≠ s.heap.objs.size := Nat.ne_of_lt hll
 have hSI : hI.objs.size ≠ s.heap.objs.size := by rw [hS]; exact Nat.ne_of_gt (Nat.lt_succ_self _)
 have I0 : Inv X pins σ H { s with heap := hI.push (seqObj "list" #[] 0) } := IV.kept (t' := s.toks) fun b o e => Heap.get?_push_of_some _ (gr0 b o e)
 have gI : (hI.push (seqObj "list" #[] 0)).get? s.heap.objs.size = some { cls := .type "list_iterator", data := .fields #[.ref l, .int 0 0] } := Heap.get?_push_of_some _ gI0
 have gS : (hI.push (seqObj "list" #[] 0)).get? hI.objs.size = some (seqObj "list" #[] 0) := Heap.get?_push_size _ rfl
 generalize hI.push (seqObj "list" #[] 0) = h3 at I0 gI gS ⊢
 have W := Walks.list (prog := X.prog) (w := X.w) (A := X.A.in1) hh s.heap.objs.size l hlI its.toArray
 have hsz : its.toArray.size = its.length := List.size_toArray ..
 have il := lst _ H I0 (.refl _)
 obtain ⟨f0, f1, f2, f3, f4, f5⟩ := id fI0
 obtain ⟨e0, e1, e2, e3, e4, e5⟩ := id fS0
 refine wpAny_pure ⟨plainId_quiet PySem.F.plain_min_loop _, ?_⟩
 refine codeAny_builtin PySem.F.entry_min_loop ?_
 rw [Around.under_plainId PySem.F.plain_min_loop _]
 show wpAny _ X.A.in1 (seqItems? (.ref _) >>= _) _ _ _
 refine wpAny_bind (wpAny_seqItems gS rfl ?_)
 show wpAny _ X.A.in1 (tryCatch (pyNext (.ref s.heap.objs.size)) _ >>= _) _ _ _
 by_cases hne : 0 < its.length
 ·refine wpAny_bind (wpAny_tryCatch (W.item 0 _ _ _ (by rw [hsz]; exact hne) ⟨⟨_, gI, rfl, rfl⟩, il⟩ fun v h' tk' hP hst' hk' => ?_))
  have hv : its[0]? = some v := by simpa using hP
  have gS1 := hk' hI.objs.size _ (by simpa using hSI) gS
  have I1 : Inv X pins σ H { s with heap := h', toks := tk' } := Inv.turned (s := { s with heap := h3 }) I0 (it := s.heap.objs.size) (fun b o hb e => hk' b o (by simpa using hb) e) f0 f1 f3 f4 f5
  obtain ⟨oI', hoI', hoc, hod⟩ := id hst'.1
  have hx : 0 < xs.length := by omega
  obtain ⟨v', hv', rx⟩ := rv.get (List.getElem?_eq_getElem hx)
  rw [hv] at hv'
  cases hv'
  have hk2 : ks[0]? = some ks[0] := List.getElem?_eq_getElem (by omega)
  have ncS : ∀ w, (seqObj "list" (#[] : Array Value) 0).data ≠ .cell w := fun w z => nomatch z
  have ncI : ∀ w, oI'.data ≠ .cell w := fun w z => by rw [hod] at z; cases z
  have IP : Inv X (pins ++ qH [hI.objs.size, s.heap.objs.size] h') σ H { s with heap := h', toks := tk' } := I1.pinned (fp := [hI.objs.size, s.heap.objs.size]) (fun b hb => by
    rcases List.mem_cons.mp hb with z | z
    ·rw [z]; exact fS0
    ·rw [List.mem_singleton.mp z]; exact fI0) (fun b hb => by
    rcases List.mem_cons.mp hb with z | z
    ·rw [z]; exact ⟨_, gS1, ncS⟩
    ·rw [List.mem_singleton.mp z]; exact ⟨_, hoI', ncI⟩)
  show wpAny _ X.A.in1 (tryCatch (holding [v] (call (.ref f) [v])) _ >>= _) _ _ _
  have key := sX (X := X.one) (vs := [xs[0]]) (us := [v]) (Q := fun z H4 => ∃ t, z = .ref t /\ Same H H4 /\ SqT X.K H4 t (ks[0].map V.int)) (E := E0) (dvs := []) (ds := []) F hr hb .nil (fun _ _ _ _ _ _ _ q => q.elim) IP.one (.cons rx .nil) (by
   rw [List.append_nil]
   exact KY 0 _ _ H _ (List.getElem?_eq_getElem hx) hk2 (.refl _) fun H4 t s4 h4 => ⟨t, rfl, s4, h4⟩)
  refine wpAny_bind (wpAny_tryCatch (wpAny_holding (wpAny_mono key (fun u s2 q => ?_) fun _ _ q => q.elim)))
  obtain ⟨z, H4, I4, rz, t2, rfl, s4, ht2⟩ := q
  cases rz
  have I4 := Inv.back IV.ok I4
  have pS := I4.pin (hI.objs.size, seqObj "list" #[] 0) (List.mem_append_right _ (List.mem_append_right _ (eO (by simp) gS1)))
  have pI := I4.pin (s.heap.objs.size, oI') (List.mem_append_right _ (List.mem_append_right _ (eO (by simp) hoI')))
  have I5 := I4.unpinned
  have fS4 : nG X pins H4 hI.objs.size := ⟨pS.2.1, e1, e2, e3, e4, e5⟩
  have fI4 : nG X pins H4 s.heap.objs.size := ⟨pI.2.1, f1, f2, f3, f4, f5⟩
  have s1 := Heap.SameBut.update s2.heap hI.objs.size (Obj.mapSeq fun _ => #[v, .ref t2])
  obtain ⟨c2, hc2⟩ : ∃ c2, (s2.heap.update hI.objs.size (Obj.mapSeq fun _ => #[v, .ref t2])).get? hI.objs.size = some (seqObj "list" #[v, .ref t2] c2) := ⟨_, get?_update_seq pS.1 fun _ => #[v, .ref t2]⟩
  show wpAny _ X.A.in1 (updateSeq hI.objs.size (fun _ => #[v, .ref t2]) >>= _) _ _ _
  refine wpAny_bind ?_
  refine wpAny_updateSeq pS.1 rfl ?_
  rw [hname]
  refine wpAny_pure ⟨plainId_quiet PySem.F.plain_min_loop _, O2 (xs := xs) (ks := ks) (its := its) (H0 := H) _ hh hu F hr hb hS0 rv lk hlI hSI lst KY (fun i v kb s' H' q1 q2 q3 q4 q5 => hR i v kb s' H' q1 q2 q3 q4 q5) _ 0 0 _ H4 t2 c2 v ks[0] rfl hx (I5.turned (it := hI.objs.size) (fun b o hb e => (s1.2 b hb).trans e) fS4.1 e1 e3 e4 e5) s4 ht2 hc2 ⟨oI', (s1.2 _ hSI.symm).trans pI.1, hoc, hod⟩ fS4 fI4 hv hk2 (Nat.le_refl _) fun j' k' hj' hk' => ?_⟩
  have e : j' = 0 := by omega
  subst e
  rw [hk2] at hk'
  cases hk'
  exact ⟨Be _, fun h => absurd h (Nat.lt_irrefl _)⟩
 ·have e0' : its.length = 0 := by omega
  refine wpAny_bind (wpAny_tryCatch (W.done _ _ _ ⟨⟨_, gI, rfl, by rw [hsz, e0']; rfl⟩, il⟩ fun h' tk' hk' => ?_))
  show wpAny _ X.A.in1 (rule _ >>= _) _ _ _
  refine wpAny_bind (wpAny_rule (wpAny_pure ?_))
  exact hD (List.length_eq_zero_iff.mp (by omega)) _ (Inv.turned (s := { s with heap := h3 }) I0 (it := s.heap.objs.size) (fun b o hb e => hk' b o (by simpa using hb) e) f0 f1 f3 f4 f5)
end
theorem Room.one {k : Nat} {A : Around} (r : Room (k + 1) A) : Room k A.in1 := ⟨r.hd, by have := r.dp; show A.depth + 3 * k + 5 < recursionLimit; omega, by have := r.un; show A.units + 1 + 16 * k + 200 < cLine; omega⟩
def R3 (K : PySem.W.Frag) (sp : Sp) (x y : V) (H2 : Hp) (Q : VK) : Prop := ∃ (l : Addr) (xs : List V) (ks : List (List Int)), x = .ref l /\ SqL K H2 l xs /\ xs.length = ks.length /\ (∀ x ∈ xs, ∃ p, x = V.ref p) /\
 (∀ (i : Nat) (x : V) (k : List Int) (H3 : Hp) (Q' : VK), xs[i]? = some x -> ks[i]? = some k -> Same H2 H3 -> (∀ H4 t, Same H3 H4 -> SqT K H4 t (k.map V.int) -> Q' (.ref t) H4) -> sp [x] H3 Q' E0) /\ (xs = [] -> Q y H2) /\
 ∀ (i : Nat) (v : V) (kb : List Int) (H' : Hp), xs[i]? = some v -> ks[i]? = some kb -> (∀ (j' : Nat) k', ks[j']? = some k' -> HT.lexLt k' kb = false /\ (j' < i -> HT.lexLt kb k' = true)) -> Same H2 H' -> Q v H'
def QX (K : PySem.W.Frag) (sp : Sp) (te td : TE) : TE := fun σ H Q => te σ H fun x H1 => td σ H1 fun y H2 => R3 K sp x y H2 Q
theorem zK : ∀ {xs : List V} {a b : List Value}, Vals xs a -> Vals xs b -> (∀ x ∈ xs, ∃ p, x = V.ref p) -> a = b
 | _, _, _, .nil, .nil, _ => rfl
 | x :: xs, _, _, .cons r1 t1, .cons r2 t2, h => by
  obtain ⟨p, rfl⟩ := h x List.mem_cons_self
  rw [zK t1 t2 fun y hy => h y (List.mem_cons_of_mem _ hy)]
  cases r1
  cases r2
  rfl
section
variable {X : Cx}
theorem Jt {K : PySem.W.Frag} {e dflt : Expr} {te td : TE} {p p2 pos k1 k2 : Pos} {fx : Str} {k : Nat} {f : Addr} {fd : FuncData} {ps : List Str} {sp : Sp} (hK : X.K = K) (hc : X.calm = true) (hu : X.A.units + 2 < cLine) (ha : PA X [e] (wK te Ez)) (hd : PE X dflt td) (hg : Gl X "min") (hm : X.mg "min" = none)
  (G : FnOk X.prog X.w X.K X.mg X.base CX0 k f fd ps sp) (hmk : X.mg fx = some (.ref f)) (hbk : Binds X.K fd ps []) (hgk : Gl X fx) (hr : Room (k + 1) X.A) (hdb : (fx == ("__debug__" : Str)) = false := by decide)
  (h1 : backTo pos (starEach [e] X.env) = (false, eval e X.env) :: backTo pos (starEach [] X.env) := by rfl) (h2 : (backTo pos (starEach [e] X.env)).any (·.1) = false := by rfl) :
  PE X (.Call (.Name "min" p) [e] [⟨some "key", .Name fx p2, k1⟩, ⟨some "default", dflt, k2⟩] pos) (QX K sp te td) := by
 subst hK
 intro pins s σ H Q I h
 refine wpAny_Call_Name_kw (o9 I hg hm PyProof.Rows.boot_min ?_)
 refine PyProof.Rows.callWith_kw ?_ h1 h2
 refine thn (ha pos pins s σ H (fun vs H1 => match vs with | [x] => td σ H1 fun y H2 => R3 X.K sp x y H2 Q | _ => False) I h) fun us s1 ⟨vs, H1, I1, r1, q1⟩ => ?_
 obtain ⟨x, rfl⟩ : ∃ x, vs = [x] := by
  match vs, q1 with
  | [x], _ => exact ⟨x, rfl⟩
 obtain ⟨u, rfl, rx⟩ := vals1 r1
 refine PyProof.Rows.kws_cons (uq I1 hgk hmk ?_ hdb)
 refine PyProof.Rows.kws_cons (thn (hd pins s1 σ H1 _ I1 q1) fun w s2 ⟨y, H2, I2, ry, l, xs, ks, ex, hl, lk, rfs, KY, q0, q⟩ => ?_)
 subst ex
 cases rx
 refine PyProof.Rows.kws_nil ?_
 obtain ⟨its, rv, pl, hz⟩ := I2.list hl
 have lx := rv.length
 show wpAny _ _ (call (.builtin "min") [Value.ref l] [(Str.ofString "key", .ref f), (Str.ofString "default", w)]) _ _ _
 refine TQ (H := H2) w (I2.ok.hd hc) hu G (Room.one hr) hbk I2 hl rv lk (fun s' H' I' sm => ?_) KY (fun e s' I' => ⟨y, H2, I', ry, q0 e⟩) (fun i v kb s' H' hv hkb best I' sm => ?_)
 ·obtain ⟨its', rv', pl', _⟩ := I'.list (sm.seq hl)
  rw [zK rv rv' rfs]
  exact pl'.isList
 ·have hi : i < xs.length := by rw [lx]; exact (List.getElem?_eq_some_iff.mp hv).1
  obtain ⟨u', hu', ru⟩ := rv.get (List.getElem?_eq_getElem hi)
  rw [hv] at hu'
  cases hu'
  exact ⟨xs[i], H', I', ru, q i _ kb H' (List.getElem?_eq_getElem hi) hkb best sm⟩
end
theorem TJ {K : PySem.W.Frag} {sp : Sp} {te td : TE} {σ : St} {H : Hp} {Q : VK} (h : te σ H fun x H1 => td σ H1 fun y H2 => R3 K sp x y H2 Q) : QX K sp te td σ H Q := h
end L2
namespace L2
open PySem PySem.Spec PyProof.Rows
def Lv {α : Type} (n : Nat) (P : α -> Prop) : PySem.W.KasT α -> Prop
 | .ret a => P a
 | .ask i j k => i < n /\ j < n /\ ∀ b, Lv n P (k b)
theorem qY {α β : Type} {n : Nat} {P : α -> Prop} {P' : β -> Prop} {f : α -> PySem.W.KasT β} (hf : ∀ a, P a -> Lv n P' (f a)) : ∀ t : PySem.W.KasT α, Lv n P t -> Lv n P' (t.bind f)
 | .ret a, h => hf a h
 | .ask i j k, h => ⟨h.1, h.2.1, fun b => qY hf (k b) (h.2.2 b)⟩
def Prn (n : Nat) (p : Array Nat) : Prop := p.toList.Perm (List.range n)
theorem m6 {n : Nat} {p : Array Nat} (h : Prn n p) (hn : 0 < n) (i : Nat) : p.getD i 0 < n := by
 by_cases z : i < p.size
 ·have e : p.getD i 0 = p[i] := by simp [Array.getD, z]
  rw [e]
  have : p[i] ∈ p.toList := Array.getElem_mem_toList z
  exact List.mem_range.mp (h.mem_iff.mp this)
 ·have e : p.getD i 0 = 0 := by simp [Array.getD, z]
  rw [e]
  exact hn
theorem yx {n : Nat} {p : Array Nat} (h : Prn n p) (i j : Nat) : Prn n (PySem.W.kas_rev p i j) := (Array.perm_iff_toList_perm.mp (mirror_perm p i j _)).trans h
theorem R7 {n : Nat} {p : Array Nat} (h : Prn n p) (i j : Nat) : Prn n (bubble p i j) := (Array.perm_iff_toList_perm.mp (bubble_perm p i j)).trans h
section
variable {n : Nat} (hn : 0 < n)
include hn
theorem Gj {p : Array Nat} (h : Prn n p) : ∀ f m : Nat, Lv n (fun _ => True) (PySem.W.kas_asc p f m)
 | 0, m => trivial
 | f + 1, m => by
  refine ⟨m6 h hn _, m6 h hn _, fun b => ?_⟩
  cases b
  ·exact Gj h f (m + 1)
  ·exact trivial
theorem wB : ∀ (f : Nat) {p : Array Nat} (m q : Nat), Prn n p -> Lv n (fun r => Prn n r.1) (PySem.W.kas_desc f p m q)
 | 0, p, m, q, h => h
 | f + 1, p, m, q, h => by
  refine ⟨m6 h hn _, m6 h hn _, fun b => ?_⟩
  cases b
  ·refine ⟨m6 h hn _, m6 h hn _, fun d => ?_⟩
   cases d
   ·exact wB f (m + 1) (q + 1) h
   ·exact h
  ·show Lv n _ (if q > 0 then _ else _)
   by_cases z : q > 0
   ·rw [if_pos z]
    exact wB f (m + 1) 0 (yx h _ _)
   ·rw [if_neg z]
    exact wB f (m + 1) 0 h
theorem Du {p : Array Nat} (h : Prn n p) (m r : Nat) : Lv n (fun r => Prn n r.2) (PySem.W.kas_tail3 m r p) := by
 refine qY (P := fun _ => True) (fun a _ => ?_) _ (Gj hn (yx h _ _) _ _)
 exact yx h _ _
theorem vg {p : Array Nat} (h : Prn n p) (m r : Nat) : Lv n (fun r => Prn n r.2) (PySem.W.kas_descPart m r p) := by
 refine qY (P := fun r => Prn n r.1) (fun a ha => ?_) _ (wB hn _ _ _ h)
 by_cases z : a.2.2 > 0
 ·rw [if_pos z]
  exact Du hn (yx ha _ _) _ _
 ·rw [if_neg z]
  exact Du hn ha _ _
theorem Kw {p : Array Nat} (h : Prn n p) (r : Nat) : Lv n (fun r => Prn n r.2) (PySem.W.kas_count r p) := by
 refine qY (P := fun _ => True) (fun a _ => ?_) _ (Gj hn h _ _)
 by_cases z : (a == r) = true
 ·rw [if_pos z]
  exact h
 ·rw [if_neg z]
  by_cases y : a > 1
  ·rw [if_pos y]
   refine ⟨m6 h hn _, m6 h hn _, fun b => ?_⟩
   cases b
   ·exact vg hn (yx h _ _) _ _
   ·exact h
  ·rw [if_neg y]
   exact vg hn h _ _
theorem xn {p : Array Nat} (h : Prn n p) (k : Nat) : ∀ f l r : Nat, Lv n (fun _ => True) (PySem.W.kas_place p k f l r)
 | 0, l, r => trivial
 | f + 1, l, r => by
  show Lv n _ (if l ≥ r then _ else _)
  by_cases z : l ≥ r
  ·rw [if_pos z]
   exact trivial
  ·rw [if_neg z]
   refine ⟨m6 h hn _, m6 h hn _, fun b => ?_⟩
   cases b
   ·exact xn h k f _ _
   ·exact xn h k f _ _
theorem NP : ∀ (f : Nat) {p : Array Nat} (k : Nat), Prn n p -> Lv n (Prn n) (PySem.W.kas_bin f p k)
 | 0, p, k, h => h
 | f + 1, p, k, h => qY (P := fun _ => True) (fun a _ => NP f (k + 1) (R7 h _ _)) _ (xn hn h k _ _ _)
theorem Oi : Lv n (Prn n) (PySem.W.kas_sort n) := by
 refine qY (P := fun r => Prn n r.2) (fun a ha => ?_) _ (Kw hn (List.Perm.refl _) n)
 by_cases z : a.1 < n
 ·rw [if_pos z]
  exact NP hn _ _ ha
 ·rw [if_neg z]
  exact ha
end
theorem Q7 {α : Type} {n : Nat} {P : α -> Prop} {cmp : Nat -> Nat -> (Bool -> Shared -> Prop) -> Shared -> Prop} {G : α -> Shared -> Prop} {s : Shared} (hc : ∀ i j C, i < n -> j < n -> (∀ b, C b s) -> cmp i j C s) (hg : ∀ a, P a -> G a s) : ∀ t : PySem.W.KasT α, Lv n P t -> t.kasWp cmp G s
 | .ret a, h => hg a h
 | .ask i j k, h => hc i j _ h.1 h.2.1 fun b => Q7 hc hg (k b) (h.2.2 b)
theorem SM {vs : List Value} {p : Array Nat} (h : Prn vs.length p) : (p.toList.map fun i => vs.getD i Value.none).Perm vs := by
 have e : (List.range vs.length).map (fun i => vs.getD i Value.none) = vs := by
  refine List.ext_getElem (by simp) fun i h1 h2 => ?_
  simp at h1 ⊢
  simp [h1]
 have := h.map fun i => vs.getD i Value.none
 rw [e] at this
 exact this
section
variable {prog : Program} {w : World} {A : Around} {E : Value -> Shared -> Prop} {s : Shared}
def TpI (h : Heap) (v : Value) : Prop := ∃ a o xs n f ns, v = .ref a /\ h.get? a = some o /\ o.cls = .type "tuple" /\ o.data = .seq xs n /\ IntsAre xs.toList (f :: ns)
theorem SJ {a b : Int} {t u : Tok} {c : Bool} {Q : Bool -> Shared -> Prop} (h : ∀ b, Q b s) : wpAny (model prog w) A (oneLt' c (.int a t) (.int b u)) Q E s := by
 cases c with
 | true => exact oneLt_int (h _)
 | false => exact PySem.W.kat_one _ _ (lt_int (h _))
theorem Hz {Q : Bool -> Shared -> Prop} {b fin : Bool} (h : ∀ b, Q b s) : ∀ {xs ys : List Value} {ns ms : List Int} (i : Nat), IntsAre xs ns -> IntsAre ys ms -> PySem.W.KatLex prog w A b fin Q (xs.zip ys) i s
 | _, _, _, _, i, .nil, _ => PySem.W.kat_nil (h _)
 | _, _, _, _, i, .cons _ _ _, .nil => PySem.W.kat_nil (h _)
 | _, _, _, _, i, .cons x t r, .cons y u q => by
  refine PySem.W.kat_cons (wpAny_eqBool_int ?_)
  refine PySem.W.kat_go (fun _ => PySem.W.kat_yes (Hz h (i + 1) r q)) fun _ => PySem.W.kat_no (SJ h)
theorem Tz {x y : Value} {b : Bool} {Q : Bool -> Shared -> Prop} (hx : TpI s.heap x) (hy : TpI s.heap y) (h : ∀ b, Q b s) : wpAny (model prog w) A (keyLt' (PyProof.Rows.tuples' b) x y) Q E s := by
 obtain ⟨a, o, xs, n, f, ns, rfl, e2, e3, e4, e5⟩ := hx
 obtain ⟨a', o', xs', n', f', ns', rfl, g2, g3, g4, g5⟩ := hy
 exact PySem.W.kat_lt e2 e4 g2 g4 (Hz h 0 e5 g5)
theorem kat_tups {h : Heap} : ∀ {vs : List Value}, (∀ v ∈ vs, TpI h v) -> ∃ fs : List Value, PySem.W.KatTups h vs fs /\ (∀ v ∈ fs, ∃ n t, v = Value.int n t) /\ fs.length = vs.length
 | [], _ => ⟨[], PySem.W.KatTups.nil, by simp, rfl⟩
 | v :: vs, hv => by
  obtain ⟨fs, h1, h2, h3⟩ := kat_tups (vs := vs) fun v hv' => hv v (List.mem_cons_of_mem _ hv')
  obtain ⟨a, o, xs, n, f, ns, rfl, e2, e3, e4, e5⟩ := hv v List.mem_cons_self
  obtain ⟨w, hw, tk, ew⟩ : ∃ w, xs[0]? = some w /\ ∃ tk, w = Value.int f tk := by
   rw [← Array.getElem?_toList]
   generalize xs.toList = l at e5 ⊢
   cases e5 with
   | cons _ t r => exact ⟨_, rfl, _, rfl⟩
  refine ⟨w :: fs, PySem.W.KatTups.cons e2 e3 e4 hw h1, fun u hu => ?_, by rw [List.length_cons, List.length_cons, h3]⟩
  rcases List.mem_cons.mp hu with z | z
  ·rw [z, ew]; exact ⟨_, _, rfl⟩
  ·exact h2 u z
end
theorem JG : ∀ {vs : List V} {its out : List Value}, Vals vs its -> out.Perm its -> ∃ ws : List V, ws.Perm vs /\ Vals ws out := by
 intro vs its out h p
 induction p generalizing vs with
 | nil => cases h; exact ⟨[], .nil, .nil⟩
 | cons x p ih =>
  cases h with
  | cons r t =>
   obtain ⟨ws, a, b⟩ := ih t
   exact ⟨_ :: ws, a.cons _, .cons r b⟩
 | swap x y l =>
  cases h with
  | cons r t =>
   cases t with
   | cons r2 t2 => exact ⟨_, .swap _ _ _, .cons r2 (.cons r t2)⟩
 | trans p q ih1 ih2 =>
  obtain ⟨ws, a, b⟩ := ih2 h
  obtain ⟨us, c, d⟩ := ih1 b
  exact ⟨us, c.trans a, d⟩
section
variable {X : Cx}
end
end L2
namespace L2
open PySem PySem.Spec PyProof.Rows
section
variable {X : Cx} {pins : List (Addr × Obj)} {σ : St} {H H0 : Hp} {s : Shared} {h' : Heap}
theorem Inv.adopt {it : Addr} {o : HO} {t' : Nat} (I : Inv X pins σ H s) (k : ∀ b o, b ≠ it -> s.heap.get? b = some o -> h'.get? b = some o) (hf : nG X pins H it)
  (new : ObjOk X.prog X.w (upd H it o) h' it o) : Inv X pins σ (upd H it o) { s with heap := h', toks := t' } := by
 obtain ⟨f0, f1, f2, f3, f4, f5⟩ := hf
 have nit : ∀ b u, H b = some u -> b ≠ it := fun b u e z => by rw [z, f0] at e; cases e
 refine I.step (g' := s.gens) (d' := s.drawn) (ch := [it]) (fun b hb => ?_) (fun b o _ _ hc e _ => k b o (fun z => hc (by simp [z])) e) (fun b o _ _ hc e _ => ⟨o.slots, k b o (fun z => hc (by simp [z])) e⟩) (fun b ob hc e n => by rw [aL (fun z => hc (by simp [z]))]; exact n)
  (fun b o hc e => ⟨o, k b o (fun z => hc (by simp [z])) e⟩) (fun b xs e => by rw [aL (nit b _ e)]; exact e) (fun b o u e => by rw [aL (nit b _ e)]; exact e) (fun b ps e => ⟨#[], by rw [aL (nit b _ e), e]; simp⟩) (fun m hm => ?_) (fun b u e => ?_) I.bare
 ·have e : b = it := by simpa using hb
  subst e
  exact ⟨f3, f1, f4, f5⟩
 ·obtain ⟨ob, es, ep, ho, r⟩ := hm
  exact ⟨ob, es, ep, k _ ob (Ne.symm f1) ho, r⟩
 ·by_cases hb : b = it
  ·subst hb
   rw [aB] at e
   cases e
   exact new
  ·rw [aL hb] at e
   refine (I.hok b u e).stay (fun c v hc q => k c v ?_ q) (fun c q => by rw [aL (nit c _ q)]; exact q) fun c xs q => by rw [aL (nit c _ q)]; exact q
   rcases hc with z | z
   ·rw [z]; exact nit b u e
   ·exact nit c _ z
end
theorem Room.two {k : Nat} {A : Around} (r : Room (k + 1) A) : Room k A.in1.in1 := ⟨r.hd, by have := r.dp; show A.depth + 3 * k + 5 < recursionLimit; omega, by have := r.un; show A.units + 1 + 1 + 16 * k + 200 < cLine; omega⟩
theorem M8 {xs : List V} {its : List Value} {x : V} {v : Value} : Vals xs its -> RelV x v -> Vals (xs ++ [x]) (its ++ [v]) := fun h r => h.append (.cons r .nil)
section
variable {X : Cx} {pins : List (Addr × Obj)} {σ : St} {H : Hp} {s : Shared} {D f : Addr} {xs : List V} {its : List Value} {ks : List (List Int)} {k : Nat} {fd : FuncData} {ps : List Str} {sp : Sp}
theorem Lw {n : Nat} {P : PySem.Fin -> Shared -> Prop} {E : Value -> Shared -> Prop} (F : FnOk X.prog X.w X.K X.mg X.base CX0 k f fd ps sp) (hr : Room k X.A.in1.in1) (hb : Binds X.K fd ps [])
  (IV : Inv X pins σ H s) (fD : nG X pins H D) (hD : s.heap.get? D = some (seqObj "list" its.toArray n)) (rv : Vals xs its) (h64 : xs.length < 64) (lk : xs.length = ks.length) (kn : ∀ k ∈ ks, k ≠ [])
  (KY : ∀ (i : Nat) x k H3 (Q' : VK), xs[i]? = some x -> ks[i]? = some k -> Same H H3 -> (∀ H4 t, Same H3 H4 -> SqT X.K H4 t (k.map V.int) -> Q' (.ref t) H4) -> sp [x] H3 Q' E0)
  (hR : ∀ ws H' s', ws.Perm xs -> Same H H' -> H' D = none -> Inv X pins σ (upd H' D (.lst ws)) s' -> P (.done (.ret .none)) s') :
  wpAny (model X.prog X.w) X.A.in1.in1 (ksk_tree D (.ref f) false) P E s := by
 have lv := rv.length
 obtain ⟨e1, ho1⟩ : ∃ e1, (s.heap.update D (Obj.mapSeq fun _ => (#[] : Array Value))).get? D = some (seqObj "list" #[] e1) := ⟨_, get?_update_seq hD fun _ => #[]⟩
 unfold ksk_tree
 refine wpAny_bind (listItems_at hD rfl ?_)
 refine wpAny_bind (listUpdate_at hD rfl ?_ (by rw [List.size_toArray, sizeLine_eq]; omega) (Nat.zero_le _))
 refine wpAny_bind (seqEpoch_at ho1 rfl ?_)
 refine wpAny_bind (wpAny_newTuple ?_ (by show its.length <= _; rw [sizeLine_eq]; omega))
 refine wpAny_bind (wpAny_newList ?_ (Nat.zero_le _))
 refine wpAny_holding ?_
 obtain ⟨f0, f1, f2, f3, f4, f5⟩ := id fD
 have I1 : Inv X pins σ H { s with heap := s.heap.update D (Obj.mapSeq fun _ => (#[] : Array Value)) } := IV.turned (t' := s.toks) (it := D) (fun b o hb e => ((Heap.SameBut.update s.heap D (Obj.mapSeq fun _ => (#[] : Array Value))).2 b hb).trans e) f0 f1 f3 f4 f5
 generalize s.heap.update D (Obj.mapSeq fun _ => (#[] : Array Value)) = h1 at I1 ho1 ⊢
 have I2 : Inv X pins σ H { s with heap := h1.push (seqObj "tuple" its.toArray 0) } := Inv.kept (s := { s with heap := h1 }) (t' := s.toks) I1 fun b o e => Heap.get?_push_of_some _ e
 have hD2 : (h1.push (seqObj "tuple" its.toArray 0)).get? D = some (seqObj "list" #[] e1) := Heap.get?_push_of_some _ ho1
 show wpAny (model X.prog X.w) X.A.in1.in1 (ksk_rest D (.ref f) false its.toArray _ (.ref (h1.push (seqObj "tuple" its.toArray 0)).objs.size)) P E { s with heap := (h1.push (seqObj "tuple" its.toArray 0)).push (seqObj "list" #[] 0) }
 generalize h1.push (seqObj "tuple" its.toArray 0) = h2 at I2 hD2 ⊢
 have hkD : h2.objs.size ≠ D := Nat.ne_of_gt (Heap.lt_size hD2)
 have hk0 : H h2.objs.size = none := Inv.fresh I2
 have I3 : Inv X pins σ (upd H h2.objs.size (.lst [])) { s with heap := h2.push (seqObj "list" #[] 0) } := Inv.lnew (s := { s with heap := h2 }) (its := []) (t' := s.toks) I2 .nil (Nat.zero_le _)
 have hD3 : (h2.push (seqObj "list" #[] 0)).get? D = some (seqObj "list" #[] e1) := Heap.get?_push_of_some _ hD2
 generalize h2.push (seqObj "list" #[] 0) = h3 at I3 hD3 ⊢
 generalize h2.objs.size = kS at I3 hkD hk0 ⊢
 unfold ksk_rest
 refine wpAny_bind (wpAny_rule ?_)
 first
  | rw [List.forIn_toArray]
  | (rw [← Array.forIn_toList]; simp only [List.toList_toArray])
  | rw [← Array.forIn_toList]
 refine wpAny_bind (ksk_fold (fun i s' => ∃ H' ts, Inv X pins σ H' s' /\ Same H H' /\ H' D = none /\ s'.heap.get? D = some (seqObj "list" #[] e1) /\ H' kS = some (.lst ((ts : List Addr).map V.ref)) /\ ts.length = i /\ ∀ (j : Nat) t, ts[j]? = some t -> ∃ k, ks[j]? = some k /\ SqT X.K H' t (k.map V.int)) its 0 _ ⟨_, [], I3, aH hk0, by rw [aL hkD.symm]; exact f0, hD3, aB, rfl, fun j t h => by simp at h⟩ ?_ ?_)
 ·rintro j x s' hx ⟨H', ts, I', sm, hD', gD, hK, lt, ht⟩
  rw [Nat.zero_add] at lt
  have hj := (List.getElem?_eq_some_iff.mp hx).1
  have hxj : xs[j]? = some xs[j] := List.getElem?_eq_getElem (by omega)
  obtain ⟨u', hu', rx⟩ := rv.get hxj
  rw [hx] at hu'
  cases hu'
  have hkj : ks[j]? = some ks[j] := List.getElem?_eq_getElem (by omega)
  have fD' : nG X pins H' D := ⟨hD', f1, f2, f3, f4, f5⟩
  have IP : Inv X (pins ++ qH [D] s'.heap) σ H' s' := I'.pinned (fp := [D]) (fun b hb => by rw [List.mem_singleton.mp hb]; exact fD') (fun b hb => by rw [List.mem_singleton.mp hb]; exact ⟨_, gD, fun v z => nomatch z⟩)
  have key := sX (X := X.one.one) (vs := [xs[j]]) (us := [x]) (Q := fun z H4 => ∃ t, z = .ref t /\ Same H' H4 /\ SqT X.K H4 t (ks[j].map V.int)) (E := E0) (dvs := []) (ds := []) F hr hb .nil (fun _ _ _ _ _ _ _ q => q.elim) IP.one.one (.cons rx .nil) (by
   rw [List.append_nil]
   exact KY j _ _ H' _ hxj hkj sm fun H4 t s4 h4 => ⟨t, rfl, s4, h4⟩)
  refine wpAny_bind (wpAny_attempt (wpAny_mono key (fun u s2 q => ?_) fun _ _ q => q.elim))
  obtain ⟨z, H4, I4, rz, t2, rfl, s4, ht2⟩ := q
  cases rz
  have I4 := Inv.back IP.ok (Inv.back IP.one.ok I4)
  have pD := I4.pin (D, seqObj "list" #[] e1) (List.mem_append_right _ (List.mem_append_right _ (eO (by simp) gD)))
  have I5 := I4.unpinned
  have hK4 := s4 _ _ hK
  obtain ⟨_, kt, nk, rk, lk', gk⟩ := I5.lstM hK4
  rw [List.length_map] at lk'
  dsimp only
  refine wpAny_bind (listUpdate_at gk rfl ?_ (by rw [List.size_toArray, sizeLine_eq]; omega) (by rw [Array.size_push, List.size_toArray, sizeLine_eq]; omega))
  have I6 : Inv X pins σ (upd H4 kS (.lst ((ts ++ [t2]).map V.ref))) { s2 with heap := s2.heap.update kS (Obj.mapSeq (·.push (.ref t2))) } := I5.lset (t' := s2.toks) (its' := kt ++ [.ref t2]) hK4 gk (by simp) (by rw [List.map_append]; exact M8 rk rfl) (by rw [List.length_map, List.length_append, List.length_singleton, sizeLine_eq]; omega)
  have nt : ∀ t ks', SqT X.K H4 t ks' -> SqT X.K (upd H4 kS (.lst ((ts ++ [t2]).map V.ref))) t ks' := fun t ks' h => by
   rcases h with (h | ⟨z, h⟩) | h
   ·exact .inl (.inl (by rw [aL (fun z => by rw [z, hK4] at h; cases h)]; exact h))
   ·exact .inl (.inr ⟨z, by rw [aL (fun z => by rw [z, hK4] at h; cases h)]; exact h⟩)
   ·exact .inr h
  refine wpAny_pure ⟨rfl, _, ts ++ [t2], I6, fun b o e => ?_, ?_, ?_, aB, by rw [List.length_append, lt]; simp, fun j' t hj' => ?_⟩
  ·rw [aL (aC e hk0)]
   exact s4 _ _ (sm _ _ e)
  ·rw [aL hkD.symm]
   exact pD.2.1
  ·exact ((Heap.SameBut.update s2.heap kS (Obj.mapSeq (·.push (.ref t2)))).2 D hkD.symm).trans pD.1
  ·by_cases w : j' < ts.length
   ·rw [List.getElem?_append_left w] at hj'
    obtain ⟨k', e1', e2'⟩ := ht j' t hj'
    exact ⟨k', e1', nt _ _ (SmT.same s4 _ _ e2')⟩
   ·have : j' = j := by
     have := (List.getElem?_eq_some_iff.mp hj').1
     rw [List.length_append, List.length_singleton] at this
     omega
    subst this
    rw [List.getElem?_append_right (by omega), lt, Nat.sub_self] at hj'
    cases hj'
    exact ⟨_, hkj, nt _ _ ht2⟩
 rintro s' ⟨H', ts, I', sm, hD', gD, hK, lt, ht⟩
 rw [Nat.zero_add] at lt
 obtain ⟨_, kt, nk, rk, lk', gk⟩ := I'.lstM hK
 rw [List.length_map] at lk'
 refine wpAny_bind (listItems_at gk rfl ?_)
 have hT : ∀ v ∈ kt, TpI s'.heap v := fun v hv => by
  obtain ⟨i, hi⟩ := List.getElem?_of_mem hv
  have hil := (List.getElem?_eq_some_iff.mp hi).1
  have hti : ts[i]? = some ts[i] := List.getElem?_eq_getElem (by omega)
  obtain ⟨k', e1', e2'⟩ := ht i _ hti
  obtain ⟨u', hu', ru⟩ := rk.get (show (ts.map V.ref)[i]? = some (.ref ts[i]) by rw [List.getElem?_map, hti]; rfl)
  rw [hi] at hu'
  cases hu'
  cases ru
  obtain ⟨ia, ra, pa, _⟩ := I'.tuple e2'
  obtain ⟨o, ho, hc, n', hd⟩ := id pa
  have kne := kn k' (List.mem_of_getElem? e1')
  cases k' with
  | nil => exact absurd rfl kne
  | cons f' ns => exact ⟨_, o, _, n', f', ns, rfl, ho, hc, hd, intsAre_of ra⟩
 have hkD' : D ≠ kS := hkD.symm
 have fin : ∀ st : SortSt, failedOf st = none -> (∃ out : List Value, out.Perm its /\ (arrOf st).map (·.2) = out.toArray) -> wpAny (model X.prog X.w) X.A.in1.in1 (ksk_tail D false e1 (.ref kS) st) P E s' := by
  rintro st hf ⟨out, po, eo⟩
  obtain ⟨ws, wp, wv⟩ := JG rv po
  unfold ksk_tail
  try dsimp only
  rw [eo]
  refine wpAny_bind (listUpdate_at gk rfl ?_ (by rw [List.size_toArray, sizeLine_eq]; omega) (Nat.zero_le _))
  have I6 : Inv X pins σ (upd H' kS (.lst [])) { s' with heap := s'.heap.update kS (Obj.mapSeq fun _ => (#[] : Array Value)) } := I'.lset (t' := s'.toks) (its' := []) (ys := []) hK gk (by simp) .nil (Nat.zero_le _)
  have gD6 : (s'.heap.update kS (Obj.mapSeq fun _ => (#[] : Array Value))).get? D = some (seqObj "list" #[] e1) := ((Heap.SameBut.update s'.heap kS (Obj.mapSeq fun _ => (#[] : Array Value))).2 D hkD').trans gD
  generalize s'.heap.update kS (Obj.mapSeq fun _ => (#[] : Array Value)) = h6 at I6 gD6 ⊢
  refine wpAny_bind (wpAny_letGo ?_)
  refine wpAny_bind (seqEpoch_at gD6 rfl ?_)
  refine wpAny_bind (listUpdate_at gD6 rfl ?_ (Nat.zero_le _) (by show (if false = true then _ else _ : Array Value).size <= _; rw [if_neg (by simp), List.size_toArray, po.length_eq, sizeLine_eq]; omega))
  rw [hf]
  simp only [bne_self_eq_false, Bool.false_eq_true, if_false]
  refine wpAny_pure (hR ws (upd H' kS (.lst [])) _ wp (fun b o e => ?_) (by rw [aL hkD']; exact hD') ?_)
  ·rw [aL (aC e hk0)]
   exact sm _ _ e
  ·refine Inv.adopt (s := { s' with heap := h6 }) (t' := s'.toks) I6 (fun b o hb e => ((Heap.SameBut.update h6 D (Obj.mapSeq fun _ => out.toArray)).2 b hb).trans e) ⟨by rw [aL hkD']; exact hD', f1, f2, f3, f4, f5⟩ ?_
   obtain ⟨c2, hc2⟩ : ∃ c2, (h6.update D (Obj.mapSeq fun _ => out.toArray)).get? D = some (seqObj "list" out.toArray c2) := ⟨_, get?_update_seq gD6 fun _ => out.toArray⟩
   exact ⟨by rw [wp.length_eq, sizeLine_eq]; omega, out, c2, wv, hc2⟩
 unfold ksk_end
 try dsimp only
 simp only [Bool.false_eq_true, if_false]
 by_cases h2 : its.toArray.size < 2
 ·rw [if_pos h2, if_pos h2]
  refine wpAny_bind (wpAny_pure ?_)
  rw [StateT.run_pure]
  refine wpAny_bind (wpAny_pure ?_)
  refine fin _ rfl ⟨its, List.Perm.refl _, ?_⟩
  show (kt.toArray.zip its.toArray).map (·.2) = its.toArray
  apply Array.toList_inj.mp
  simp
  exact List.map_snd_zip (by omega)
 ·rw [if_neg h2, if_neg h2]
  have h2' : 2 <= its.length := by simpa using h2
  obtain ⟨fs, kt', ki, kl⟩ := kat_tups hT
  refine wpAny_bind (PySem.W.kat_kind (T := Value.type "int") kt' (by omega) (fun v hv => ?_) (by decide) ?_)
  ·obtain ⟨n', t', rfl⟩ := ki v hv
   exact PySem.W.Looks.of_pure rfl
  have hkl : kt.length = its.length := by omega
  refine wpAny_bind (wpAny_mono (PySem.W.kat_run (ks := kt) (vs := its) (Q := fun st' s'' => s'' = s' /\ failedOf st' = none /\ ∃ p, Prn its.length p /\ arrOf st' = p.map (PySem.W.kas_item (kt.toArray.zip its.toArray)))
   (G := fun p s'' => s'' = s' /\ Prn its.length p) hkl h2' (by omega) (fun p st' s'' _ a2 a3 a4 => ⟨a4.1, a3, p, a4.2, a2⟩) ?_) ?_ fun _ _ e => e)
  ·refine Q7 (n := its.length) (fun i j C hi hj hC => ?_) (fun p hp => ⟨rfl, hp⟩) _ (Oi (by omega))
   unfold PySem.W.kas_ask
   have gi : kt.getD i Value.none ∈ kt := by
    have e : kt.getD i Value.none = kt[i]'(by omega) := by simp [show i < kt.length by omega]
    rw [e]; exact List.getElem_mem _
   have gj : kt.getD j Value.none ∈ kt := by
    have e : kt.getD j Value.none = kt[j]'(by omega) := by simp [show j < kt.length by omega]
    rw [e]; exact List.getElem_mem _
   exact Tz (hT _ gi) (hT _ gj) hC
  rintro ⟨⟨⟩, st'⟩ s'' ⟨rfl, hf, p, hp, har⟩
  exact fin st' hf ⟨_, SM hp, PySem.W.kat_snds hkl har⟩
theorem Ql {l : Addr} {Q : Value -> Shared -> Prop} {E : Value -> Shared -> Prop} (F : FnOk X.prog X.w X.K X.mg X.base CX0 k f fd ps sp) (hr : Room k X.A.in1.in1) (hb : Binds X.K fd ps [])
  (IV : Inv X pins σ H s) (hl : s.heap.IsList l its.toArray) (rv : Vals xs its) (h64 : xs.length < 64) (lk : xs.length = ks.length) (kn : ∀ k ∈ ks, k ≠ [])
  (KY : ∀ (i : Nat) x k H3 (Q' : VK), xs[i]? = some x -> ks[i]? = some k -> Same H H3 -> (∀ H4 t, Same H3 H4 -> SqT X.K H4 t (k.map V.int) -> Q' (.ref t) H4) -> sp [x] H3 Q' E0)
  (hR : ∀ D ws H' s', H D = none -> ws.Perm xs -> Same H H' -> H' D = none -> Inv X pins σ (upd H' D (.lst ws)) s' -> Q (.ref D) s') :
  wpAny (model X.prog X.w) X.A (call (.builtin "sorted") [.ref l] [(Str.ofString "key", .ref f)]) Q E s := by
 have lv := rv.length
 refine call_function_entry_kw kind_sorted plain_sorted entry_sorted (ksk_s1 _ _) ?_
 unfold Builtin.«sorted»
 refine wpAny_bind (m := checkCount "sorted" 1 1 _) (wpAny_pure ?_)
 refine wpAny_bind (collect_list hl ?_ (by rw [sizeLine_eq]; omega))
 refine wpAny_bind (wpAny_newList ?_ (by rw [sizeLine_eq]; omega))
 have hsz : ((s.heap.push (seqObj "list" #[] 0)).update s.heap.objs.size (Obj.mapSeq (· ++ its.toArray))).objs.size = s.heap.objs.size + 1 := by
  rw [Heap.size_update, size_push']
 have hoL : (((s.heap.push (seqObj "list" #[] 0)).update s.heap.objs.size (Obj.mapSeq (· ++ its.toArray))).push (seqObj "list" its.toArray 0)).get? (s.heap.objs.size + 1) = some (seqObj "list" its.toArray 0) := by
  rw [← hsz]; exact Heap.get?_push_size _ rfl
 have keep : ∀ b o, s.heap.get? b = some o -> (((s.heap.push (seqObj "list" #[] 0)).update s.heap.objs.size (Obj.mapSeq (· ++ its.toArray))).push (seqObj "list" its.toArray 0)).get? b = some o := fun b o q => by
  have hlt : b < s.heap.objs.size := Heap.lt_size q
  rw [Heap.get?_push_ne _ _ _ (by rw [hsz]; exact Nat.ne_of_lt (Nat.lt_succ_of_lt hlt)), Heap.get?_update_ne _ _ _ _ (Nat.ne_of_lt hlt), Heap.get?_push_ne _ _ _ (Nat.ne_of_lt hlt)]
  exact q
 show wpAny _ _ _ _ _ { s with heap := ((s.heap.push (seqObj "list" #[] 0)).update s.heap.objs.size (Obj.mapSeq (· ++ its.toArray))).push (seqObj "list" its.toArray 0) }
 rw [hsz]
 have hDn : H (s.heap.objs.size + 1) = none := IV.hok.fresh (Nat.le_succ _)
 have I1 : Inv X pins σ H { s with heap := ((s.heap.push (seqObj "list" #[] 0)).update s.heap.objs.size (Obj.mapSeq (· ++ its.toArray))).push (seqObj "list" its.toArray 0) } := IV.kept (t' := s.toks) keep
 refine wpAny_bind (wpAny_holding (wpAny_call_entry_kw slot_list_sort ⟨_, hoL, rfl⟩ entry_list_sort ?body (ksk_l1 _ _)))
 case body =>
  show wpAny (model X.prog X.w) X.A.in1.in1 (Builtin.«list.sort» ⟨[.ref (s.heap.objs.size + 1)], [(Str.ofString "key", .ref f)]⟩) _ _ _
  rw [ksk_t1]
  refine Lw F hr hb I1 (IV.fpOk (Nat.le_succ _) hDn) hoL rv h64 lk kn KY fun ws H' s' wp sm hD' I' => ⟨_, rfl, ?_⟩
  exact wpAny_pure ⟨_, rfl, hR _ ws H' s' hDn wp sm hD' I'⟩
end
end L2
namespace L2
open PySem PySem.Spec PyProof.Rows
def Ky (K : PySem.W.Frag) (sp : Sp) (x : V) (H2 : Hp) (Q : VK) : Prop := ∃ (l : Addr) (xs : List V) (ks : List (List Int)), x = .ref l /\ SqL K H2 l xs /\ xs.length < 64 /\ xs.length = ks.length /\ (∀ k ∈ ks, k ≠ []) /\
 (∀ (i : Nat) (x : V) (k : List Int) (H3 : Hp) (Q' : VK), xs[i]? = some x -> ks[i]? = some k -> Same H2 H3 -> (∀ H4 t, Same H3 H4 -> SqT K H4 t (k.map V.int) -> Q' (.ref t) H4) -> sp [x] H3 Q' E0) /\
 ∀ (D : Addr) (ws : List V) (H' : Hp), H2 D = none -> ws.Perm xs -> Same H2 H' -> H' D = some (.lst ws) -> Q (.ref D) H'
def Kg (K : PySem.W.Frag) (sp : Sp) (te : TE) : TE := fun σ H Q => te σ H fun x H1 => Ky K sp x H1 Q
section
variable {X : Cx}
theorem Ew {K : PySem.W.Frag} {e : Expr} {te : TE} {p p2 pos k1 : Pos} {fx : Str} {k : Nat} {f : Addr} {fd : FuncData} {ps : List Str} {sp : Sp} (hK : X.K = K) (ha : PA X [e] (wK te Ez)) (hg : Gl X "sorted") (hm : X.mg "sorted" = none)
  (G : FnOk X.prog X.w X.K X.mg X.base CX0 k f fd ps sp) (hmk : X.mg fx = some (.ref f)) (hbk : Binds X.K fd ps []) (hgk : Gl X fx) (hr : Room (k + 1) X.A) (hdb : (fx == ("__debug__" : Str)) = false := by decide)
  (h1 : backTo pos (starEach [e] X.env) = (false, eval e X.env) :: backTo pos (starEach [] X.env) := by rfl) (h2 : (backTo pos (starEach [e] X.env)).any (·.1) = false := by rfl) :
  PE X (.Call (.Name "sorted" p) [e] [⟨some "key", .Name fx p2, k1⟩] pos) (Kg K sp te) := by
 subst hK
 intro pins s σ H Q I h
 refine wpAny_Call_Name_kw (o9 I hg hm PyProof.Rows.boot_sorted ?_)
 refine PyProof.Rows.callWith_kw ?_ h1 h2
 refine thn (ha pos pins s σ H (fun vs H1 => match vs with | [x] => Ky X.K sp x H1 Q | _ => False) I h) fun us s1 ⟨vs, H1, I1, r1, q1⟩ => ?_
 obtain ⟨x, rfl⟩ : ∃ x, vs = [x] := by
  match vs, q1 with
  | [x], _ => exact ⟨x, rfl⟩
 obtain ⟨u, rfl, rx⟩ := vals1 r1
 obtain ⟨l, xs, ks, ex, hl, h64, lk, kn, KY, q⟩ := q1
 subst ex
 cases rx
 refine PyProof.Rows.kws_cons (uq I1 hgk hmk ?_ hdb)
 refine PyProof.Rows.kws_nil ?_
 obtain ⟨its, rv, pl, hz⟩ := I1.list hl
 show wpAny _ _ (call (.builtin "sorted") [Value.ref l] [(Str.ofString "key", .ref f)]) _ _ _
 refine Ql (H := H1) G (Room.two hr) hbk I1 pl.isList rv h64 lk kn KY fun D ws H' s' hD wp sm hD' I' => ?_
 exact ⟨.ref D, _, I', rfl, q D ws _ hD wp (sm.trans (aH hD')) aB⟩
end
theorem O9 {K : PySem.W.Frag} {sp : Sp} {te : TE} {σ : St} {H : Hp} {Q : VK} (h : te σ H fun x H1 => Ky K sp x H1 Q) : Kg K sp te σ H Q := h
end L2
namespace L2
open PySem PySem.Spec PyProof.Rows
section
variable {X : Cx} {pins : List (Addr × Obj)} {σ : St} {H : Hp} {l I S : Addr} {its : List Value} {ts : List Addr} {ks : List (List Int)} {R : Result -> Shared -> Prop}
end
section
variable {X : Cx}
end
end L2
namespace L2
open PySem PySem.Spec PyProof.Rows
section
variable {X : Cx}
end
end L2
namespace L2
open PySem PySem.Spec PyProof.Rows
section
variable {X : Cx} {K : PySem.W.Frag}
end
end L2
namespace GX
open PySem PySem.Spec PyProof.Rows
abbrev Eg (l : Addr) (k : Int) : Obj := { cls := .type "list_reverseiterator", data := .fields #[.ref l, .int k 0] }
def IsRev (h : Heap) (it l : Addr) (k : Int) : Prop := h.get? it = some (Eg l k)
theorem IsRev.ty {s : Shared} {a l : Addr} {k : Int} (h : IsRev s.heap a l k) : s.TypeIs (.ref a) "list_reverseiterator" := ⟨_, h, rfl⟩
theorem sNext : Slot "list_reverseiterator" "__next__" "list_reverseiterator.__next__" := by
 refine Slot.of (owner := "list_reverseiterator") (n := "__next__") ?a ?b ?c ?d ?e ?f
 case a => rw [typeLookup_type, builtinLookup_eq_fast]; kernel_rfl
 case f => rw [isSubtype_type]; kernel_rfl
 case e => first | (left; decide +kernel) | (right; decide +kernel)
 all_goals decide +kernel
theorem Vx : entryFor table "list_reverseiterator.__next__" = some Builtin.«list_reverseiterator.__next__» := by
 apply entryFor_of_tree
 kernel_rfl
theorem UL (it l : Addr) (k : Int) (its : Array Value) (n : Nat) (x : Value) (k0 : ¬ k < 0) (hx : its[k.toNat]? = some x) :
  Meets (Builtin.«list_reverseiterator.__next__» ⟨[.ref it], []⟩) (fun _ R s => s.heap.get? it = some (Eg l k) /\ s.heap.get? l = some { cls := .type "list", data := .seq its n } /\
   ∀ h', IsRev h' it l (k - 1) -> Heap.SameBut it s.heap h' -> R (.ok (.ret x)) { s with heap := h' }) :=
 .of_wp fun prog w A R s ⟨h1, h2, q⟩ => by
  obtain ⟨h, g, d, tk, os⟩ := s
  wp_walk
  simp only [hx]
  wp_walk
  refine ⟨x, rfl, q _ ?_ (Heap.SameBut.update ..)⟩
  unfold IsRev
  rw [Heap.get?_update_self _ h1 rfl]
  rfl
theorem WL (it l : Addr) (k : Int) (k0 : k < 0) :
  Meets (Builtin.«list_reverseiterator.__next__» ⟨[.ref it], []⟩) (fun A R s => A.handled = none /\ s.heap.get? it = some (Eg l k) /\
   ∀ h' e, Heap.ExtBut it s.heap h' -> Shared.TypeIs { s with heap := h' } (.ref e) "StopIteration" -> R (.error (.ref e)) { s with heap := h' }) :=
 .of_wp fun prog w A R s ⟨h0, h1, q⟩ => by
  obtain ⟨h, g, d, tk, os⟩ := s
  have h0' : A.in1.handled = none := h0
  wp_walk
  simp only [raiseNew]
  wp_walk
  exact q _ _ (fun b o _ e => Heap.get?_push_of_some _ (Heap.get?_push_of_some _ e)) ⟨_, Heap.get?_push_size _ rfl, rfl⟩
theorem Wg (a : Value) : argsOk "list_reverseiterator.__next__" ⟨[a], []⟩ := by
 unfold argsOk
 kernel_rfl
section
variable {prog : Program} {w : World} {A : Around} {s : Shared} {E : Value -> Shared -> Prop} {it l : Addr}
theorem Hy {R : Result -> Shared -> Prop} {S : Around -> (Result -> Shared -> Prop) -> Shared -> Prop} (hT : s.TypeIs (.ref it) "list_reverseiterator") (m : Meets (Builtin.«list_reverseiterator.__next__» ⟨[.ref it], []⟩) S) (h : S A R s) :
  codeAny (model prog w) A (.call (.builtin "list_reverseiterator.__next__") ⟨[.ref it], []⟩) R s :=
 codeAny_call_builtin sNext.plain Vx (sNext.check _ _ _ _ _ _ _ _ hT (Wg _) (m prog w A R s h))
theorem MK {k : Int} {its : Array Value} {n : Nat} {x : Value} {Q : Option Value -> Shared -> Prop} (hit : IsRev s.heap it l k) (hl : s.heap.get? l = some { cls := .type "list", data := .seq its n }) (k0 : ¬ k < 0) (hx : its[k.toNat]? = some x)
  (hQ : ∀ h', IsRev h' it l (k - 1) -> Heap.SameBut it s.heap h' -> Q (some x) { s with heap := h' }) : wpAny (model prog w) A (pyNext (.ref it)) Q E s := by
 have hT := hit.ty
 have hk := sNext.lookup
 have hb := sNext.bind (.ref it)
 unfold pyNext
 repeat' first | assumption | wp_step
 exact Hy hT (UL it l k its n x k0 hx) ⟨hit, hl, fun h' a b => wpAny_pure (wpAny_pure (hQ h' a b))⟩
theorem Pz {k : Int} {Q : Option Value -> Shared -> Prop} (hh : A.handled = none) (hit : IsRev s.heap it l k) (k0 : k < 0)
  (fin : ∀ g, Heap.ExtBut it s.heap g -> Q none { s with heap := g }) : wpAny (model prog w) A (pyNext (.ref it)) Q E s := by
 have hT := hit.ty
 have hk := sNext.lookup
 have hb := sNext.bind (.ref it)
 have hst : isSubtype (.type "StopIteration") (.type "StopIteration") = pure true := by rw [isSubtype_type]; kernel_rfl
 unfold pyNext
 repeat' first | assumption | wp_step
 refine Hy hT (WL it l k k0) ⟨hh, hit, fun h' e a b => ?_⟩
 have hq := fin h' a
 repeat' first | assumption | wp_step
theorem QZ : Slot "list_reverseiterator" "__iter__" "list_reverseiterator.__iter__" := by
 refine Slot.of (owner := "list_reverseiterator") (n := "__iter__") ?a ?b ?c ?d ?e ?f
 case a => rw [typeLookup_type, builtinLookup_eq_fast]; kernel_rfl
 case f => rw [isSubtype_type]; kernel_rfl
 case e => first | (left; decide +kernel) | (right; decide +kernel)
 all_goals decide +kernel
theorem V1 : entryFor table "list_reverseiterator.__iter__" = some Builtin.«dict_keyiterator.__iter__» := by
 apply entryFor_alias (id' := "dict_keyiterator.__iter__")
 all_goals first | rfl | kernel_rfl | decide +kernel
theorem Vu (a : Value) : argsOk "list_reverseiterator.__iter__" ⟨[a], []⟩ := by
 unfold argsOk
 kernel_rfl
theorem Vg (it : Addr) : Meets (Builtin.«dict_keyiterator.__iter__» ⟨[.ref it], []⟩) (fun _ R s => R (.ok (.ret (.ref it))) s) :=
 .of_wp fun prog w A R s q => by
  wp_walk
  exact ⟨_, rfl, q⟩
theorem Ea {k : Int} {Q : Value -> Shared -> Prop} (hit : IsRev s.heap it l k) (h : Q (.ref it) s) : wpAny (model prog w) A (pyIter (.ref it)) Q E s := by
 apply wpAny_pyIter_slot hit.ty QZ
 apply call_meets QZ hit.ty V1 (Vu _) (Vg it)
 exact ⟨"list_reverseiterator", _, hit.ty, sNext.lookup, h⟩
theorem eNew : entryFor table "reversed.__new__" = some Builtin.«reversed.__new__» := by
 apply entryFor_of_tree
 kernel_rfl
theorem Oj {its : Array Value} {n : Nat} {R : Result -> Shared -> Prop} (hl : s.heap.get? l = some { cls := .type "list", data := .seq its n })
  (h : R (.ok (.ret (.ref s.heap.objs.size))) { s with heap := s.heap.push (Eg l ((its.size : Nat) - 1)) }) : codeAny (model prog w) A (.call (.builtin "list.__reversed__") ⟨[.ref l], []⟩) R s :=
 codeAny_call_builtin F.slot_list_reversed.plain F.entry_list_reversed (F.slot_list_reversed.check _ _ _ _ _ _ _ _ ⟨_, hl, rfl⟩ (F.args_list_reversed_1 _) (PySem.AutoListH.list___reversed___list_0 l its n prog w A R s ⟨hl, h⟩))
theorem QC {its : Array Value} {n : Nat} {R : Result -> Shared -> Prop} (hl : s.heap.get? l = some { cls := .type "list", data := .seq its n })
  (h : R (.ok (.ret (.ref s.heap.objs.size))) { s with heap := s.heap.push (Eg l ((its.size : Nat) - 1)) }) :
  codeAny (model prog w) A (.call (.builtin "reversed.__new__") ⟨[.type "reversed", .ref l], []⟩) R s := by
 have ok : checkBuiltinCall "reversed.__new__" ⟨[.type "reversed", .ref l], []⟩ = pure () := by kernel_rfl
 have pl : plainId "reversed.__new__" = true := by decide +kernel
 have sb : isSubtype (.type "reversed") (.type "reversed") = pure true := by rw [isSubtype_type]; kernel_rfl
 have hT : s.TypeIs (.ref l) "list" := ⟨_, hl, rfl⟩
 have r1 := F.slot_list_reversed.lookup
 have r2 := F.slot_list_reversed.bind (.ref l)
 apply codeAny_call_builtin pl eNew
 rw [ok]
 apply wpAny_pure
 unfold Builtin.«reversed.__new__»
 repeat' first | assumption | wp_step
 exact Oj hl (wpAny_pure h)
theorem yF {its : Array Value} {n : Nat} {Q : Value -> Shared -> Prop} (hl : s.heap.get? l = some { cls := .type "list", data := .seq its n })
  (h : IsRev (s.heap.push (Eg l ((its.size : Nat) - 1))) s.heap.objs.size l ((its.size : Nat) - 1) -> Q (.ref s.heap.objs.size) { s with heap := s.heap.push (Eg l ((its.size : Nat) - 1)) }) :
  wpAny (model prog w) A (call (.type "reversed") [.ref l]) Q E s := by
 have m : mroOf (.type "reversed") = pure [.type "reversed", .type "object"] := by rw [mroOf_type]; kernel_rfl
 have lk : typeLookup (.type "reversed") "__new__" = pure (some (.builtin "reversed.__new__")) := by rw [typeLookup_type, builtinLookup_eq_fast]; kernel_rfl
 have mb : Bind.madeBy (.type "reversed") = pure (some "reversed.__new__") := madeBy_type m lk (by decide +kernel)
 have ok : checkTypeCall "reversed" ⟨[.ref l], []⟩ = pure () := by kernel_rfl
 have ok2 : checkBuiltinCall "reversed.__new__" ⟨[.type "reversed", .ref l], []⟩ = pure () := by kernel_rfl
 have pl : plainId "reversed.__new__" = true := by decide +kernel
 have sb : isSubtype (.type "reversed") (.type "reversed") = pure true := by rw [isSubtype_type]; kernel_rfl
 have no : isSubtype (.type "list_reverseiterator") (.type "reversed") = pure false := by rw [isSubtype_type]; kernel_rfl
 have hT : s.TypeIs (.ref l) "list" := ⟨_, hl, rfl⟩
 have r1 := F.slot_list_reversed.lookup
 have r2 := F.slot_list_reversed.bind (.ref l)
 apply wpAny_call
 apply codeAny_of_tree
 change wpAny _ _ (callAny (.type "reversed") ⟨[.ref l], []⟩) _ _ _
 repeat' first | assumption | wp_step
 refine ⟨Code.quiet_builtin _ (by decide +kernel), codeAny_builtin F.entry_type_call ?_⟩
 rw [Around.under_plain rfl rfl]
 repeat' first | assumption | wp_step
 refine QC hl ?_
 have tn : Shared.TypeIs { s with heap := s.heap.push (Eg l ((its.size : Nat) - 1)) } (.ref s.heap.objs.size) "list_reverseiterator" := ⟨_, Heap.get?_push_size _ rfl, rfl⟩
 have fin := h (Heap.get?_push_size _ rfl)
 repeat' first | assumption | wp_step
end
end GX
namespace GX
open PySem PySem.Spec PyProof.Rows
abbrev Cp (es : Array DictEntry) (ep : Nat) : Obj := { cls := .type "dict", data := .dict es ep }
abbrev Et (d : Addr) (i n ep : Nat) : Obj := { cls := .type "dict_valueiterator", data := .fields #[.ref d, .int i 0, .int n 0, .int ep 0] }
theorem LC (it d : Addr) (i ep : Nat) (es : Array DictEntry) (e : DictEntry) (hx : es[i]? = some e) :
  Meets (Builtin.«dict_valueiterator.__next__» ⟨[.ref it], []⟩) (fun _ R s => s.heap.get? it = some (Et d i es.size ep) /\ s.heap.get? d = some (Cp es ep) /\
   ∀ g, g.get? it = some (Et d (i + 1) es.size ep) -> Heap.SameBut it s.heap g -> R (.ok (.ret e.val)) { s with heap := g }) :=
 .of_wp fun prog w A R s ⟨h1, h2, q⟩ => by
  obtain ⟨h, g, dr, tk, os⟩ := s
  have hT : Shared.TypeIs { heap := h, gens := g, drawn := dr, toks := tk, os := os } (.ref it) "dict_valueiterator" := ⟨_, h1, rfl⟩
  wp_walk
  rw [if_neg (by omega), Int.toNat_natCast, hx]
  wp_walk
  have ow : Builtin.Dict_items.ownsTuple ((Manifest.find? "dict_valueiterator").elim "dict_valueiterator" fun x => x.tpName) = false := by decide +kernel
  refine ⟨_, rfl, q _ ?_ (Heap.SameBut.update ..)⟩
  rw [Heap.get?_update_self _ h1 rfl, ow]
  simp [Obj.mapFields, rawInt]
  intro x hx hm
  exfalso
  revert x hx hm
  decide +kernel
theorem Qx (d : Addr) (es : Array DictEntry) (ep : Nat) (hd : (d == sysModules) = false) :
  Meets (Builtin.«dict.values» ⟨[.ref d], []⟩) (fun _ R s => s.heap.get? d = some (Cp es ep) /\ R (.ok (.ret (.ref s.heap.objs.size))) { s with heap := s.heap.push { cls := .type "dict_values", data := .fields #[.ref d] } }) :=
 .of_wp fun prog w A R s ⟨h1, q⟩ => by
  obtain ⟨h, g, dr, tk, os⟩ := s
  have hT : Shared.TypeIs { heap := h, gens := g, drawn := dr, toks := tk, os := os } (.ref d) "dict" := ⟨_, h1, rfl⟩
  wp_walk
  exact ⟨_, rfl, q⟩
theorem Ow (it d : Addr) (i ep : Nat) (es : Array DictEntry) (hi : es.size <= i) :
  Meets (Builtin.«dict_valueiterator.__next__» ⟨[.ref it], []⟩) (fun A R s => A.handled = none /\ s.heap.get? it = some (Et d i es.size ep) /\ s.heap.get? d = some (Cp es ep) /\
   ∀ g e, Heap.ExtBut it s.heap g -> Shared.TypeIs { s with heap := g } (.ref e) "StopIteration" -> R (.error (.ref e)) { s with heap := g }) :=
 .of_wp fun prog w A R s ⟨h0, h1, h2, q⟩ => by
  obtain ⟨h, g, dr, tk, os⟩ := s
  have hT : Shared.TypeIs { heap := h, gens := g, drawn := dr, toks := tk, os := os } (.ref it) "dict_valueiterator" := ⟨_, h1, rfl⟩
  have h0' : A.in1.handled = none := h0
  wp_walk
  rw [if_neg (by omega), Int.toNat_natCast, Array.getElem?_eq_none hi]
  wp_walk
  simp only [raiseNew]
  wp_walk
  exact q _ _ (fun b o nb e => Heap.get?_push_of_some _ (Heap.get?_push_of_some _ (((Heap.SameBut.update ..).2 b nb).trans e))) ⟨_, Heap.get?_push_size _ rfl, rfl⟩
theorem JH (v d : Addr) (ep : Nat) (es : Array DictEntry) (dd : Option Addr) (sl : Array (Option Value)) :
  Meets (Builtin.«dict_values.__iter__» ⟨[.ref v], []⟩) (fun A R s => s.heap.get? v = some { cls := .type "dict_values", dict := dd, data := .fields #[.ref d], slots := sl } /\ s.heap.get? d = some (Cp es ep) /\
   R (.ok (.ret (.ref s.heap.objs.size))) { s with heap := s.heap.push (Et d 0 es.size ep) }) :=
 .of_wp fun prog w A R s ⟨h1, h2, q⟩ => by
  obtain ⟨h, g, dr, tk, os⟩ := s
  have hT : Shared.TypeIs { heap := h, gens := g, drawn := dr, toks := tk, os := os } (.ref v) "dict_values" := ⟨_, h1, rfl⟩
  wp_walk
  have ow : Builtin.Dict_items.ownsTuple "dict_valueiterator" = false := by decide +kernel
  rw [ow]
  exact ⟨_, rfl, q⟩
def RawD (h : Heap) (d : Addr) (es : Array DictEntry) (ep : Nat) : Prop := h.get? d = some (Cp es ep)
def ValAt (h : Heap) (it d : Addr) (i n ep : Nat) : Prop := h.get? it = some (Et d i n ep)
theorem RawD.of {h : Heap} {d : Addr} {o : Obj} {es : Array DictEntry} {ep : Nat} (e : h.get? d = some o) (x : o.ExactDict) (dt : o.data = .dict es ep) : RawD h d es ep := by
 obtain ⟨c, di, dat, sl⟩ := o
 obtain ⟨rfl, rfl, rfl⟩ := x
 cases dt
 exact e
theorem RawD.at {h g : Heap} {d : Addr} {es : Array DictEntry} {ep : Nat} (x : RawD h d es ep) (k : ∀ o, h.get? d = some o -> g.get? d = some o) : RawD g d es ep := k _ x
theorem RawD.lt {h : Heap} {d : Addr} {es : Array DictEntry} {ep : Nat} (x : RawD h d es ep) : d < h.objs.size := Heap.lt_size x
theorem ValAt.is {h : Heap} {it d : Addr} {i n ep : Nat} (x : ValAt h it d i n ep) : h.IsValIter it d i n ep := ⟨_, x, rfl, rfl⟩
section
variable {prog : Program} {w : World} {A : Around} {s : Shared} {E : Value -> Shared -> Prop} {it v d : Addr} {es : Array DictEntry} {i ep : Nat}
theorem wJ {Q : Value -> Shared -> Prop} (hS : (d == sysModules) = false) (rd : RawD s.heap d es ep)
  (q : Q (.ref s.heap.objs.size) { s with heap := s.heap.push { cls := .type "dict_values", data := .fields #[.ref d] } }) : wpAny (model prog w) A (call (.builtin "dict.values") [.ref d]) Q E s :=
 call_meets F.slot_dict_values ⟨_, rd, rfl⟩ F.entry_dict_values (F.args_dict_values_1 _) (Qx d es ep hS) ⟨rd, q⟩
theorem CN {Q : Value -> Shared -> Prop} (hv : s.heap.IsValuesView v d) (rd : RawD s.heap d es ep)
  (q : Q (.ref s.heap.objs.size) { s with heap := s.heap.push (Et d 0 es.size ep) }) : wpAny (model prog w) A (pyIter (.ref v)) Q E s := by
 obtain ⟨⟨c, di, dat, sl⟩, e, rfl, rfl⟩ := id hv
 apply wpAny_pyIter_slot hv.typeIs F.slot_dict_values_iter
 apply call_meets F.slot_dict_values_iter hv.typeIs F.entry_dict_values_iter (F.args_dict_values_iter_1 _) (JH v d ep es di sl)
 exact ⟨e, rd, "dict_valueiterator", _, ⟨_, Heap.get?_push_size _ rfl, rfl⟩, F.slot_dict_valueiterator_next.lookup, q⟩
theorem Mg {R : Result -> Shared -> Prop} {S : Around -> (Result -> Shared -> Prop) -> Shared -> Prop} (hT : s.TypeIs (.ref it) "dict_valueiterator") (m : Meets (Builtin.«dict_valueiterator.__next__» ⟨[.ref it], []⟩) S) (h : S A R s) :
  codeAny (model prog w) A (.call (.builtin "dict_valueiterator.__next__") ⟨[.ref it], []⟩) R s :=
 codeAny_call_builtin F.slot_dict_valueiterator_next.plain F.entry_dict_valueiterator_next (F.slot_dict_valueiterator_next.check _ _ _ _ _ _ _ _ hT (F.args_dict_valueiterator_next_1 _) (m prog w A R s h))
theorem Ci {e : DictEntry} {Q : Option Value -> Shared -> Prop} (hit : ValAt s.heap it d i es.size ep) (rd : RawD s.heap d es ep) (hx : es[i]? = some e)
  (hQ : ∀ g, ValAt g it d (i + 1) es.size ep -> Heap.SameBut it s.heap g -> Q (some e.val) { s with heap := g }) : wpAny (model prog w) A (pyNext (.ref it)) Q E s := by
 have hT : s.TypeIs (.ref it) "dict_valueiterator" := ⟨_, hit, rfl⟩
 have hk := F.slot_dict_valueiterator_next.lookup
 have hb := F.slot_dict_valueiterator_next.bind (.ref it)
 unfold pyNext
 repeat' first | assumption | wp_step
 exact Mg hT (LC it d i ep es e hx) ⟨hit, rd, fun g a b => wpAny_pure (wpAny_pure (hQ g a b))⟩
theorem Ig {Q : Option Value -> Shared -> Prop} (hh : A.handled = none) (hit : ValAt s.heap it d i es.size ep) (rd : RawD s.heap d es ep) (hi : es.size <= i)
  (fin : ∀ g, Heap.ExtBut it s.heap g -> Q none { s with heap := g }) : wpAny (model prog w) A (pyNext (.ref it)) Q E s := by
 have hT : s.TypeIs (.ref it) "dict_valueiterator" := ⟨_, hit, rfl⟩
 have hk := F.slot_dict_valueiterator_next.lookup
 have hb := F.slot_dict_valueiterator_next.bind (.ref it)
 have hst : isSubtype (.type "StopIteration") (.type "StopIteration") = pure true := by rw [isSubtype_type]; kernel_rfl
 unfold pyNext
 repeat' first | assumption | wp_step
 refine Mg hT (Ow it d i ep es hi) ⟨hh, hit, rd, fun g e a b => ?_⟩
 have hq := fin g a
 repeat' first | assumption | wp_step
end
theorem Jj {prog : Program} {w : World} {A : Around} {it d : Addr} {es : Array DictEntry} {ep : Nat} (hh : A.handled = none) (nd : d ≠ it) :
  Walks prog w A it [it, d] [it] es.size (fun i x => ∃ y : DictEntry, es[i]? = some y /\ x = y.val) (fun i h => ValAt h it d i es.size ep /\ RawD h d es ep) := by
 constructor
 case sub => intro b hb; simp at hb; simp [hb]
 case frame => exact fun i h g x k => ⟨k it (by simp) _ x.1, k d (by simp) _ x.2⟩
 case self => exact fun i s Q E x q => wpAny_pyIter_valiter x.1.is q
 case done => exact fun s Q E x q => Ig hh x.1 x.2 (Nat.le_refl _) fun g k => q g s.toks fun b o nb e => k b o (by simpa using nb) e
 case item =>
  intro i s Q E hi x q
  exact Ci x.1 x.2 (Array.getElem?_eq_getElem hi) fun g a k => q _ g s.toks ⟨_, Array.getElem?_eq_getElem hi, rfl⟩ ⟨a, (k.2 d nd).trans x.2⟩ fun b o nb e => (k.2 b (by simpa using nb)).trans e
end GX
namespace L2
open PySem PySem.Spec PyProof.Rows
def Irv (K : PySem.W.Frag) (a : Addr) (xs : List V) : It :=
 ⟨fun i H => H a = some (.lst xs) /\ i < xs.length, fun i H x H' => H' = H /\ xs[xs.length - 1 - i]? = some x, fun i _ => xs.length <= i⟩
theorem J3 {P : Program} {w : World} {K : PySem.W.Frag} {tg : Expr} (a it : Addr) (xs : List V) : Turn P w K tg (Irv K a xs) [it] it (fun i h => GX.IsRev h it a ((xs.length : Int) - 1 - (i : Nat))) where
 mem := by simp
 obj := fun i h st b hb => by
  obtain rfl : b = it := by simpa using hb
  exact ⟨_, st, fun v z => by cases z⟩
 keep := fun i h h' st k => k it (by simp) _ st
 item := by
  intro X hP hw hK hc i pins s σ H E I hf st hg
  subst hP hw hK
  obtain ⟨hq, hi⟩ := hg
  obtain ⟨z, its, n, rv, hl, e⟩ := I.lstM hq
  have hx : xs[xs.length - 1 - i]? = some xs[xs.length - 1 - i] := List.getElem?_eq_getElem (by omega)
  obtain ⟨u, hu, ru⟩ := rv.get hx
  obtain ⟨f0, f1, f2, f3, f4, f5⟩ := hf it (by simp)
  have ek : ((xs.length : Int) - 1 - (i : Nat)).toNat = xs.length - 1 - i := by omega
  refine GX.MK st e (by omega) (x := u) (by rw [ek]; simpa using hu) fun h' st' sb => ?_
  have I1 : Inv X pins σ H { s with heap := h' } := I.turned (t' := s.toks) (fun b o hb e => (sb.2 b hb).trans e) f0 f1 f3 f4 f5
  have st2 : GX.IsRev h' it a ((xs.length : Int) - 1 - ((i + 1 : Nat) : Int)) := by
   rw [show (xs.length : Int) - 1 - ((i + 1 : Nat) : Int) = (xs.length : Int) - 1 - (i : Nat) - 1 by omega]
   exact st'
  exact ⟨u, rfl, Dq (s := { s with heap := h' }) (n := "list_reverseiterator") st2 rfl rfl (by decide) ⟨_, H, I1, ru, ⟨rfl, hx⟩, st2, fun b hb => (hf b hb).1⟩⟩
 done := by
  intro X hP hw hK hc i pins s σ H E I hf st hg
  subst hP hw hK
  have hg : xs.length <= i := hg
  obtain ⟨f0, f1, f2, f3, f4, f5⟩ := hf it (by simp)
  exact GX.Pz (I.ok.hd hc) st (by omega) fun h' eb => ⟨rfl, I.turned (t' := s.toks) (fun b o hb e => eb b o hb e) f0 f1 f3 f4 f5⟩
 self := fun _ _ _ _ _ st h => GX.Ea st h
section
variable {X : Cx} {tg : Expr}
def Vl (K : PySem.W.Frag) (ta : TA) : TI := fun σ H R => ta σ H fun vs H1 => ∃ a xs, vs = [.ref a] /\ H1 a = some (.lst xs) /\ R (Irv K a xs) H1
theorem R1 {a : Expr} {ta : TA} {p pos : Pos} (hg : Gl X "reversed") (hm : X.mg "reversed" = none) (ha : PA X [a] ta) (hs : starEach [a] X.env = [(false, eval a X.env)] := by rfl) : PI X tg (.Call (.Name "reversed" p) [a] [] pos) (Vl X.K ta) := by
 intro pins s σ H R I h
 refine Call_ (o9 I hg hm boot_reversed (PyProof.Rows.callWith_type1 (thn (ha pos pins s σ H _ I h) fun us s1 ⟨vs, H1, I1, r1, q1⟩ => ?_) hs rfl))
 obtain ⟨l, xs, e, hq, q⟩ := q1
 subst e
 cases r1 with
 | cons r rr =>
  cases rr
  cases r
  obtain ⟨z, its, n, rv, hl, e⟩ := I1.lstM hq
  refine GX.yF e fun st0 => ?_
  have el : ((its.toArray.size : Nat) : Int) - 1 = (xs.length : Int) - 1 - ((0 : Nat) : Int) := by rw [List.size_toArray, ← rv.length]; omega
  rw [el] at st0 ⊢
  refine GX.Ea st0 ?_
  refine ⟨s1.heap.objs.size, [s1.heap.objs.size], _, _, H1, rfl, I1.kept (t' := s1.toks) fun b o e => Heap.get?_push_of_some _ e, J3 l _ xs, st0, fun b hb => ?_, q⟩
  have e : b = s1.heap.objs.size := by simpa using hb
  subst e
  exact I1.fpOk (Nat.le_refl _) (I1.hok.fresh (Nat.le_refl _))
end
theorem Tr {K : PySem.W.Frag} {ta : TA} {σ : St} {H : Hp} {R : It -> Hp -> Prop} (h : ta σ H fun vs H1 => ∃ a xs, vs = [.ref a] /\ H1 a = some (.lst xs) /\ R (Irv K a xs) H1) : Vl K ta σ H R := h
theorem Qh {K : PySem.W.Frag} {a : Addr} {xs : List V} {g : TG} {tb : TS} {D : Ends} {σ : St} {H : Hp} (Pv : Nat -> St -> Hp -> Prop) (h0 : Pv 0 σ H) (hl : ∀ i σ H, i <= xs.length -> Pv i σ H -> H a = some (.lst xs))
  (hs : ∀ i x σ H, i < xs.length -> xs[xs.length - 1 - i]? = some x -> Pv i σ H -> g x σ H fun σ2 H2 => tb { D with nx := Pv (i + 1), ct := Pv (i + 1), bk := D.nx } σ2 H2) (hd : ∀ σ H, Pv xs.length σ H -> D.nx σ H) :
  ∃ W : Nat -> Nat -> St -> Hp -> Prop, (∃ m, W 0 m σ H) /\ ∀ i m σ H, W i m σ H ->
   ((Irv K a xs).stop i H /\ D.nx σ H) ∨ ((Irv K a xs).go i H /\ ∃ N : St -> Hp -> Prop, (∀ σ' H', N σ' H' -> ∃ m', m' < m /\ W (i + 1) m' σ' H') /\ ∀ x H', (Irv K a xs).yld i H x H' -> g x σ H' fun σ2 H2 => tb { D with nx := N, ct := N, bk := D.nx } σ2 H2) := by
 refine ⟨fun i m σ H => m = xs.length - i /\ i <= xs.length /\ Pv i σ H, ⟨xs.length, by simp, Nat.zero_le _, h0⟩, ?_⟩
 rintro i m σ H ⟨rfl, hi, p⟩
 have q := hl i σ H hi p
 by_cases hlt : i < xs.length
 ·refine .inr ⟨⟨q, hlt⟩, Pv (i + 1), fun σ' H' p' => ⟨xs.length - (i + 1), by omega, rfl, hlt, p'⟩, fun x H' y => ?_⟩
  obtain ⟨e, y⟩ := y
  subst e
  exact hs i x σ _ hlt y p
 ·have e : i = xs.length := by omega
  subst e
  exact .inl ⟨Nat.le_refl _, hd σ H p⟩
end L2
namespace L2
open PySem PySem.Spec PyProof.Rows
theorem T8 {P : Program} {w : World} {r d : Addr} {es : Array DictEntry} {ep : Nat} :
  PySem.W.KdlSrc P w "dict_values" r d es.size (fun i x => ∃ y : DictEntry, es[i]? = some y /\ x = y.val) (fun h => h.IsValuesView r d /\ GX.RawD h d es ep) := by
 constructor
 case iter =>
  intro A s hh ⟨hv, rd⟩
  refine ⟨GX.Et d 0 es.size ep, fun i h => GX.ValAt h s.heap.objs.size d i es.size ep /\ GX.RawD h d es ep, fun E Q q => GX.CN hv rd q, GX.Jj hh (Nat.ne_of_lt rd.lt), Heap.get?_push_size _ rfl, rd.at fun o e => Heap.get?_push_of_some _ e⟩
 case hint => exact fun A E s Q x q => PySem.W.kdl_hint_values x.1.typeIs q
 case keep =>
  intro h g ⟨⟨o, e, c, dt⟩, rd⟩ k
  exact ⟨⟨o, k r (Or.inl rfl) o e, c, dt⟩, rd.at (k d (Or.inr rfl))⟩
 case there =>
  intro h ⟨⟨o, e, _⟩, rd⟩
  exact And.intro (Heap.lt_size e) rd.lt
 case type => exact fun s x => x.1.typeIs
 case notList => rfl
 case notTuple => rfl
theorem Fi {P : Program} {w : World} {H : Hp} {h : Heap} {d : Addr} {kvs : List (List Key × V)} (ok : HOk P w H h) (e : Rd H d (.dT kvs)) :
  (d == sysModules) = false /\ ∃ (es : Array DictEntry) (ep : Nat), GX.RawD h d es ep /\ es.size = kvs.length /\ ∀ (i : Nat) (k : List Key) (v : V), kvs[i]? = some (k, v) -> ∃ y : DictEntry, es[i]? = some y /\ RelV v y.val := by
 obtain ⟨_, hS, xs, kt, o, es, ep, h1, h2, h3, h4, _⟩ := vA ok e
 refine ⟨hS, es, ep, .of h1 h2 h3, ?_, fun i k v hv => ?_⟩
 ·rw [← Array.length_toList, h4, List.length_map]
  exact (Paired.length kt).symm
 ·obtain ⟨q, hq, _, _, rv⟩ := bC kt hv
  refine ⟨entryOfKey (tupleKind (bL P w)) q, ?_, rv⟩
  rw [← Array.getElem?_toList, h4, List.getElem?_map, hq]
  rfl
section
variable {X : Cx}
theorem Kv : MtR X "dict.values" (fun x vs H Q => ∃ d kvs, x = .ref d /\ vs = [] /\ H d = some (.dT kvs) /\ ∀ v, H v = none -> Q (.ref v) (upd H v (VwO v d))) := by
 intro pins s σ H x xs v us Q I rx rv h
 obtain ⟨d, kvs, rfl, rfl, hd, q⟩ := h
 cases rx
 cases rv
 obtain ⟨hS, es, ep, rd, _⟩ := Fi I.hok (.inl hd)
 refine GX.wJ hS rd ?_
 exact ⟨.ref s.heap.objs.size, _, I.laid (o := VwO s.heap.objs.size d) (t' := s.toks) (fun b ob e => Heap.get?_push_of_some _ e) (Nat.le_refl _) ⟨⟨_, Heap.get?_push_size _ rfl, rfl, rfl⟩, ⟨_, Heap.get?_push_size _ rfl⟩, fun h1 h2 ⟨o, e1, e2, e3⟩ k => ⟨o, k o e1, e2, e3⟩⟩, rfl, q _ (I.hok.fresh (Nat.le_refl _))⟩
theorem Dz (hc : X.calm = true) : fK X (.type "list") (fun xs H Q => ∃ (v d : Addr) (kvs : List (List Key × V)), xs = [.ref v] /\ H v = some (VwO v d) /\ Rd H d (.dT kvs) /\ kvs.length <= 1000 /\ ∀ l, H l = none -> Q (.ref l) (upd H l (.lst (kvs.map (·.2))))) := by
 intro pins s σ H xs us Q I r h
 obtain ⟨v, d, kvs, rfl, hv, hd, hlen, q⟩ := h
 obtain ⟨u, rfl, rx⟩ := vals1 r
 cases rx
 obtain ⟨hS, es, ep, rd, sz, rel⟩ := Fi I.hok hd
 have hvw : s.heap.IsValuesView v d := (I.hok v _ hv).1
 refine PySem.W.kdl_call (A := X.A) (T8 (es := es) (ep := ep)) (I.ok.hd hc) ⟨hvw, rd⟩ (by rw [sz]; exact Nat.le_of_lt (aJ (by omega))) fun h' tk acc c hk he hacc => ?_
 refine ⟨.ref s.heap.objs.size, _, I.laid (o := .lst (kvs.map (·.2))) (t' := tk) hk (Nat.le_refl _) ⟨by rw [List.length_map]; exact Nat.le_of_lt (aJ hlen), acc.toList, c, sE ?_ fun i x u hx hu => ?_, he⟩, rfl, q _ (I.hok.fresh (Nat.le_refl _))⟩
 ·have e : acc.toList.length = es.size := by rw [Array.length_toList]; exact hacc.1
  rw [List.length_map, e, sz]
 ·rw [Array.getElem?_toList] at hu
  obtain ⟨y, hy, rfl⟩ := hacc.2 i u hu
  rw [List.getElem?_map] at hx
  cases e : kvs[i]? with
  | none => rw [e] at hx; cases hx
  | some p =>
   rw [e] at hx
   cases hx
   obtain ⟨y', hy', ru⟩ := rel i p.1 p.2 e
   rw [hy] at hy'
   cases hy'
   exact ru
end
def Ca (d : Addr) (o : Obj) (kvs : List (List Key × V)) : It :=
 ⟨fun i H => i < kvs.length /\ H d = some (.frz o (.dT kvs)), fun i H x H' => H' = H /\ ∃ k, kvs[i]? = some (k, x), fun i H => kvs.length <= i /\ H d = some (.frz o (.dT kvs))⟩
theorem Fq {P : Program} {w : World} {K : PySem.W.Frag} {tg : Expr} {d it : Addr} {o : Obj} {kvs : List (List Key × V)} {es : Array DictEntry} {ep : Nat} (sz : es.size = kvs.length) (rel : ∀ (i : Nat) (k : List Key) (v : V), kvs[i]? = some (k, v) -> ∃ y : DictEntry, es[i]? = some y /\ RelV v y.val) (fz : ∀ h : Heap, h.get? d = some o -> GX.RawD h d es ep) :
  Turn P w K tg (Ca d o kvs) [it] it (fun i h => GX.ValAt h it d i es.size ep) where
 mem := by simp
 obj := fun i h st b hb => by
  have e : b = it := by simpa using hb
  subst e
  exact ⟨_, st, fun v z => by cases z⟩
 keep := fun i h h' st k => k it (by simp) _ st
 item := by
  intro X hP hw hK hc i pins s σ H E I hf st hg
  subst hP hw hK
  obtain ⟨hi, hd⟩ := hg
  have hdo : s.heap.get? d = some o := (show s.heap.get? d = some o /\ _ from I.hok d _ hd).1
  have hx : kvs[i]? = some kvs[i] := List.getElem?_eq_getElem hi
  obtain ⟨y, hy, ru⟩ := rel i kvs[i].1 kvs[i].2 hx
  obtain ⟨f0, f1, f2, f3, f4, f5⟩ := hf it (by simp)
  refine GX.Ci st (fz _ hdo) hy fun h' st' sb => ?_
  have I1 : Inv X pins σ H { s with heap := h' } := I.turned (t' := s.toks) (fun b o hb e => (sb.2 b hb).trans e) f0 f1 f3 f4 f5
  exact ⟨_, rfl, Dq (s := { s with heap := h' }) st' rfl rfl (by decide) ⟨kvs[i].2, H, I1, ru, ⟨rfl, kvs[i].1, hx⟩, st', fun b hb => (hf b hb).1⟩⟩
 done := by
  intro X hP hw hK hc i pins s σ H E I hf st hg
  subst hP hw hK
  obtain ⟨hi, hd⟩ := hg
  have hdo : s.heap.get? d = some o := (show s.heap.get? d = some o /\ _ from I.hok d _ hd).1
  obtain ⟨f0, f1, f2, f3, f4, f5⟩ := hf it (by simp)
  exact GX.Ig (I.ok.hd hc) st (fz _ hdo) (by omega) fun h' eb => ⟨rfl, I.turned (t' := s.toks) (fun b o hb e => eb b o hb e) f0 f1 f3 f4 f5⟩
 self := fun _ _ _ _ _ st h => wpAny_pyIter_valiter st.is h
section
variable {X : Cx}
def Mf (td : TE) : TI := fun σ H R => td σ H fun x H1 => ∃ d kvs, x = .ref d /\ H1 d = some (.dT kvs) /\ ∀ o, R (Ca d o kvs) (upd H1 d (.frz o (.dT kvs)))
theorem Ld {tg e : Expr} {apos cpos : Pos} {td : TE} (he : PE X e td) (hbase : attributeBase e "values" X.env (eval e X.env) = eval e X.env := by rfl) (hline : (apos.endLine == cpos.line) = true := by rfl) :
  PI X tg (.Call (.Attribute e "values" apos) [] [] cpos) (Mf td) := by
 intro pins s σ H R I h
 refine wpAny_Call_method0_late hbase hline (thn (he pins s σ H _ I h) fun v s1 ⟨x, H1, I1, r1, d, kvs, ex, hd, q⟩ => ?_)
 subst ex
 obtain rfl : v = Value.ref d := r1
 obtain ⟨hS, es, ep, rd, sz, rel⟩ := Fi I1.hok (.inl hd)
 obtain ⟨h1, h2⟩ := Ac (T := "dict") I1 (x := .ref d) rfl (.inr (.inr (.inl ⟨rfl, .inr ⟨kvs, hd⟩⟩)))
 refine ⟨"dict", "dict.values", PySem.F.plainAttrs_dict, PySem.F.slot_dict_values, PySem.F.type_dict_values, h1, h2, Calls.callWith_builtin rfl (PySem.evalArgs_none ?_)⟩
 refine GX.wJ hS rd ?_
 have rd' : GX.RawD (s1.heap.push { cls := .type "dict_values", data := .fields #[.ref d] }) d es ep := rd.at fun o e => Heap.get?_push_of_some _ e
 obtain ⟨o, ho, fz⟩ : ∃ o, (s1.heap.push { cls := .type "dict_values", data := .fields #[.ref d] }).get? d = some o /\ ∀ h : Heap, h.get? d = some o -> GX.RawD h d es ep := ⟨_, rd', fun _ e => e⟩
 have I2 : Inv X pins σ H1 { s1 with heap := s1.heap.push { cls := .type "dict_values", data := .fields #[.ref d] } } := I1.kept (t' := s1.toks) fun b ob e => Heap.get?_push_of_some _ e
 have hv : (s1.heap.push { cls := .type "dict_values", data := .fields #[.ref d] }).IsValuesView s1.heap.objs.size d := ⟨_, Heap.get?_push_size _ rfl, rfl, rfl⟩
 refine GX.CN hv rd' ?_
 have I3 : Inv X pins σ (upd H1 d (.frz o (.dT kvs))) { s1 with heap := s1.heap.push { cls := .type "dict_values", data := .fields #[.ref d] } } :=
  I2.write (t' := s1.toks) (x := d) (e := d) (by rw [hd]; trivial) (.inl rfl) (fun _ _ _ e => e) ⟨o, ho⟩ ⟨ho, by
   have g := I2.hok d _ hd
   obtain ⟨z, y, xs, kt, rest⟩ := (show ObjOk X.prog X.w H1 _ d (.dT kvs) from g)
   exact ⟨z, y, xs, Paired.mapP kt fun _ _ ⟨a1, a2, a3⟩ => ⟨a1, by rw [aL (nP a2 hd (by intro z; cases z))]; exact a2, a3⟩, rest⟩⟩
 refine ⟨_, [_], _, Ca d o kvs, upd H1 d (.frz o (.dT kvs)), rfl, I3.kept (t' := s1.toks) fun b ob e => Heap.get?_push_of_some _ e, Fq sz rel fz, Heap.get?_push_size _ rfl, fun b hb => ?_, q o⟩
 have eb : b = (s1.heap.push { cls := .type "dict_values", data := .fields #[.ref d] }).objs.size := by simpa using hb
 subst eb
 exact I3.fpOk (Nat.le_refl _) (I3.hok.fresh (Nat.le_refl _))
end
def fzT (x : V) (H : Hp) (R : It -> Hp -> Prop) : Prop := ∃ d kvs, x = .ref d /\ H d = some (.dT kvs) /\ ∀ o, R (Ca d o kvs) (upd H d (.frz o (.dT kvs)))
theorem Ks {td : TE} {σ : St} {H : Hp} {R : It -> Hp -> Prop} (h : td σ H fun x H1 => fzT x H1 R) : Mf td σ H R := h
theorem VH {H : Hp} {d : Addr} {kvs : List (List Key × V)} {R : It -> Hp -> Prop} (hd : H d = some (.dT kvs)) (h : ∀ o A, A d = some (.frz o (.dT kvs)) -> SmB d H A -> R (Ca d o kvs) A) : fzT (.ref d) H R :=
 ⟨d, kvs, rfl, hd, fun o => h o _ aB fun b u n e => by rw [aL n]; exact e⟩
theorem GC {d : Addr} {o : Obj} {kvs : List (List Key × V)} {g : TG} {tt : TT} {te : TE} {σ : St} {H : Hp} {D : Addr} {Qe : Hp -> Prop} (Pv : Nat -> St -> Hp -> Prop) (h0 : Pv 0 σ H) (hl : ∀ i σ H, i <= kvs.length -> Pv i σ H -> H d = some (.frz o (.dT kvs)))
  (hs : ∀ i k v σ H, kvs[i]? = some (k, v) -> Pv i σ H -> mF g tt te D (Pv (i + 1)) v σ H) (hd : ∀ σ H, Pv kvs.length σ H -> Qe H) :
  ∃ W : Nat -> Nat -> St -> Hp -> Prop, (∃ m, W 0 m σ H) /\ ∀ i m σ' H', W i m σ' H' -> ((Ca d o kvs).stop i H' /\ Qe H') ∨ ((Ca d o kvs).go i H' /\ ∃ N : St -> Hp -> Prop, (∀ σ2 H2, N σ2 H2 -> ∃ m', m' < m /\ W (i + 1) m' σ2 H2) /\
   ∀ x H'', (Ca d o kvs).yld i H' x H'' -> mF g tt te D N x σ' H'') := by
 refine ⟨fun i m σ H => m = kvs.length - i /\ i <= kvs.length /\ Pv i σ H, ⟨kvs.length, by simp, Nat.zero_le _, h0⟩, ?_⟩
 rintro i m σ H ⟨rfl, hi, p⟩
 have q := hl i σ H hi p
 by_cases hlt : i < kvs.length
 ·refine .inr ⟨⟨hlt, q⟩, Pv (i + 1), fun σ' H' p' => ⟨kvs.length - (i + 1), by omega, rfl, hlt, p'⟩, fun x H' y => ?_⟩
  obtain ⟨rfl, k, e1⟩ := y
  exact hs i k x σ _ e1 p
 ·have e : i = kvs.length := by omega
  subst e
  exact .inl ⟨⟨Nat.le_refl _, q⟩, hd σ H p⟩
end L2
local macro_rules | `(tactic| sizeOf_list_dec) => `(tactic| first | assumption | decide | exact ⟨by decide, by decide⟩ | exact ⟨by decide, by decide, by decide⟩ | exact Nat.le_of_ble_eq_true rfl | exact L2.aJ (by omega) | exact L2.NZ | exact L2.Lq | omega | fail)
local macro_rules | `(tactic| decreasing_trivial_pre_omega) => `(tactic| first | assumption | (apply L2.SqL.of; assumption) | (apply L2.SqT.of; assumption) | (refine Or.inl ?_; assumption) | (refine Or.inl ?_; apply L2.SqL.of; assumption) | (refine Or.inr ?_; apply L2.SqT.of; assumption))
local macro_rules | `(tactic| bv_omega) => `(tactic| first | assumption | exact L2.jh (j := 0) rfl | exact L2.jh (j := 1) rfl | exact L2.jh (j := 2) rfl | exact L2.jh (j := 3) rfl | exact L2.jh (j := 4) rfl | exact L2.jh (j := 5) rfl)
local macro_rules | `(tactic| array_get_dec) => `(tactic| array_mem_dec)
local macro_rules | `(tactic| array_get_dec) => `(tactic| with_reducible first
 | refine L2.Sy ?_ | refine L2.Tf ?_ | refine L2.RC ?_ | refine L2.Uv ?_ | refine L2.Rj ?_ | refine L2.RN ?_ | refine L2.T7 ?_ | refine L2.VL ?_ | refine L2.WT ?_ | refine L2.x_c ?_ | refine L2.UT ?_ | refine L2.Wj ?_ | refine L2.Sd ?_
 | refine L2.Tj ?_ | refine L2.U0 ?_ | refine L2.x_call ?_ | refine L2.Wv ?_ | refine L2.WW ?_ | refine L2.Tw ?_ | refine L2.VR ?_ | refine L2.x_b ?_ | refine L2.Tu ?_ | refine L2.Qt ?_
 | refine L2.Vf ?_ | refine L2.WP ?_ | refine L2.V7 ?_ | refine L2.RT ?_ | refine L2.U6 ?_ | refine L2.Ur ?_ | refine L2.V3 ?_
 | refine L2.RB ?_ | refine L2.T6 ?_ | refine L2.WK ?_ | refine L2.x_U ?_ | refine L2.Vb ?_ | refine L2.Vs ?_ | refine L2.U3 ?_ | refine L2.Vr ?_ | refine L2.x_eqB ?_ | refine L2.x_neB ?_
 | refine L2.VV ?_ | refine L2.U7 ?_ | refine L2.Rv ?_ | refine L2.WN ?_ | refine L2.Nu ?_ | refine L2.Uw ?_ | refine L2.PX ?_
 | refine L2.Up ?_ | refine L2.Pb ?_ | refine L2.x_din ?_ | refine L2.MT ?_ | refine L2.S9 ?_ | refine L2.Ve ?_ | refine L2.Oz ?_ | refine L2.RD ?_ | refine L2.VB ?_ | refine L2.WR ?_ | refine L2.Vq ?_ | refine L2.Uo ?_
 | refine L2.O5 ?_ | refine L2.Sg ?_ | refine L2.x_retN ?_ | refine L2.x_brk ?_ | refine L2.x_cont ?_ | refine L2.Vj ?_ | refine L2.Wy ?_ | refine L2.V6 ?_ | refine L2.VJ ?_)
local macro_rules | `(tactic| array_mem_dec) => `(tactic| ((with_reducible apply L2.Ri); (focus decreasing_trivial_pre_omega); (focus rfl)))
local macro_rules | `(tactic| array_mem_dec) => `(tactic| ((with_reducible apply L2.UV); (focus exact rfl)))
local macro_rules | `(tactic| array_mem_dec) => `(tactic| ((with_reducible apply L2.x_I); (focus sizeOf_list_dec)))
local macro_rules | `(tactic| array_mem_dec) => `(tactic| ((with_reducible apply L2.V5); (focus decreasing_trivial_pre_omega); (focus bv_omega)))
local macro_rules | `(tactic| array_mem_dec) => `(tactic| ((with_reducible apply L2.Uz); (focus decreasing_trivial_pre_omega); (focus bv_omega)))
local macro_rules | `(tactic| array_mem_dec) => `(tactic| ((with_reducible apply L2.U8); (focus decreasing_trivial_pre_omega)))
local macro_rules | `(tactic| array_mem_dec) => `(tactic| ((with_reducible apply L2.x_exisd); (focus decreasing_trivial_pre_omega)))
local macro_rules | `(tactic| array_mem_dec) => `(tactic| ((with_reducible apply L2.Ue); (focus decreasing_trivial_pre_omega)))
local macro_rules | `(tactic| array_mem_dec) => `(tactic| ((with_reducible apply L2.RV); (focus decreasing_trivial_pre_omega)))
local macro_rules | `(tactic| array_mem_dec) => `(tactic| ((with_reducible apply L2.Ui); (focus decreasing_trivial_pre_omega); (first | rw [L2.Hq] | rw [L2.isSomemap] | skip)))
local macro_rules | `(tactic| array_mem_dec) => `(tactic| ((with_reducible apply L2.x_exdin); (focus decreasing_trivial_pre_omega); (first | rw [L2.Hq] | rw [L2.isSomemap] | skip)))
local macro_rules | `(tactic| array_mem_dec) => `(tactic| ((with_reducible apply L2.Ry); (focus decreasing_trivial_pre_omega); (focus decreasing_trivial_pre_omega)))
local macro_rules | `(tactic| array_mem_dec) => `(tactic| ((with_reducible apply L2.Wh); (focus decreasing_trivial_pre_omega)))
local macro_rules | `(tactic| array_mem_dec) => `(tactic| ((with_reducible apply L2.x_lenL); (focus decreasing_trivial_pre_omega)))
local macro_rules | `(tactic| array_mem_dec) => `(tactic| ((with_reducible apply L2.x_lenT); (focus decreasing_trivial_pre_omega)))
local macro_rules | `(tactic| array_mem_dec) => `(tactic| ((with_reducible apply L2.x_lenD); (focus decreasing_trivial_pre_omega)))
local macro_rules | `(tactic| array_mem_dec) => `(tactic| ((with_reducible apply L2.Wo); (focus sizeOf_list_dec)))
local macro_rules | `(tactic| array_mem_dec) => `(tactic| ((with_reducible apply L2.UG); (focus sizeOf_list_dec)))
local macro_rules | `(tactic| array_mem_dec) => `(tactic| ((with_reducible apply L2.Nj); (focus assumption); (focus sizeOf_list_dec)))
local macro_rules | `(tactic| array_mem_dec) => `(tactic| ((with_reducible apply L2.MF); (focus assumption); (focus assumption); (focus sizeOf_list_dec)))
local macro_rules | `(tactic| clean_wf) => `(tactic| repeat' (first | array_get_dec | fail))
local macro_rules | `(tactic| array_mem_dec) => `(tactic| ((with_reducible apply L2.x_rlenL); (focus decreasing_trivial_pre_omega)))
local macro_rules | `(tactic| array_mem_dec) => `(tactic| ((with_reducible apply L2.x_rlenT); (focus decreasing_trivial_pre_omega)))
local macro_rules | `(tactic| array_mem_dec) => `(tactic| ((with_reducible apply L2.Lz); (focus decreasing_trivial_pre_omega)))
local macro_rules | `(tactic| array_mem_dec) => `(tactic| ((with_reducible apply L2.K1); (focus decreasing_trivial_pre_omega)))
local macro_rules | `(tactic| array_mem_dec) => `(tactic| ((with_reducible apply L2.Qn); (focus decreasing_trivial_pre_omega)))
local macro_rules | `(tactic| array_mem_dec) => `(tactic| ((with_reducible apply L2.x_rdict); (focus decreasing_trivial_pre_omega)))
local macro_rules | `(tactic| array_mem_dec) => `(tactic| (with_reducible refine L2.JX ?_))
local macro_rules | `(tactic| array_mem_dec) => `(tactic| ((with_reducible apply L2.QB); (focus decreasing_trivial_pre_omega)))
local macro_rules | `(tactic| array_mem_dec) => `(tactic| ((with_reducible apply L2.VG); (focus decreasing_trivial_pre_omega); (focus bv_omega)))
local macro_rules | `(tactic| array_mem_dec) => `(tactic| (with_reducible first | refine L2.WF ?_ | refine L2.Vi ?_ | refine L2.Ub ?_ | refine L2.T3 ?_ | refine L2.Vn ?_ | refine L2.S7 ?_ | refine L2.Py ?_ | refine L2.Uh ?_ | refine L2.Wx ?_))
local macro_rules | `(tactic| array_mem_dec) => `(tactic| ((with_reducible refine L2.Ey ?_); (with_reducible refine L2.Ey ?_); (with_reducible apply L2.Gg); (focus assumption); (focus sizeOf_list_dec)))
local macro_rules | `(tactic| array_mem_dec) => `(tactic| ((with_reducible refine L2.Ey ?_); (with_reducible apply L2.Gg); (focus assumption); (focus sizeOf_list_dec)))
local macro_rules | `(tactic| array_mem_dec) => `(tactic| ((with_reducible apply L2.Gg); (focus assumption); (focus sizeOf_list_dec)))
local macro_rules | `(tactic| array_mem_dec) => `(tactic| ((with_reducible apply L2.Uc); (focus assumption); (focus sizeOf_list_dec); (focus sizeOf_list_dec); (focus sizeOf_list_dec)))
local macro_rules | `(tactic| array_mem_dec) => `(tactic| ((with_reducible apply L2.Vp); (focus assumption); (focus sizeOf_list_dec); (focus sizeOf_list_dec); (focus sizeOf_list_dec)))
local macro_rules | `(tactic| sizeOf_list_dec) => `(tactic| with_reducible first | exact L2.G8 | exact L2.Gz | exact L2.Jy | exact L2.Mv | exact L2.Fe | exact L2.J7 | exact L2.BX | exact L2.xf | exact L2.NQ | exact L2.Kh | exact L2.Ke | exact L2.Nt | exact L2.cfl_shown | fail)
local macro_rules | `(tactic| array_mem_dec) => `(tactic| ((with_reducible apply L2.Uk); (focus decreasing_trivial_pre_omega)))
local macro_rules | `(tactic| array_mem_dec) => `(tactic| ((with_reducible apply L2.x_gdg); (focus decreasing_trivial_pre_omega); (focus assumption)))
local macro_rules | `(tactic| array_mem_dec) => `(tactic| ((with_reducible apply L2.x_gdo); (focus decreasing_trivial_pre_omega)))
local macro_rules | `(tactic| array_mem_dec) => `(tactic| ((with_reducible apply L2.x_gdin); (focus decreasing_trivial_pre_omega)))
local macro_rules | `(tactic| array_mem_dec) => `(tactic| ((with_reducible apply L2.x_gdput); (focus assumption); (focus assumption); (focus sizeOf_list_dec)))
local macro_rules | `(tactic| sizeOf_list_dec) => `(tactic| with_reducible first | exact L2.kf_learnt | exact L2.kf_learn | exact L2.kf_row_of | exact L2.kf_floor | exact L2.kf_reach | exact L2.kf_sure | fail)
local macro_rules | `(tactic| array_mem_dec) => `(tactic| ((with_reducible apply L2.x_rdictG); (focus decreasing_trivial_pre_omega)))
local macro_rules | `(tactic| array_mem_dec) => `(tactic| (with_reducible first | refine L2.x_ivals ?_ | refine L2.x_ikeys ?_ | refine L2.x_iseq ?_ | refine L2.x_sl3 ?_))
local macro_rules | `(tactic| array_mem_dec) => `(tactic| ((with_reducible apply L2.x_tyd); (focus assumption)))
local macro_rules | `(tactic| array_mem_dec) => `(tactic| (with_reducible first | refine L2.x_iitems ?_))
local macro_rules | `(tactic| array_mem_dec) => `(tactic| ((with_reducible apply L2.x_neE); (focus decreasing_trivial_pre_omega); (focus decreasing_trivial_pre_omega)))
local macro_rules | `(tactic| sizeOf_list_dec) => `(tactic| with_reducible first | exact L2.kf_listed | exact L2.kf_merge | fail)
local macro_rules | `(tactic| array_mem_dec) => `(tactic| (with_reducible first | refine L2.x_gsub ?_))
local macro_rules | `(tactic| array_mem_dec) => `(tactic| (with_reducible first | refine L2.R4 ?_))
local macro_rules | `(tactic| sizeOf_list_dec) => `(tactic| with_reducible first | exact L2.chf_me | exact L2.chf_hands | exact L2.chf_ballot | exact L2.chf_yes | exact L2.chf_votes | exact L2.chf_reports | exact L2.chf_agreed | exact L2.chf_begin | exact L2.chf_message | exact L2.chf_receive | exact L2.chf_see_ballot | exact L2.chf_see_yes | exact L2.chf_see_votes | exact L2.chf_gathers | exact L2.chf_settled | exact L2.chf_len | fail)
local macro_rules | `(tactic| array_mem_dec) => `(tactic| (with_reducible first | refine L2.TJ ?_))
local macro_rules | `(tactic| array_mem_dec) => `(tactic| (with_reducible first | refine L2.O9 ?_))
local macro_rules | `(tactic| array_mem_dec) => `(tactic| (with_reducible refine L2.Tr ?_))
local macro_rules | `(tactic| array_mem_dec) => `(tactic| (with_reducible refine L2.Ks ?_))
namespace K52
open PySem L2
def top (i : Nat) : Stmt := PySem.Challenge.pw_groupcall_k52_first_plan_told.main.body.getD i (.Pass ⟨0, 0, 0, 0⟩)
abbrev jP : Stmt := top 2
abbrev fu : Stmt := top 3
abbrev nD : Stmt := top 4
abbrev jO : Stmt := top 6
abbrev nA : Stmt := top 5
abbrev fB : Stmt := top 7
abbrev dg : Stmt := inClass (top 18) 0
abbrev cg : Stmt := inClass (top 19) 0
abbrev jJ : Stmt := top 13
abbrev lG : Stmt := top 22
abbrev jb : Stmt := top 23
abbrev d9 : Stmt := inClass (top 18) 4
abbrev iT : Stmt := inClass (top 18) 5
abbrev cM : Stmt := inClass (top 20) 1
abbrev gR : Stmt := top 27
abbrev lH : Stmt := top 28
abbrev iW : Stmt := inClass (top 18) 1
abbrev iQ : Stmt := inClass (top 18) 2
abbrev cF : Stmt := inClass (top 18) 6
abbrev bV : Stmt := inClass (top 21) 1
abbrev lJ : Stmt := top 26
abbrev dY : Stmt := top 29
abbrev cY : Stmt := top 30
abbrev dM : Stmt := top 31
abbrev yV : Stmt := top 32
abbrev dJ : Stmt := top 33
section
variable {P : Program} {w : World} {K : PySem.W.Frag} {mg : Str -> Option Value} {base : Heap}
def gK (K : PySem.W.Frag) : Sp := fun vs H Q _ => ∃ (d : Addr) (m : List (Int × Int)) (h : Int), vs = [.ref d, .int h] /\ Rd H d (.dK (dI m)) /\ Q (.int (ct m h)) H
theorem CQ : FnScope ["counts", "hand"] ["counts", "hand"] (ao jP) := ⟨rfl, rfl, rfl, by decide +kernel, rfl, by decide +kernel, by decide +kernel⟩
theorem DQ {f  : Addr} {fd  : FuncData} (F : Fun K "count_of" "count_of" jP f fd) : FnOk P w K mg base CX0 1 f fd ["counts", "hand"] (gK K) := by
 refine F.ok CQ (fun vs H Q E h => ?_) (fun cdv A outer s H vs Q E hr h => ?_)
 ·obtain ⟨d, m, h, rfl, _⟩ := h
  rfl
 obtain ⟨d, m, h, rfl, h⟩ := h
 have hu64 := hr.units
 have hu0 := hr.units0
 have hu := bH hr
 refine ⟨_, (aD (aW (lY hu (pv 0) (pv 1) aA ⟨rfl, rfl, rfl, rfl⟩))), ?_⟩
 obtain ⟨hd, k⟩ := h
 refine ⟨_, rfl, d, rfl, .inl ⟨_, hd⟩, _, rfl, _, .inl ⟨_, Sum.inl h, hd, rfl, rfl⟩, ?_⟩
 show Q ((fX (dI m) (Sum.inl h : Key)).getD (.int 0)) H
 rw [O4]
 exact k
def ji (K : PySem.W.Frag) : Sp := fun vs H Q _ => ∃ (a : Addr) (xs : List V) (ms : List (List (Int × Int))), vs = [.ref a] /\ SqL K H a xs /\ Dcs H xs ms /\ (∀ m ∈ ms, Ck m) /\ ms.length <= 10 /\
 ∀ (H' : Hp) (l : Addr) (S : List Int), Same H H' -> H' l = some (.lst (S.map V.int)) -> S.Nodup -> (∀ k, k ∈ S ↔ ∃ m ∈ ms, k ∈ m.map (·.1)) -> Q (.ref l) H'
theorem sc_hands_among : FnScope ["some", "hands", "counts"] ["some"] (ao fu) := ⟨rfl, rfl, rfl, by decide +kernel, rfl, by decide +kernel, by decide +kernel⟩
theorem wQ {f  : Addr} {fd  : FuncData} (F : Fun K "hands_among" "hands_among" fu f fd) (j4 : mg "list" = none) (Ma : mg "set" = none) (iu : mg "sorted" = none) : FnOk P w K mg base CX0 1 f fd ["some"] (ji K) := by
 refine F.ok sc_hands_among (fun vs H Q E h => ?_) (fun cdv A outer s H vs Q E hr h => ?_)
 ·obtain ⟨a, xs, ms, rfl, _⟩ := h
  rfl
 obtain ⟨a, xs, ms, rfl, h⟩ := h
 have hu64 := hr.units
 have hu0 := hr.units0
 have hu := bH hr
 refine ⟨_, (aq (aO (i := 1) sc_hands_among.nd rfl (Or.inl rfl) (j7 ak))
   (aq (iD PassesOwn.never rfl (bx (K := K) rfl (pv 0)) (aZ (i := 2) sc_hands_among.nd rfl (Or.inl rfl))
   (aD (pA (wY PySem.F.plainAttrs_list PySem.F.slot_list_extend PySem.F.type_list_extend Iw (pv 1) (aa (bR (GF rfl) (by rfl) j4 PyProof.Rows.boot_list (aa (pv 2) ak)) ak)))))
   (aD (aW (bF (tR rfl) (by rfl) iu PyProof.Rows.boot_sorted (aa (bR (zA rfl) (by rfl) Ma (show bootBuiltins "set" = some (.type "set") by decide +kernel) (aa (pv 1) ak)) ak)))))), ?_⟩
 obtain ⟨hS, dc, ck, l10, k⟩ := h
 refine ⟨Nat.zero_le _, fun hl hhl => ?_⟩
 have lx : xs.length = ms.length := Paired.length dc
 refine ⟨_, rfl, a, rfl, ⟨_, (aH hhl).seq hS⟩, jZ (K := K) (a := a) (xs := xs) (fun i σ H' => ∃ v ns, σ = [some (.ref a), some (.ref hl), v] /\ Same H H' /\ H' hl = some (.lst (ns.map V.int)) /\ ns.length <= 63 * i /\ ∀ k, k ∈ ns ↔ ∃ m ∈ ms.take i, k ∈ m.map (·.1))
  ⟨none, [], rfl, aH hhl, aB, Nat.zero_le _, fun k => by simp⟩ (fun i σ H' _ ⟨_, _, _, sm, _⟩ => sm.seq hS) ?_ ?_⟩
 ·rintro i x σ H' hx ⟨v, ns, rfl, sm, hH, hlen, hm⟩
  obtain ⟨m, hmi, d, rfl, hd⟩ := Dcs.get dc hx
  have hi := (List.getElem?_eq_some_iff.mp hmi).1
  have cm := ck m (List.mem_of_getElem? hmi)
  have lm := cm.len
  refine ⟨_, rfl, .inl ⟨rfl, _, SqL.of hH⟩, _, rfl, d, m, rfl, dH sm hd, by omega, fun l hl2 => ?_⟩
  have nl : hl ≠ l := aC hH hl2
  refine ⟨hl, l, _, _, rfl, rfl, by rw [aL nl]; exact hH, aB, ?_, some (.ref d), ns ++ m.map (·.1), rfl, fun b o e => ?_, ?_, ?_, fun k => ?_⟩
  ·rw [List.length_map, List.length_map, List.length_map]
   exact Nat.le_of_lt (aJ (by omega))
  ·rw [aL (aC e hhl), aL (aC (sm b o e) hl2)]
   exact sm b o e
  ·rw [aB, List.map_append]
  ·rw [List.length_append, List.length_map]
   omega
  ·rw [bf hmi, List.mem_append, hm k]
   constructor
   ·rintro (⟨m', q1, q2⟩ | q)
    ·exact ⟨m', List.mem_append_left _ q1, q2⟩
    ·exact ⟨m, List.mem_append_right _ (by simp), q⟩
   ·rintro ⟨m', q1, q2⟩
    rcases List.mem_append.mp q1 with z | z
    ·exact .inl ⟨m', z, q2⟩
    ·rw [List.mem_singleton.mp z] at q2
     exact .inr q2
 rintro σ H' ⟨v, ns, rfl, sm, hH, hlen, hm⟩
 rw [lx, List.take_length] at hm
 refine ⟨_, rfl, hl, ns, rfl, SqL.of hH, by omega, fun q ks hq nd mem => ?_⟩
 have rg : ∀ k ∈ ks, 0 <= k /\ k < 63 := fun k hk => by
  obtain ⟨m, h1, h2⟩ := (hm k).mp ((mem k).mp hk)
  exact (ck m h1).keys k h2
 refine ⟨q, ks, rfl, aB, nd, qJ nd rg, fun l S hl3 pm so => ?_⟩
 refine k _ l S (sm.trans ((aH hq).trans (aH hl3))) aB (pm.nodup_iff.mpr nd) fun j => ?_
 rw [pm.mem_iff, mem j, hm j]
def q8 (K : PySem.W.Frag) : Sp := fun vs H Q _ => ∃ (d e : Addr) (m n : List (Int × Int)), vs = [.ref d, .ref e] /\ Rd H d (.dK (dI m)) /\ Rd H e (.dK (dI n)) /\ Ck m /\ Ck n /\ ∀ H', Same H H' -> Q (.bl (cov m n)) H'
theorem JK : FnScope ["one", "other"] ["one", "other"] (ao nD) := ⟨rfl, rfl, rfl, by decide +kernel, rfl, by decide +kernel, by decide +kernel⟩
theorem Jo {f bY gZ : Addr} {fd bN fZ : FuncData} (F : Fun K "covers" "covers" nD f fd)
  (cP : FnOk P w K mg base CX0 1 bY bN ["counts", "hand"] (gK K)) (cR : Cal K mg "count_of" bY bN ["counts", "hand"])
  (mU : FnOk P w K mg base CX0 1 gZ fZ ["some"] (ji K)) (m8 : Cal K mg "hands_among" gZ fZ ["some"]) (VN : mg "all" = none) : FnOk P w K mg base CX0 2 f fd ["one", "other"] (q8 K) := by
 refine F.ok JK (fun vs H Q E h => ?_) (fun cdv A outer s H vs Q E hr h => ?_)
 ·obtain ⟨d, e, m, n, rfl, _⟩ := h
  rfl
 obtain ⟨d, e, m, n, rfl, h⟩ := h
 have hu64 := hr.units
 have hu0 := hr.units0
 have hu := bH hr
 refine ⟨_, (aD (aW (bF (Np rfl) (by rfl) VN PyProof.Rows.boot_all (aa (cI ["one", "other", "hand"] [some 0, some 1, none] rfl rfl (by kernel_rfl) (bx (K := K) rfl (bc mU m8 hr (aa (j7 (aa (pv 0) (aa (pv 1) ak))) ak))) (fun _ _ _ _ _ nd => aZ (i := 2) nd rfl (Or.inl rfl)) (fun _ _ _ _ _ => fM) (fun _ _ _ _ _ => (oR Hm (bc cP cR hr (aa (pv 0) (aa (pv 2) ak))) (bc cP cR hr (aa (pv 1) (aa (pv 2) ak))) (bM _)))) ak)))), ?_⟩
 obtain ⟨hd, he, cm, cn, k⟩ := h
 refine ⟨_, rfl, _, rfl, by show 2 <= sizeLine; decide, fun l0 hl0 => ?_⟩
 have s0 := aH (o := .lst [V.ref d, .ref e]) hl0
 refine ⟨l0, _, [m, n], rfl, SqL.of aB, .cons ⟨d, rfl, dH s0 hd⟩ (.cons ⟨e, rfl, dH s0 he⟩ .nil), fun x hx => ?_, by show 2 <= 10; decide, fun H1 l S sm hl nd mem => ?_⟩
 ·rcases List.mem_cons.mp hx with z | z
  ·rw [z]; exact cm
  ·rw [List.mem_singleton.mp z]; exact cn
 have s1 := s0.trans sm
 have rg : ∀ j ∈ S, 0 <= j /\ j < 63 := fun j hj => by
  rcases two.mp ((mem j).mp hj) with z | z
  ·exact cm.keys j z
  ·exact cn.keys j z
 have lS := qJ nd rg
 refine ⟨l, rfl, ⟨_, SqL.of hl⟩, fun D hD => ?_⟩
 refine bJ (K := K) (a := l) (xs := S.map V.int) (fun i σ H' => ∃ v, σ = [some (.ref d), some (.ref e), v] /\ Same H1 H' /\ H' D = some (.lst (((S.take i).map fun j => decide (ct n j <= ct m j)).map V.bl))) ⟨none, rfl, aH hD, aB⟩ ?_ ?_ ?_
 ·rintro i σ H' _ ⟨_, _, q, _⟩
  exact SqL.of (q _ _ hl)
 ·rintro i x σ H' hx ⟨v, rfl, q, hDx⟩
  obtain ⟨j, hj, rfl⟩ := iw hx
  have hil := (List.getElem?_eq_some_iff.mp hj).1
  have s2 := s1.trans q
  refine KQ ⟨_, rfl, _, rfl, d, m, j, rfl, dH s2 hd, _, rfl, _, rfl, e, n, j, rfl, dH s2 he, _, _, rfl, rfl, _, hDx, ?_, some (.int j), rfl, fun b o z => ?_, ?_⟩
  ·rw [List.length_map, List.length_map, List.length_take]
   exact aJ (by omega)
  ·rw [aL (aC z hD)]
   exact q b o z
  ·rw [aB, bf hj, List.map_append, List.map_append]
   rfl
 rintro σ H' ⟨v, rfl, q, hDx⟩
 rw [show S.take (S.map V.int).length = S by rw [List.length_map, List.take_length]] at hDx
 refine ⟨D, _, rfl, SqL.of hDx, ?_⟩
 have ev : ((S.map fun j => decide (ct n j <= ct m j)).all fun b => b) = cov m n := by
  rw [Bool.eq_iff_iff, Qa cm cn, List.all_eq_true]
  constructor
  ·intro h j
   by_cases hj : j ∈ S
   ·exact of_decide_eq_true (h _ (List.mem_map_of_mem (f := fun j => decide (ct n j <= ct m j)) hj))
   ·rw [uZ (fun z => hj ((mem j).mpr (two.mpr (.inr z))))]
    exact cm.ct j
  ·intro h b hb
   obtain ⟨j, _, rfl⟩ := List.mem_map.mp hb
   exact decide_eq_true (h j)
 rw [ev]
 exact k _ (s1.trans q)
def jW (K : PySem.W.Frag) : Sp := fun vs H Q _ => ∃ (a : Addr) (xs : List V) (ps : List (Int × Int)), vs = [.ref a] /\ (SqL K H a xs ∨ SqT K H a xs) /\ Prs H xs ps /\ ps.length <= 1000 /\ (ps.map (·.1)).Nodup /\
 ∀ (H' : Hp) (d : Addr), Same H H' -> H d = none -> H' d = some (.dK (dI (ig ps))) -> Q (.ref d) H'
theorem El : FnScope ["pairs"] ["pairs"] (ao jO) := ⟨rfl, rfl, rfl, by decide +kernel, rfl, by decide +kernel, by decide +kernel⟩
theorem Eb {f  : Addr} {fd  : FuncData} (F : Fun K "unpacked" "unpacked" jO f fd) (G9 : mg "dict" = none) : FnOk P w K mg base CX0 1 f fd ["pairs"] (jW K) := by
 refine F.ok El (fun vs H Q E h => ?_) (fun cdv A outer s H vs Q E hr h => ?_)
 ·obtain ⟨a, xs, ps, rfl, _⟩ := h
  rfl
 obtain ⟨a, xs, ps, rfl, h⟩ := h
 have hu64 := hr.units
 have hu0 := hr.units0
 have hu := bH hr
 refine ⟨_, (aD (aW (bR (En rfl) (by rfl) G9 PyProof.Rows.boot_dict (aa (cI ["hand", "count"] [none, none] rfl rfl (by kernel_rfl) (Og (K := K) rfl (pv 0)) (fun _ _ _ _ _ nd => HD (K := K) (n := 2) rfl rfl (ql (aZ (i := 0) nd rfl (Or.inl rfl)) (ql (aZ (i := 1) nd rfl (Or.inl rfl)) Hc))) (fun _ _ _ _ _ => (mH (bI zJ (pv 1) aA (bM _)))) (fun _ _ _ _ _ => (dF (aa (pv 0) (aa (pv 1) ak))))) ak)))), ?_⟩
 obtain ⟨hS, hp, hlen, nd, k⟩ := h
 have lx := hp.len
 -- one turn
 have turn : ∀ (D : Addr) (_ : H D = none) (i : Nat) (x : V) (σ : St) (H' : Hp), xs[i]? = some x -> (∃ v v2 ys, σ = [v, v2] /\ Same H H' /\ H' D = some (.lst ys) /\ ys.length <= i /\ Prs H' ys (ig (ps.take i))) ->
   mF (O3 K 2 (Ht (yl 0) (Ht (yl 1) Tp))) (JW (tOp (rI0 fun i j => .bl (decide (j < i))) (JF 1) (tC (.int 0)))) (Ux (wK (JF 0) (wK (JF 1) Ez))) D
    (fun σ H' => ∃ v v2 ys, σ = [v, v2] /\ Same H H' /\ H' D = some (.lst ys) /\ ys.length <= i + 1 /\ Prs H' ys (ig (ps.take (i + 1)))) x σ H' := by
  rintro D hD i x σ H' hx ⟨v, v2, ys, rfl, sm, hDx, ly, pr⟩
  obtain ⟨p, hpi, b, rfl, hb⟩ := hp.get hx
  have hil := (List.getElem?_eq_some_iff.mp hpi).1
  refine ⟨b, _, rfl, SqT.of (sm _ _ hb), rfl, _, _, rfl, _, _, rfl, rfl, _, rfl, _, _, rfl, rfl, _, rfl, jr (fun h => ?_) fun h => ?_⟩
  ·have h' : 0 < p.2 := of_decide_eq_true h
   refine ⟨_, rfl, _, rfl, by show 2 <= sizeLine; decide, fun q hq => ?_⟩
   have nDq : D ≠ q := aC hDx hq
   refine ⟨ys, by rw [aL nDq]; exact hDx, aJ (by omega), some (.int p.1), some (.int p.2), _, rfl, fun b o e => ?_, aB, by rw [List.length_append]; exact Nat.succ_le_succ ly, ?_⟩
   ·rw [aL (aC e hD), aL (aC (sm b o e) hq)]
    exact sm b o e
   ·rw [bf hpi, Ox h']
    refine Prs.snoc (pr.mono fun a ys e => ?_) ⟨q, rfl, ?_⟩
    ·rw [aL (nP e hDx (by intro z; cases z)), aL (aC e hq)]
     exact e
    ·rw [aL (Ne.symm nDq), aB]
  ·have h' : ¬ 0 < p.2 := fun z => h (decide_eq_true z)
   refine ⟨some (.int p.1), some (.int p.2), ys, rfl, sm, hDx, Nat.le_succ_of_le ly, ?_⟩
   rw [bf hpi, S5 h']
   exact pr
 have fin : ∀ (D : Addr) (_ : H D = none) (σ : St) (H' : Hp), (∃ v v2 ys, σ = [v, v2] /\ Same H H' /\ H' D = some (.lst ys) /\ ys.length <= xs.length /\ Prs H' ys (ig (ps.take xs.length))) ->
   ∃ (a : Addr) (ys : List V) (qs : List (Int × Int)), [V.ref D] = [.ref a] /\ H' a = some (.lst ys) /\ Prs H' ys qs /\ (qs.map (·.1)).Nodup /\ qs.length <= 1000 /\ ∀ p, H' p = none -> Q (.ref p) (upd H' p (.dK (dI qs))) := by
  rintro D hD σ H' ⟨v, v2, ys, rfl, sm, hDx, ly, pr⟩
  rw [lx, List.take_length] at pr
  refine ⟨D, ys, ig ps, rfl, hDx, pr, zT nd, Nat.le_trans (Ol ps) hlen, fun p hp' => ?_⟩
  exact k _ p (sm.trans (aH hp')) (sm.free hp') aB
 rcases hS with hS | hS
 ·refine ⟨_, rfl, a, rfl, .inl ⟨⟨_, hS⟩, fun D hD => ?_⟩⟩
  exact bJ (K := K) (a := a) (xs := xs) (fun i σ H' => ∃ v v2 ys, σ = [v, v2] /\ Same H H' /\ H' D = some (.lst ys) /\ ys.length <= i /\ Prs H' ys (ig (ps.take i))) ⟨none, none, [], rfl, aH hD, aB, Nat.le_refl _, .nil⟩
   (fun i σ H' _ ⟨_, _, _, _, sm, _⟩ => sm.seq hS) (turn D hD) (fin D hD)
 ·refine ⟨_, rfl, a, rfl, .inr ⟨⟨_, hS⟩, fun D hD => ?_⟩⟩
  exact Mp (K := K) (a := a) (xs := xs) (fun i σ H' => ∃ v v2 ys, σ = [v, v2] /\ Same H H' /\ H' D = some (.lst ys) /\ ys.length <= i /\ Prs H' ys (ig (ps.take i))) ⟨none, none, [], rfl, aH hD, aB, Nat.le_refl _, .nil⟩
   (fun i σ H' _ ⟨_, _, _, _, sm, _⟩ => Mh sm hS) (turn D hD) (fin D hD)
def qX (K : PySem.W.Frag) : Sp := fun vs H Q _ => ∃ (d e : Addr) (m n : List (Int × Int)), vs = [.ref d, .ref e] /\ Rd H d (.dK (dI m)) /\ Rd H e (.dK (dI n)) /\ Ck m /\ Ck n /\
 ∀ (H' : Hp) (p : Addr) (j : List (Int × Int)), Same H H' -> H p = none -> H' p = some (.dK (dI j)) -> Td j -> (∀ k, R6 [m, n] k (ct j k)) -> Q (.ref p) H'
theorem JC : FnScope ["one", "other"] ["one", "other"] (ao nA) := ⟨rfl, rfl, rfl, by decide +kernel, rfl, by decide +kernel, by decide +kernel⟩
theorem JV {f bY gZ fQ : Addr} {fd bN fZ eN : FuncData} (F : Fun K "joined" "joined" nA f fd)
  (cP : FnOk P w K mg base CX0 1 bY bN ["counts", "hand"] (gK K)) (cR : Cal K mg "count_of" bY bN ["counts", "hand"])
  (mU : FnOk P w K mg base CX0 1 gZ fZ ["some"] (ji K)) (m8 : Cal K mg "hands_among" gZ fZ ["some"])
  (lR : FnOk P w K mg base CX0 1 fQ eN ["pairs"] (jW K)) (lW : Cal K mg "unpacked" fQ eN ["pairs"]) (Lx : mg "max" = none) : FnOk P w K mg base CX0 2 f fd ["one", "other"] (qX K) := by
 refine F.ok JC (fun vs H Q E h => ?_) (fun cdv A outer s H vs Q E hr h => ?_)
 ·obtain ⟨d, e, m, n, rfl, _⟩ := h
  rfl
 obtain ⟨d, e, m, n, rfl, h⟩ := h
 have hu64 := hr.units
 have hu0 := hr.units0
 have hu := bH hr
 refine ⟨_, (aD (aW (bc lR lW hr (aa (cI ["one", "other", "hand"] [some 0, some 1, none] rfl rfl (by kernel_rfl) (bx (K := K) rfl (bc mU m8 hr (aa (j7 (aa (pv 0) (aa (pv 1) ak))) ak))) (fun _ _ _ _ _ nd => aZ (i := 2) nd rfl (Or.inl rfl)) (fun _ _ _ _ _ => fM) (fun _ _ _ _ _ => (dF (aa (pv 2) (aa (bF (Ji rfl) (by rfl) Lx PyProof.Rows.boot_max (aa (bc cP cR hr (aa (pv 0) (aa (pv 2) ak))) (aa (bc cP cR hr (aa (pv 1) (aa (pv 2) ak))) ak))) ak))))) ak)))), ?_⟩
 obtain ⟨hd, he, cm, cn, k⟩ := h
 refine ⟨_, rfl, _, rfl, by show 2 <= sizeLine; decide, fun l0 hl0 => ?_⟩
 have s0 := aH (o := .lst [V.ref d, .ref e]) hl0
 refine ⟨l0, _, [m, n], rfl, SqL.of aB, .cons ⟨d, rfl, dH s0 hd⟩ (.cons ⟨e, rfl, dH s0 he⟩ .nil), fun x hx => ?_, by show 2 <= 10; decide, fun H1 l S sm hl nd mem => ?_⟩
 ·rcases List.mem_cons.mp hx with z | z
  ·rw [z]; exact cm
  ·rw [List.mem_singleton.mp z]; exact cn
 have s1 := s0.trans sm
 have rg : ∀ j ∈ S, 0 <= j /\ j < 63 := fun j hj => by
  rcases two.mp ((mem j).mp hj) with z | z
  ·exact cm.keys j z
  ·exact cn.keys j z
 have lS := qJ nd rg
 refine ⟨l, rfl, ⟨_, SqL.of hl⟩, fun D hD => ?_⟩
 refine bJ (K := K) (a := l) (xs := S.map V.int) (fun i σ H' => ∃ v ys, σ = [some (.ref d), some (.ref e), v] /\ Same H1 H' /\ H' D = some (.lst ys) /\ ys.length <= i /\ Prs H' ys (prs (S.take i) fun j => if ct n j > ct m j then ct n j else ct m j)) ⟨none, [], rfl, aH hD, aB, Nat.le_refl _, .nil⟩ ?_ ?_ ?_
 ·rintro i σ H' _ ⟨_, _, _, q, _⟩
  exact SqL.of (q _ _ hl)
 ·rintro i x σ H' hx ⟨v, ys, rfl, q, hDx, ly, pr⟩
  obtain ⟨j, hj, rfl⟩ := iw hx
  have hil := (List.getElem?_eq_some_iff.mp hj).1
  have s2 := s1.trans q
  refine KQ ⟨_, rfl, _, rfl, _, rfl, d, m, j, rfl, dH s2 hd, _, rfl, _, rfl, e, n, j, rfl, dH s2 he, _, _, rfl, by show 2 <= sizeLine; decide, fun p hp => ?_⟩
  have nDp : D ≠ p := aC hDx hp
  refine ⟨ys, by rw [aL nDp]; exact hDx, aJ (by omega), some (.int j), _, rfl, fun b o z => ?_, aB, by rw [List.length_append]; exact Nat.succ_le_succ ly, ?_⟩
  ·rw [aL (aC z hD), aL (aC (q b o z) hp)]
   exact q b o z
  ·rw [bf hj]
   show Prs _ _ (List.map _ (_ ++ [j]))
   rw [List.map_append]
   refine Prs.snoc (pr.mono fun a ys z => ?_) ⟨p, rfl, ?_⟩
   ·rw [aL (nP z hDx (by intro z; cases z)), aL (aC z hp)]
    exact z
   ·rw [aL (Ne.symm nDp), aB]
 rintro σ H' ⟨v, ys, rfl, q, hDx, ly, pr⟩
 rw [show S.take (S.map V.int).length = S by rw [List.length_map, List.take_length]] at pr
 refine ⟨D, ys, _, rfl, .inl (SqL.of hDx), pr, ?_, by rw [qz]; exact nd, fun H2 p sm2 hp0 hp => ?_⟩
 ·show (List.map _ S).length <= 1000
  rw [List.length_map]
  omega
 refine k _ p _ ((s1.trans q).trans sm2) ((s1.trans q).free hp0) hp (prs_td nd rg) fun j => ?_
 have mx : R6 [m, n] j (if ct n j > ct m j then ct n j else ct m j) := by
  by_cases z : ct n j > ct m j
  ·rw [if_pos z]
   refine ⟨⟨n, by simp, rfl⟩, fun x hx => ?_⟩
   rcases List.mem_cons.mp hx with y | y
   ·rw [y]; omega
   ·rw [List.mem_singleton.mp y]; omega
  ·rw [if_neg z]
   refine ⟨⟨m, by simp, rfl⟩, fun x hx => ?_⟩
   rcases List.mem_cons.mp hx with y | y
   ·rw [y]; omega
   ·rw [List.mem_singleton.mp y]; omega
 by_cases hj : j ∈ S
 ·rw [Te nd j hj (by have := cm.ct j; have := cn.ct j; split <;> omega)]
  exact mx
 ·have z1 : ct m j = 0 := uZ fun z => hj ((mem j).mpr (two.mpr (.inl z)))
  have z2 : ct n j = 0 := uZ fun z => hj ((mem j).mpr (two.mpr (.inr z)))
  rw [Qw hj]
  rw [z1, z2] at mx
  exact mx
def jw (K : PySem.W.Frag) : Sp := fun vs H Q _ => ∃ (d a : Addr), vs = [.ref d, .ref a] /\ ∃ m n h c, Rd H d (.dK (dI m)) /\ SqT K H a [.int n, .int h, .int c] /\ Q (.bl (decide (c <= ct m h))) H
theorem w6 : FnScope ["counts", "name"] ["counts", "name"] (ao fB) := ⟨rfl, rfl, rfl, by decide +kernel, rfl, by decide +kernel, by decide +kernel⟩
theorem yh {f bY : Addr} {fd bN : FuncData} (F : Fun K "covers_name" "covers_name" fB f fd)
  (cP : FnOk P w K mg base CX0 1 bY bN ["counts", "hand"] (gK K)) (cR : Cal K mg "count_of" bY bN ["counts", "hand"]) : FnOk P w K mg base CX0 2 f fd ["counts", "name"] (jw K) := by
 refine F.ok w6 (fun vs H Q E h => ?_) (fun cdv A outer s H vs Q E hr h => ?_)
 ·obtain ⟨d, a, rfl, _⟩ := h
  rfl
 obtain ⟨d, a, rfl, h⟩ := h
 have hu64 := hr.units
 have hu0 := hr.units0
 have hu := bH hr
 refine ⟨_, (aD (aW (oR Hm (bc cP cR hr (aa (pv 0) (aa (aX (aY (K := K) rfl) (pv 1) aA (fun _ _ => rfl)) ak))) (aX (aY (K := K) rfl) (pv 1) aA (fun _ _ => rfl)) (bM _)))), ?_⟩
 obtain ⟨m, n, h, c, hd, ha, k⟩ := h
 clean_wf
 refine ⟨d, m, h, rfl, hd, ?_⟩
 clean_wf
 exact k
def Dm (K : PySem.W.Frag) (v : V) : Prop := ∃ a, v = .ref a /\ ∀ H, SqT K H a [.str "own", .str "heard", .str "one"]
def gW (K : PySem.W.Frag) : Sp := fun vs H Q _ => ∃ (p : Addr) (n c k w cs : V), vs = [.ref p, n, c, k, w, cs] /\ ∃ C dx, TCall K C /\ H p = some (.ins C dx []) /\ ∀ H', But p H H' -> H' p = some (.ins C dx (cfl n c k w cs)) -> Q .non H'
def gY (K : PySem.W.Frag) : Sp := fun vs H Q _ => ∃ (p : Addr) (n c k w cs : V), vs = [.ref p, n, c, k, w, cs] /\ ∃ C dx, TCall K C /\ H p = some (.ins C dx []) /\ ∀ H' t, (∀ b o, H b = some o -> b ≠ p -> H' b = some o) -> H' t = some (.tup []) -> H' p = some (.ins C dx (cfl n c k w (.ref t))) -> Q .non H'
theorem uT : FnScope ["self", "number", "caller", "count", "word", "causes"] ["self", "number", "caller", "count", "word", "causes"] (ao dg) := ⟨rfl, rfl, rfl, by decide +kernel, rfl, by decide +kernel, by decide +kernel⟩
theorem uH {f  : Addr} {fd  : FuncData} (F : Fun K "__init__" "Call.__init__" dg f fd) : FnOk P w K mg base CX0 1 f fd ["self", "number", "caller", "count", "word", "causes"] (gW K) := by
 refine F.ok uT (fun vs H Q E h => ?_) (fun cdv A outer s H vs Q E hr h => ?_)
 ·obtain ⟨p, n, c, k, w, cs, rfl, _⟩ := h
  rfl
 obtain ⟨p, n, c, k, w, cs, rfl, h⟩ := h
 have hu64 := hr.units
 have hu0 := hr.units0
 have hu := bH hr
 refine ⟨_, (aq (um (K := K) rfl (pv 0) (pv 1) rfl)
   (aq (um (K := K) rfl (pv 0) (pv 2) rfl)
   (aq (um (K := K) rfl (pv 0) (pv 3) rfl)
   (aq (um (K := K) rfl (pv 0) (pv 4) rfl)
   (aD (um (K := K) rfl (pv 0) (pv 5) rfl)))))), ?_⟩
 obtain ⟨C, dx, ⟨cl, n1, n2, n3, n4, n5⟩, hp, q⟩ := h
 clean_wf
 intro H1 b1 g1
 clean_wf
 intro H2 b2 g2
 clean_wf
 intro H3 b3 g3
 clean_wf
 intro H4 b4 g4
 clean_wf
 intro H5 b5 g5
 rw [Pn] at g5
 exact q _ (fun b h => (b5 b h).trans ((b4 b h).trans ((b3 b h).trans ((b2 b h).trans (b1 b h))))) g5
theorem rm : FnScope ["self", "number", "caller", "count", "word", "causes"] ["self", "number", "caller", "count", "word", "causes"] (ao cg) := ⟨rfl, rfl, rfl, by decide +kernel, rfl, by decide +kernel, by decide +kernel⟩
theorem rA {f c7 eU : Addr} {fd eG : FuncData} (F : Fun K "__init__" "OwnCall.__init__" cg f fd)
  (iz : FnOk P w K mg base CX0 1 c7 eG ["self", "number", "caller", "count", "word", "causes"] (gW K)) (iy : Binds K eG ["self", "number", "caller", "count", "word", "causes"] []) (Mt : TCall K eU) (Em : mg "Call" = some (.ref eU)) (jN : ClsFn K eU "__init__" c7) : FnOk P w K mg base CX0 2 f fd ["self", "number", "caller", "count", "word", "causes"] (gY K) := by
 refine F.ok rm (fun vs H Q E h => ?_) (fun cdv A outer s H vs Q E hr h => ?_)
 ·obtain ⟨p, n, c, k, w, cs, rfl, _⟩ := h
  rfl
 obtain ⟨p, n, c, k, w, cs, rfl, h⟩ := h
 have hu64 := hr.units
 have hu0 := hr.units0
 have hu := bH hr
 refine ⟨_, (aD (pA (Kq rfl Em jN iz iy hr (aa (pv 0) (aa (pv 1) (aa (pv 2) (aa (pv 3) (aa (pv 4) (aa (dF ak) ak))))))))), ?_⟩
 obtain ⟨C, dx, T, hp, q⟩ := h
 clean_wf
 intro t H1 ht s1 g1
 clean_wf
 refine ⟨p, n, c, k, w, _, rfl, C, dx, T, s1 _ _ hp, fun H2 b2 g2 => ?_⟩
 clean_wf
 exact q _ t (fun b o e hb => b2.at hb (s1 _ _ e)) (b2.of (s1 _ _ hp) g1 (by intro z; cases z)) g2
def rH (K : PySem.W.Frag) : Sp := fun vs H Q _ => ∃ (w : Int), vs = [.int w] /\ Q (.bl (decide ((if w < 0 then -w else w) < 10 ^ (60 : Int).toNat))) H
def KdC (mg : Str -> Option Value) (kd : Str) (C : Addr) : Prop := (kd = "own" /\ mg "OwnCall" = some (.ref C)) ∨ (kd = "heard" /\ mg "HeardCall" = some (.ref C)) ∨ (kd = "one" /\ mg "OneCall" = some (.ref C))
def oM (K : PySem.W.Frag) (mg : Str -> Option Value) : Sp := fun vs H Q _ => ∃ (n c k : Int) (kd : Str) (w : Int) (t : Addr), vs = [.int n, .int c, .int k, .str kd, .int w, .ref t] /\ ∃ xs, (kd = "own" ∨ kd = "heard" ∨ kd = "one") /\ (if w < 0 then -w else w) < 10 ^ (60 : Int).toNat /\ H t = some (.tup xs) /\
 ∀ H' p C dx t', Same H H' -> H p = none -> KdC mg kd C -> TCall K C -> H' p = some (.ins C dx (cfl (.int n) (.int c) (.int k) (.int w) (.ref t'))) -> H' t' = some (.tup (if kd = "own" then [] else xs)) -> Q (.ref p) H'
def pQ (K : PySem.W.Frag) : Sp := fun vs H Q _ => ∃ (w : Int), vs = [.int w] /\ Q (.bl true) H
theorem Dv : FnScope ["value"] ["value"] (ao jJ) := ⟨rfl, rfl, rfl, by decide +kernel, rfl, by decide +kernel, by decide +kernel⟩
theorem CW {f  : Addr} {fd  : FuncData} (F : Fun K "is_whole" "is_whole" jJ f fd) (Ff : mg "bool" = none) (Kc : mg "int" = none) (dj : mg "isinstance" = none) : FnOk P w K mg base CX0 1 f fd ["value"] (pQ K) := by
 refine F.ok Dv (fun vs H Q E h => ?_) (fun cdv A outer s H vs Q E hr h => ?_)
 ·obtain ⟨w, rfl, _⟩ := h
  rfl
 obtain ⟨w, rfl, h⟩ := h
 have hu64 := hr.units
 have hu0 := hr.units0
 have hu := bH hr
 refine ⟨_, (aD (aW (wW (bF (lK (K := K) rfl) (by rfl) dj PyProof.Rows.boot_isinstance (aa (pv 0) (aa (qO Kc PyProof.Rows.boot_int) ak))) (uM (Gn (bF (lK (K := K) rfl) (by rfl) dj PyProof.Rows.boot_isinstance (aa (pv 0) (aa (qO Ff PyProof.Rows.boot_bool) ak)))))))), ?_⟩
 clean_wf
 refine ⟨_, _, _, true, rfl, .int _, (by kernel_rfl), ?_⟩
 clean_wf
 refine ⟨_, _, _, false, rfl, .int _, (by kernel_rfl), ?_⟩
 clean_wf
 exact h
theorem Ga : FnScope ["word"] ["word"] (ao lG) := ⟨rfl, rfl, rfl, by decide +kernel, rfl, by decide +kernel, by decide +kernel⟩
theorem Gk {f yr : Addr} {fd vz : FuncData} (F : Fun K "is_word" "is_word" lG f fd)
  (GQ : FnOk P w K mg base CX0 1 yr vz ["value"] (pQ K)) (Fd : Cal K mg "is_whole" yr vz ["value"]) (Vo : mg "abs" = none) : FnOk P w K mg base CX0 2 f fd ["word"] (rH K) := by
 refine F.ok Ga (fun vs H Q E h => ?_) (fun cdv A outer s H vs Q E hr h => ?_)
 ·obtain ⟨w, rfl, _⟩ := h
  rfl
 obtain ⟨w, rfl, h⟩ := h
 have hu64 := hr.units
 have hu0 := hr.units0
 have hu := bH hr
 refine ⟨_, (aD (aW (wW (bc GQ Fd hr (aa (pv 0) ak)) (uM (oR Dg (bF NB (by rfl) Vo PyProof.Rows.boot_abs (aa (pv 0) ak)) (aV zQ aA aA) (bM _)))))), ?_⟩
 clean_wf
 refine ⟨w, rfl, ?_⟩
 clean_wf
 refine ⟨_, rfl, ?_⟩
 clean_wf
 exact h
theorem Ay : FnScope ["number", "caller", "count", "kind", "word", "causes"] ["number", "caller", "count", "kind", "word", "causes"] (ao jb) := ⟨rfl, rfl, rfl, by decide +kernel, rfl, by decide +kernel, by decide +kernel⟩
theorem Ae {f c7 lX zr aj au az : Addr} {fd eG kY xV : FuncData} {vc_KINDS : V} {uc_KINDS : Value} (F : Fun K "make_call" "make_call" jb f fd)
  (iz : FnOk P w K mg base CX0 2 c7 eG ["self", "number", "caller", "count", "word", "causes"] (gW K)) (iy : Binds K eG ["self", "number", "caller", "count", "word", "causes"] [])
  (sW : FnOk P w K mg base CX0 2 lX kY ["self", "number", "caller", "count", "word", "causes"] (gY K)) (sZ : Binds K kY ["self", "number", "caller", "count", "word", "causes"] [])
  (JS : FnOk P w K mg base CX0 3 zr xV ["word"] (rH K)) (IW : Cal K mg "is_word" zr xV ["word"]) (aF : TCall K aj) (aN : TCall K au) (aM : TCall K az) (aG : mg "HeardCall" = some (.ref aj)) (aP : mg "OneCall" = some (.ref au)) (aU : mg "OwnCall" = some (.ref az)) (M_HeardCall : Mk K aj c7) (M_OneCall : Mk K au c7) (M_OwnCall : Mk K az lX) (gm_KINDS : mg "KINDS" = some uc_KINDS) (gr_KINDS : RelV vc_KINDS uc_KINDS) (gv_KINDS : Dm K vc_KINDS) : FnOk P w K mg base CX0 4 f fd ["number", "caller", "count", "kind", "word", "causes"] (oM K mg) := by
 refine F.ok Ay (fun vs H Q E h => ?_) (fun cdv A outer s H vs Q E hr h => ?_)
 ·obtain ⟨n, c, k, kd, w, t, rfl, _⟩ := h
  rfl
 obtain ⟨n, c, k, kd, w, t, rfl, h⟩ := h
 have hu64 := hr.units
 have hu0 := hr.units0
 have hu := bH hr
 refine ⟨_, (aq (jD (bI (HW (K := K) rfl hu64) (pv 3) (Il rfl gm_KINDS gr_KINDS) (by rfl)) (aD Df) cV)
   (aq (jD (pq (fP K rfl (bc JS IW hr (aa (pv 4) ak)))) (aD Df) cV)
   (aq (jD (bI vf (pv 3) lO (bM _)) (aD (aW (zL M_OwnCall sW hr rfl aU sZ .nil wR (aa (pv 0) (aa (pv 1) (aa (pv 2) (aa (pv 4) (aa (pv 5) ak)))))))) cV)
   (aq (jD (bI vf (pv 3) lO (bM _)) (aD (aW (zL M_HeardCall iz hr rfl aG iy .nil wR (aa (pv 0) (aa (pv 1) (aa (pv 2) (aa (pv 4) (aa (pv 5) ak)))))))) cV)
   (aD (aW (zL M_OneCall iz hr rfl aP iy .nil wR (aa (pv 0) (aa (pv 1) (aa (pv 2) (aa (pv 4) (aa (pv 5) ak)))))))))))), ?_⟩
 obtain ⟨xs, hkd, hw, ht, q⟩ := h
 obtain ⟨aK, rfl, hK⟩ := gv_KINDS
 have hKH := hK H
 clean_wf
 refine Ph hkd hKH ?_
 clean_wf
 refine ⟨w, rfl, ?_⟩
 clean_wf
 rw [decide_eq_true hw]
 clean_wf
 rcases hkd with rfl | rfl | rfl
 ·rw [Vk]
  clean_wf
  intro p dx H1 hp s1 g1
  refine ⟨p, _, _, _, _, _, rfl, _, dx, aM, g1, fun H2 t' k2 g2 g3 => ⟨rfl, ?_⟩⟩
  refine q _ p _ dx t' (fun b o e => k2 _ _ (s1 _ _ e) (aC e hp)) hp (.inl ⟨rfl, aU⟩) aM g3 ?_
  rw [if_pos rfl]
  exact g2
 ·rw [Vy]
  clean_wf
  rw [Vw]
  clean_wf
  intro p dx H1 hp s1 g1
  refine ⟨p, _, _, _, _, _, rfl, _, dx, aF, g1, fun H2 b2 g2 => ⟨rfl, ?_⟩⟩
  have s2 : Same H H2 := fun b o e => b2.at (aC e hp) (s1 _ _ e)
  refine q _ p _ dx t s2 hp (.inr (.inl ⟨rfl, aG⟩)) aF g2 ?_
  rw [if_neg (by decide +kernel)]
  exact s2 _ _ ht
 ·rw [UW]
  clean_wf
  rw [Wr]
  clean_wf
  intro p dx H1 hp s1 g1
  refine ⟨p, _, _, _, _, _, rfl, _, dx, aN, g1, fun H2 b2 g2 => ⟨rfl, ?_⟩⟩
  have s2 : Same H H2 := fun b o e => b2.at (aC e hp) (s1 _ _ e)
  refine q _ p _ dx t s2 hp (.inr (.inr ⟨rfl, aP⟩)) aN g2 ?_
  rw [if_neg (by decide +kernel)]
  exact s2 _ _ ht
def eX (K : PySem.W.Frag) : Sp := fun vs H Q _ => ∃ (p d : Addr), vs = [.ref p, .ref d] /\ ∃ C dx m n c k w cs, TCall K C /\ H p = some (.ins C dx (cfl n (.int c) (.int k) w cs)) /\ Rd H d (.dK (dI m)) /\ Q (.bl (decide (ct m c = k - 1))) H
def lu (K : PySem.W.Frag) (mg : Str -> Option Value) : Sp := fun vs H Q _ => ∃ (p d : Addr), vs = [.ref p, .ref d] /\ ∃ C dx m n c k w cs, mg "OwnCall" = some (.ref C) /\ H p = some (.ins C dx (cfl n (.int c) (.int k) w cs)) /\ Rd H d (.dK (dI m)) /\ Q (.bl (decide (ct m c = k - 1))) H
def fL (K : PySem.W.Frag) (mg : Str -> Option Value) : Sp := fun vs H Q _ => ∃ (p d : Addr), vs = [.ref p, .ref d] /\ ∃ C dx m n c k w t xs ps, (mg "HeardCall" = some (.ref C) ∨ mg "OneCall" = some (.ref C)) /\ H p = some (.ins C dx (cfl n (.int c) (.int k) w (.ref t))) /\ Rd H d (.dK (dI m)) /\ H t = some (.tup xs) /\ Prs H xs ps /\ Ck m /\ Ck ps /\ ∀ H', Same H H' -> Q (.bl (decide (ct m c = k - 1) && cov m (ig ps))) H'
theorem RM {ps : List (Int × Int)} (c : Ck ps) : Ck (ig ps) := ⟨zT c.nd, fun p hp => c.nn p ((List.mem_filter.mp hp).1), fun p hp => c.rg p ((List.mem_filter.mp hp).1)⟩
theorem vW : FnScope ["self", "counts"] ["self", "counts"] (ao d9) := ⟨rfl, rfl, rfl, by decide +kernel, rfl, by decide +kernel, by decide +kernel⟩
theorem vN {f bY : Addr} {fd bN : FuncData} (F : Fun K "in_turn" "Call.in_turn" d9 f fd)
  (cP : FnOk P w K mg base CX0 1 bY bN ["counts", "hand"] (gK K)) (cR : Cal K mg "count_of" bY bN ["counts", "hand"]) : FnOk P w K mg base CX0 2 f fd ["self", "counts"] (eX K) := by
 refine F.ok vW (fun vs H Q E h => ?_) (fun cdv A outer s H vs Q E hr h => ?_)
 ·obtain ⟨p, d, rfl, _⟩ := h
  rfl
 obtain ⟨p, d, rfl, h⟩ := h
 have hu64 := hr.units
 have hu0 := hr.units0
 have hu := bH hr
 refine ⟨_, (aD (aW (oR vf (bc cP cR hr (aa (pv 1) (aa (dC (K := K) rfl (pv 0) rfl) ak))) (aV Fl (dC (K := K) rfl (pv 0) rfl) aA) (bM _)))), ?_⟩
 obtain ⟨C, dx, m, n, c, k, w, cs, ⟨cl, n1, n2, n3, n4, n5⟩, hp, hd, q⟩ := h
 clean_wf
 refine ⟨d, m, c, rfl, hd, ?_⟩
 clean_wf
 exact q
theorem Az : FnScope ["self", "counts"] ["self", "counts"] (ao iT) := ⟨rfl, rfl, rfl, by decide +kernel, rfl, by decide +kernel, by decide +kernel⟩
theorem z9 {f dR az : Addr} {fd eZ : FuncData} (F : Fun K "free" "Call.free" iT f fd)
  (je : FnOk P w K mg base CX0 2 dR eZ ["self", "counts"] (eX K)) (jt : Binds K eZ ["self", "counts"] []) (aM : TCall K az) (aU : mg "OwnCall" = some (.ref az)) (iH : Meth K az "in_turn" dR) : FnOk P w K mg base CX0 3 f fd ["self", "counts"] (lu K mg) := by
 refine F.ok Az (fun vs H Q E h => ?_) (fun cdv A outer s H vs Q E hr h => ?_)
 ·obtain ⟨p, d, rfl, _⟩ := h
  rfl
 obtain ⟨p, d, rfl, h⟩ := h
 have hu64 := hr.units
 have hu0 := hr.units0
 have hu := bH hr
 refine ⟨_, (aD (aW (uf (MOk.cons aM.cl iH je jt MOk.nil) (pv 0) hr (aa (pv 1) ak)))), ?_⟩
 obtain ⟨C, dx, m, n, c, k, w, cs, e, hp, hd, q⟩ := h
 rw [aU] at e
 cases e
 clean_wf
 exact ⟨p, d, rfl, _, dx, m, n, c, k, w, cs, aM, hp, hd, q⟩
theorem uw : FnScope ["self", "counts"] ["self", "counts"] (ao cM) := ⟨rfl, rfl, rfl, by decide +kernel, rfl, by decide +kernel, by decide +kernel⟩
theorem tO {f CJ fQ dR aj au : Addr} {fd yX eN eZ : FuncData} (F : Fun K "free" "HeardCall.free" cM f fd)
  (KN : FnOk P w K mg base CX0 2 CJ yX ["one", "other"] (q8 K)) (MP : Cal K mg "covers" CJ yX ["one", "other"])
  (lR : FnOk P w K mg base CX0 2 fQ eN ["pairs"] (jW K)) (lW : Cal K mg "unpacked" fQ eN ["pairs"])
  (je : FnOk P w K mg base CX0 2 dR eZ ["self", "counts"] (eX K)) (jt : Binds K eZ ["self", "counts"] []) (aF : TCall K aj) (aN : TCall K au) (aG : mg "HeardCall" = some (.ref aj)) (aP : mg "OneCall" = some (.ref au)) (fO : Meth K aj "in_turn" dR) (iM : Meth K au "in_turn" dR) : FnOk P w K mg base CX0 3 f fd ["self", "counts"] (fL K mg) := by
 refine F.ok uw (fun vs H Q E h => ?_) (fun cdv A outer s H vs Q E hr h => ?_)
 ·obtain ⟨p, d, rfl, _⟩ := h
  rfl
 obtain ⟨p, d, rfl, h⟩ := h
 have hu64 := hr.units
 have hu0 := hr.units0
 have hu := bH hr
 refine ⟨_, (aD (aW (wW (uf (MOk.cons aF.cl fO je jt (MOk.cons aN.cl iM je jt MOk.nil)) (pv 0) hr (aa (pv 1) ak)) (uM (bc KN MP hr (aa (pv 1) (aa (bc lR lW hr (aa (dC (K := K) rfl (pv 0) rfl) ak)) ak))))))), ?_⟩
 obtain ⟨C, dx, m, n, c, k, w, t, xs, ps, e, hp, hd, ht, hx, cm, cp, q⟩ := h
 have T : TCall K C := by
  rcases e with e | e
  ·rw [aG] at e; cases e; exact aF
  ·rw [aP] at e; cases e; exact aN
 have go : ∀ {Q' : VK}, (Q' (.bl (decide (ct m c = k - 1))) H) -> eX K [.ref p, .ref d] H Q' E0 := fun z => ⟨p, d, rfl, _, dx, m, n, c, k, w, _, T, hp, hd, z⟩
 obtain ⟨cl, n1, n2, n3, n4, n5⟩ := id T
 have tail : ∀ {Q' : VK}, (∀ H', Same H H' -> Q' (.bl (cov m (ig ps))) H') -> ∀ e H1, Same H H1 -> H1 e = some (.dK (dI (ig ps))) -> q8 K [.ref d, .ref e] H1 Q' E0 := fun z e H1 s1 g1 => ⟨d, e, m, ig ps, rfl, dH s1 hd, .inl g1, cm, RM cp, fun H2 s2 => z _ (s1.trans s2)⟩
 rcases e with e | e
 ·rw [aG] at e
  cases e
  clean_wf
  refine go ?_
  clean_wf
  refine jr (fun h1 => ?_) fun h1 => ?_
  ·clean_wf
   refine ⟨t, xs, ps, rfl, .inr (SqT.of ht), hx, by have := cp.len; omega, cp.nd, fun H1 e1 s1 he1 g1 => ?_⟩
   clean_wf
   refine tail (fun H2 s2 => ?_) _ _ s1 g1
   have := q _ s2
   rw [h1, Bool.true_and] at this
   exact this
  ·have h1 := Bool.eq_false_iff.mpr h1
   have := q _ (Same.refl H)
   rw [h1, Bool.false_and] at this
   exact this
 ·rw [aP] at e
  cases e
  clean_wf
  refine go ?_
  clean_wf
  refine jr (fun h1 => ?_) fun h1 => ?_
  ·clean_wf
   refine ⟨t, xs, ps, rfl, .inr (SqT.of ht), hx, by have := cp.len; omega, cp.nd, fun H1 e1 s1 he1 g1 => ?_⟩
   clean_wf
   refine tail (fun H2 s2 => ?_) _ _ s1 g1
   have := q _ s2
   rw [h1, Bool.true_and] at this
   exact this
  ·have h1 := Bool.eq_false_iff.mpr h1
   have := q _ (Same.refl H)
   rw [h1, Bool.false_and] at this
   exact this
abbrev cvd (m : List (Int × Int)) (p : Nm) : Prop := p.2.2 <= ct m p.2.1
def jU (K : PySem.W.Frag) : Sp := fun vs H Q _ => ∃ (a d : Addr) (i : Nat), vs = [.ref a, .ref d, .int i] /\ ∃ xs m ns, (SqL K H a xs ∨ SqT K H a xs) /\ Rd H d (.dK (dI m)) /\ Nms H xs ns /\ i <= ns.length /\ (∀ k (hk : k < ns.length), k < i -> cvd m ns[k]) /\
 ∀ j : Nat, j <= ns.length -> (∀ k (hk : k < ns.length), k < j -> cvd m ns[k]) -> (∀ hj : j < ns.length, ¬ cvd m ns[j]) -> Q (.int j) H
theorem sc_first_open : FnScope ["places", "counts", "start", "at"] ["places", "counts", "start"] (ao gR) := ⟨rfl, rfl, rfl, by decide +kernel, rfl, by decide +kernel, by decide +kernel⟩
theorem yN {f ie : Addr} {fd gH : FuncData} (F : Fun K "first_open" "first_open" gR f fd)
  (mW : FnOk P w K mg base CX0 2 ie gH ["counts", "name"] (jw K)) (mZ : Cal K mg "covers_name" ie gH ["counts", "name"]) (jC : mg "len" = none) : FnOk P w K mg base CX0 3 f fd ["places", "counts", "start"] (jU K) := by
 refine F.ok sc_first_open (fun vs H Q E h => ?_) (fun cdv A outer s H vs Q E hr h => ?_)
 ·obtain ⟨a, d, i, rfl, _⟩ := h
  rfl
 obtain ⟨a, d, i, rfl, h⟩ := h
 have hu64 := hr.units
 have hu0 := hr.units0
 have hu := bH hr
 refine ⟨_, (aq (aO (i := 3) sc_first_open.nd rfl (Or.inl rfl) (pv 2))
   (aq (wV PassesOwn.never (PW.pt (xP (bI Dg (pv 3) (bF (fG (K := K) rfl) (by rfl) jC PySem.boot_len (aa (pv 0) ak)) (bM _)) (tX (fP K rfl (bc mW mZ hr (aa (pv 1) (aa (aX (HX (K := K) rfl) (pv 0) (pv 3) (fun _ _ => rfl)) ak)))))))
   (aD (aO (i := 3) sc_first_open.nd rfl (Or.inl rfl) (aV fJ (pv 3) aA))))
   (aD (aW (pv 3))))), ?_⟩
 obtain ⟨xs, m, ns, hS, hd, hn, hi, hc0, k⟩ := h
 clean_wf
 have hl := hn.len
 refine ⟨fun M σ H' => ∃ j : Nat, M = ns.length - j /\ j <= ns.length /\ σ = [some (.ref a), some (.ref d), some (.int i), some (.int j)] /\ H' = H /\ (∀ k (hk : k < ns.length), k < j -> cvd m ns[k]), ⟨_, i, rfl, hi, rfl, rfl, hc0⟩, ?_⟩
 rintro M σ H' ⟨j, rfl, hj, rfl, rfl, hc⟩
 clean_wf
 refine jr (fun h1 => ?_) fun h1 => ?_
 ·have h1 : (j : Int) < (xs.length : Nat) := of_decide_eq_true h1
  have hj2 : j < ns.length := by omega
  obtain ⟨x, hx, b, rfl, hb⟩ := hn.at hj2
  have hat : atI xs (j : Int) = some (.ref b) := jh hx
  clean_wf
  refine ⟨d, b, rfl, m, _, _, _, hd, SqT.of hb, ?_⟩
  clean_wf
  refine jr (fun h2 => ?_) fun h2 => ?_
  ·have h2 : cvd m ns[j] := of_decide_eq_true h2
   refine ⟨_, fun _ _ z => z, ?_⟩
   clean_wf
   refine ⟨ns.length - (j + 1), by omega, j + 1, rfl, hj2, rfl, rfl, fun k hk h => ?_⟩
   rcases Nat.lt_or_ge k j with z | z
   ·exact hc k hk z
   ·obtain rfl : k = j := by omega
    exact h2
  ·have h2 : ¬ cvd m ns[j] := fun z => h2 (decide_eq_true z)
   clean_wf
   exact k j hj hc fun _ => h2
 ·have h1 : ¬ (j : Int) < (xs.length : Nat) := fun z => h1 (decide_eq_true z)
  clean_wf
  exact k j hj hc fun z => absurd z (by omega)
def oV (K : PySem.W.Frag) : Sp := fun vs H Q _ => ∃ (a : Addr) (i : Int), vs = [.ref a, .int i] /\ ∃ xs, (SqL K H a xs ∨ SqT K H a xs) /\ 0 <= i /\ (∀ v, xs[i.toNat]? = some v -> Q v H) /\ (xs.length <= i.toNat -> Q .non H)
theorem FW : FnScope ["places", "at"] ["places", "at"] (ao lH) := ⟨rfl, rfl, rfl, by decide +kernel, rfl, by decide +kernel, by decide +kernel⟩
theorem Fv {f  : Addr} {fd  : FuncData} (F : Fun K "name_at" "name_at" lH f fd) (jC : mg "len" = none) : FnOk P w K mg base CX0 1 f fd ["places", "at"] (oV K) := by
 refine F.ok FW (fun vs H Q E h => ?_) (fun cdv A outer s H vs Q E hr h => ?_)
 ·obtain ⟨a, i, rfl, _⟩ := h
  rfl
 obtain ⟨a, i, rfl, h⟩ := h
 have hu64 := hr.units
 have hu0 := hr.units0
 have hu := bH hr
 refine ⟨_, (aD (aW (BK (bI Dg (pv 1) (bF (fG (K := K) rfl) (by rfl) jC PySem.boot_len (aa (pv 0) ak)) (bM _)) (aX (HX (K := K) rfl) (pv 0) (pv 1) (fun _ _ => rfl)) uB))), ?_⟩
 obtain ⟨xs, hS, hi, k1, k2⟩ := h
 clean_wf
 refine jr (fun h1 => ?_) fun h1 => ?_
 ·have h1 : i < (xs.length : Nat) := of_decide_eq_true h1
  have hx : i.toNat < xs.length := by omega
  have hat : atI xs i = some xs[i.toNat] := wu hi (List.getElem?_eq_getElem hx)
  clean_wf
  exact k1 _ (List.getElem?_eq_getElem hx)
 ·have h1 : ¬ i < (xs.length : Nat) := fun z => h1 (decide_eq_true z)
  clean_wf
  exact k2 (by omega)
structure Cll where
 kd : Str
 n : Int
 c : Int
 k : Int
 w : Int
 cs : List (Int × Int)
def CllA (K : PySem.W.Frag) (mg : Str -> Option Value) (H : Hp) (v : V) (x : Cll) : Prop := ∃ p C dx t xs, v = .ref p /\ KdC mg x.kd C /\ TCall K C /\ H p = some (.ins C dx (cfl (.int x.n) (.int x.c) (.int x.k) (.int x.w) (.ref t))) /\ H t = some (.tup xs) /\ Prs H xs x.cs /\ Ck x.cs
def KpC (H H' : Hp) : Prop := (∀ p C dx fs, H p = some (.ins C dx fs) -> H' p = some (.ins C dx fs)) /\ SmH H H'
theorem KpC.same {H H' : Hp} (s : Same H H') : KpC H H' := ⟨fun _ _ _ _ e => s _ _ e, .same s⟩
theorem KpC.trans {A B C : Hp} (x : KpC A B) (y : KpC B C) : KpC A C := ⟨fun _ _ _ _ e => y.1 _ _ _ _ (x.1 _ _ _ _ e), x.2.trans y.2⟩
theorem CllA.up {H H' : Hp} (s : KpC H H') {v : V} {x : Cll} (h : CllA K mg H v x) : CllA K mg H' v x := by
 obtain ⟨p, C, dx, t, xs, e1, e2, e3, e4, e5, e6, e7⟩ := h
 exact ⟨p, C, dx, t, xs, e1, e2, e3, s.1 _ _ _ _ e4, s.2 _ _ e5, e6.mono s.2, e7⟩
def ju (K : PySem.W.Frag) : Sp := fun vs H Q _ => ∃ (p : Addr), vs = [.ref p] /\ ∃ C dx n c k w cs, TCall K C /\ H p = some (.ins C dx (cfl n c k w cs)) /\ ∀ H' t, Same H H' -> H t = none -> H' t = some (.tup [n, c, k]) -> Q (.ref t) H'
theorem zU : FnScope ["self"] ["self"] (ao iW) := ⟨rfl, rfl, rfl, by decide +kernel, rfl, by decide +kernel, by decide +kernel⟩
theorem Aj {f  : Addr} {fd  : FuncData} (F : Fun K "name" "Call.name" iW f fd) : FnOk P w K mg base CX0 1 f fd ["self"] (ju K) := by
 refine F.ok zU (fun vs H Q E h => ?_) (fun cdv A outer s H vs Q E hr h => ?_)
 ·obtain ⟨p, rfl, _⟩ := h
  rfl
 obtain ⟨p, rfl, h⟩ := h
 have hu64 := hr.units
 have hu0 := hr.units0
 have hu := bH hr
 refine ⟨_, (aD (aW (dF (aa (dC (K := K) rfl (pv 0) rfl) (aa (dC (K := K) rfl (pv 0) rfl) (aa (dC (K := K) rfl (pv 0) rfl) ak)))))), ?_⟩
 obtain ⟨C, dx, n, c, k, w, cs, ⟨cl, n1, n2, n3, n4, n5⟩, hp, q⟩ := h
 clean_wf
 intro t H1 ht s1 g1
 exact q H1 t s1 ht g1
def oU (K : PySem.W.Frag) : Sp := fun vs H Q _ => ∃ (p : Addr), vs = [.ref p] /\ ∃ C dx n c k w cs, TCall K C /\ H p = some (.ins C dx (cfl n c k w cs)) /\ ∀ H' t, Same H H' -> H t = none -> H' t = some (.tup [c, k]) -> Q (.ref t) H'
theorem Bt : FnScope ["self"] ["self"] (ao iQ) := ⟨rfl, rfl, rfl, by decide +kernel, rfl, by decide +kernel, by decide +kernel⟩
theorem zR {f  : Addr} {fd  : FuncData} (F : Fun K "rank" "Call.rank" iQ f fd) : FnOk P w K mg base CX0 1 f fd ["self"] (oU K) := by
 refine F.ok Bt (fun vs H Q E h => ?_) (fun cdv A outer s H vs Q E hr h => ?_)
 ·obtain ⟨p, rfl, _⟩ := h
  rfl
 obtain ⟨p, rfl, h⟩ := h
 have hu64 := hr.units
 have hu0 := hr.units0
 have hu := bH hr
 refine ⟨_, (aD (aW (dF (aa (dC (K := K) rfl (pv 0) rfl) (aa (dC (K := K) rfl (pv 0) rfl) ak))))), ?_⟩
 obtain ⟨C, dx, n, c, k, w, cs, ⟨cl, n1, n2, n3, n4, n5⟩, hp, q⟩ := h
 clean_wf
 intro t H1 ht s1 g1
 exact q H1 t s1 ht g1
def eQ (K : PySem.W.Frag) : Sp := fun vs H Q _ => ∃ (p : Addr), vs = [.ref p] /\ Q (.bl false) H
def cU (K : PySem.W.Frag) : Sp := fun vs H Q _ => ∃ (p : Addr), vs = [.ref p] /\ Q (.bl true) H
theorem sJ : FnScope ["self"] ["self"] (ao cF) := ⟨rfl, rfl, rfl, by decide +kernel, rfl, by decide +kernel, by decide +kernel⟩
theorem rK {f  : Addr} {fd  : FuncData} (F : Fun K "asks_place" "Call.asks_place" cF f fd) : FnOk P w K mg base CX0 1 f fd ["self"] (eQ K) := by
 refine F.ok sJ (fun vs H Q E h => ?_) (fun cdv A outer s H vs Q E hr h => ?_)
 ·obtain ⟨p, rfl, _⟩ := h
  rfl
 obtain ⟨p, rfl, h⟩ := h
 have hu64 := hr.units
 have hu0 := hr.units0
 have hu := bH hr
 refine ⟨_, (aD (aW DX)), ?_⟩
 clean_wf
 exact h
theorem pO : FnScope ["self"] ["self"] (ao bV) := ⟨rfl, rfl, rfl, by decide +kernel, rfl, by decide +kernel, by decide +kernel⟩
theorem pP {f  : Addr} {fd  : FuncData} (F : Fun K "asks_place" "OneCall.asks_place" bV f fd) : FnOk P w K mg base CX0 1 f fd ["self"] (cU K) := by
 refine F.ok pO (fun vs H Q E h => ?_) (fun cdv A outer s H vs Q E hr h => ?_)
 ·obtain ⟨p, rfl, _⟩ := h
  rfl
 obtain ⟨p, rfl, h⟩ := h
 have hu64 := hr.units
 have hu0 := hr.units0
 have hu := bH hr
 refine ⟨_, (aD (aW DX)), ?_⟩
 clean_wf
 exact h
def frb (m : List (Int × Int)) (x : Cll) : Bool := decide (ct m x.c = x.k - 1) && (decide (x.kd = "own") || cov m (ig x.cs))
def tkb (m : List (Int × Int)) (x : Cll) (o : Option Nm) : Bool := frb m x && (!decide (x.kd = "one") || decide (o = some (x.n, x.c, x.k)))
def NaV (H : Hp) (v : V) : Option Nm -> Prop
 | none => v = .non
 | some q => NmAt H v q
theorem NaV.up {H H' : Hp} (s : SmH H H') {v : V} {o : Option Nm} (h : NaV H v o) : NaV H' v o := by
 cases o with
 | none => exact h
 | some q => obtain ⟨a, e1, e2⟩ := h; exact ⟨a, e1, s _ _ e2⟩
def naD : Option Nm -> PyData
 | none => .none
 | some q => nmD q
theorem VP {K : PySem.W.Frag} {H : Hp} {v : V} {o : Option Nm} (h : NaV H v o) : Dl K H v (naD o) := by
 cases o with
 | none => obtain rfl : v = .non := h; exact .inl .none
 | some q => exact .inl (NmAt.dp h)
theorem Rr (o : Option Nm) : (naD o).canLay0 = true := by
 cases o with
 | none => rfl
 | some q => exact Gm q
theorem Ru (o : Option Nm) : (naD o).depth <= 60 := by
 cases o with
 | none => show 0 <= 60; decide
 | some q => show 1 <= 60; decide
theorem Ws (q r : Nm) : (nmD q).eqv (nmD r) = decide (r = q) := by
 have e : (nmD q).eqv (nmD r) = (decide (q.1 = r.1) && (decide (q.2.1 = r.2.1) && (decide (q.2.2 = r.2.2) && true))) := by rfl
 rw [e]
 obtain ⟨a, b, c⟩ := q
 obtain ⟨x, y, z⟩ := r
 by_cases h : (x, y, z) = (a, b, c)
 ·cases h
  simp
 ·rw [decide_eq_false h]
  simp at h ⊢
  intro h1 h2 h3
  exact h h1.symm h2.symm h3.symm
theorem VD (q : Nm) (o : Option Nm) : (nmD q).eqv (naD o) = decide (o = some q) := by
 cases o with
 | none => rfl
 | some r =>
  show (nmD q).eqv (nmD r) = _
  rw [Ws]
  by_cases z : r = q
  ·rw [z, decide_eq_true rfl, decide_eq_true rfl]
  ·rw [decide_eq_false z, decide_eq_false (fun w => z (Option.some.inj w))]
def oF (K : PySem.W.Frag) (mg : Str -> Option Value) : Sp := fun vs H Q _ => ∃ (v : V), vs = [v] /\ ∃ x, CllA K mg H v x /\ ∀ H' t, Same H H' -> H t = none -> H' t = some (.tup [.int x.c, .int x.k]) -> Q (.ref t) H'
theorem FN : FnScope ["call"] ["call"] (ao lJ) := ⟨rfl, rfl, rfl, by decide +kernel, rfl, by decide +kernel, by decide +kernel⟩
theorem GR {f mG aj au az : Addr} {fd ue : FuncData} (F : Fun K "rank_of" "rank_of" lJ f fd)
  (qI : FnOk P w K mg base CX0 1 mG ue ["self"] (oU K)) (qu : Binds K ue ["self"] []) (aF : TCall K aj) (aN : TCall K au) (aM : TCall K az) (aG : mg "HeardCall" = some (.ref aj)) (aP : mg "OneCall" = some (.ref au)) (aU : mg "OwnCall" = some (.ref az)) (jo : Meth K aj "rank" mG) (kJ : Meth K au "rank" mG) (kI : Meth K az "rank" mG) : FnOk P w K mg base CX0 2 f fd ["call"] (oF K mg) := by
 refine F.ok FN (fun vs H Q E h => ?_) (fun cdv A outer s H vs Q E hr h => ?_)
 ·obtain ⟨v, rfl, _⟩ := h
  rfl
 obtain ⟨v, rfl, h⟩ := h
 have hu64 := hr.units
 have hu0 := hr.units0
 have hu := bH hr
 refine ⟨_, (aD (aW (d7 (MOk.cons aM.cl kI qI qu (MOk.cons aF.cl jo qI qu (MOk.cons aN.cl kJ qI qu MOk.nil))) (pv 0) hr))), ?_⟩
 obtain ⟨x, ⟨p, C, dx, t, xs, rfl, hk, hT, hp, ht, hx, hc⟩, kk⟩ := h
 rcases hk with ⟨_, e⟩ | ⟨_, e⟩ | ⟨_, e⟩
 ·rw [aU] at e
  cases e
  clean_wf
  exact ⟨p, rfl, _, dx, _, _, _, _, _, hT, hp, kk⟩
 ·rw [aG] at e
  cases e
  clean_wf
  exact ⟨p, rfl, _, dx, _, _, _, _, _, hT, hp, kk⟩
 ·rw [aP] at e
  cases e
  clean_wf
  exact ⟨p, rfl, _, dx, _, _, _, _, _, hT, hp, kk⟩
theorem Wc : decide (("own" : Str) = "own") = true := by decide +kernel
theorem Uy : decide (("heard" : Str) = "own") = false := by decide +kernel
theorem Nk : decide (("one" : Str) = "own") = false := by decide +kernel
theorem QT : decide (("own" : Str) = "one") = false := by decide +kernel
theorem QK : decide (("heard" : Str) = "one") = false := by decide +kernel
theorem Ra : decide (("one" : Str) = "one") = true := by decide +kernel
def kO (K : PySem.W.Frag) (mg : Str -> Option Value) : Sp := fun vs H Q _ => ∃ (v : V) (d : Addr) (y : V), vs = [v, .ref d, y] /\ ∃ x m o, CllA K mg H v x /\ Rd H d (.dK (dI m)) /\ Ck m /\ NaV H y o /\ ∀ H', Same H H' -> Q (.bl (tkb m x o)) H'
theorem vY : FnScope ["call", "counts", "name"] ["call", "counts", "name"] (ao dY) := ⟨rfl, rfl, rfl, by decide +kernel, rfl, by decide +kernel, by decide +kernel⟩
theorem vK {f jV b7 bO bW cC aj au az : Addr} {fd jg du dD cQ bZ : FuncData} (F : Fun K "can_be_taken" "can_be_taken" dY f fd)
  (qb : FnOk P w K mg base CX0 3 jV jg ["self", "counts"] (lu K mg)) (qp : Binds K jg ["self", "counts"] [])
  (dO : FnOk P w K mg base CX0 3 b7 du ["self", "counts"] (fL K mg)) (dZ : Binds K du ["self", "counts"] [])
  (bB : FnOk P w K mg base CX0 3 bO dD ["self"] (ju K)) (bA : Binds K dD ["self"] [])
  (dz : FnOk P w K mg base CX0 3 bW cQ ["self"] (eQ K)) (dw : Binds K cQ ["self"] [])
  (f9 : FnOk P w K mg base CX0 3 cC bZ ["self"] (cU K)) (fW : Binds K bZ ["self"] []) (aF : TCall K aj) (aN : TCall K au) (aM : TCall K az) (aG : mg "HeardCall" = some (.ref aj)) (aP : mg "OneCall" = some (.ref au)) (aU : mg "OwnCall" = some (.ref az)) (bK : Meth K aj "asks_place" bW) (cG : Meth K aj "free" b7) (bj : Meth K aj "name" bO) (bT : Meth K au "asks_place" cC) (cX : Meth K au "free" b7) (bD : Meth K au "name" bO) (bQ : Meth K az "asks_place" bW) (dh : Meth K az "free" jV) (bG : Meth K az "name" bO) : FnOk P w K mg base CX0 4 f fd ["call", "counts", "name"] (kO K mg) := by
 refine F.ok vY (fun vs H Q E h => ?_) (fun cdv A outer s H vs Q E hr h => ?_)
 ·obtain ⟨v, d, y, rfl, _⟩ := h
  rfl
 obtain ⟨v, d, y, rfl, h⟩ := h
 have hu64 := hr.units
 have hu0 := hr.units0
 have hu := bH hr
 refine ⟨_, (aD (aW (wW (uf (MOk.cons aM.cl dh qb qp (MOk.cons aF.cl cG dO dZ (MOk.cons aN.cl cX dO dZ MOk.nil))) (pv 0) hr (aa (pv 1) ak)) (uM (Wb (Gn (d7 (MOk.cons aM.cl bQ dz dw (MOk.cons aF.cl bK dz dw (MOk.cons aN.cl bT f9 fW MOk.nil))) (pv 0) hr)) (uM (oR (Eo (K := K) rfl hu64) (d7 (MOk.cons aM.cl bG bB bA (MOk.cons aF.cl bj bB bA (MOk.cons aN.cl bD bB bA MOk.nil))) (pv 0) hr) (pv 2) (bM _)))))))), ?_⟩
 obtain ⟨x, m, o, ⟨p, C, dx, t, xs, rfl, hk, hT, hp, ht, hx, hc⟩, hd, cm, hy, kk⟩ := h
 obtain ⟨kd, n, c, k, w, cs⟩ := x
 have hk : KdC mg kd C := hk
 have hp : H p = some (.ins C dx (cfl (.int n) (.int c) (.int k) (.int w) (.ref t))) := hp
 have hx : Prs H xs cs := hx
 have hc : Ck cs := hc
 rcases hk with ⟨rfl, e⟩ | ⟨rfl, e⟩ | ⟨rfl, e⟩
 ·have ev : tkb m ⟨"own", n, c, k, w, cs⟩ o = decide (ct m c = k - 1) := by
   unfold tkb frb
   rw [Wc, QT]
   simp
  rw [ev] at kk
  rw [aU] at e
  cases e
  clean_wf
  refine ⟨p, d, rfl, _, dx, m, _, c, k, _, _, aU, hp, hd, ?_⟩
  clean_wf
  refine jr (fun h1 => ?_) fun h1 => ?_
  ·clean_wf
   refine ⟨p, rfl, ?_⟩
   clean_wf
   have := kk H (.refl _)
   rw [h1] at this
   exact this
  ·have h1 := Bool.eq_false_iff.mpr h1
   have := kk H (.refl _)
   rw [h1] at this
   exact this
 ·have ev : tkb m ⟨"heard", n, c, k, w, cs⟩ o = (decide (ct m c = k - 1) && cov m (ig cs)) := by
   unfold tkb frb
   rw [Uy, QK]
   simp
  rw [ev] at kk
  rw [aG] at e
  cases e
  clean_wf
  refine ⟨p, d, rfl, _, dx, m, _, c, k, _, t, xs, cs, .inl aG, hp, hd, ht, hx, cm, hc, fun H1 s1 => ?_⟩
  have hp1 := s1 _ _ hp
  clean_wf
  refine jr (fun h1 => ?_) fun h1 => ?_
  ·clean_wf
   refine ⟨p, rfl, ?_⟩
   clean_wf
   have := kk H1 s1
   rw [h1] at this
   exact this
  ·have h1 := Bool.eq_false_iff.mpr h1
   have := kk H1 s1
   rw [h1] at this
   exact this
 ·have ev : tkb m ⟨"one", n, c, k, w, cs⟩ o = ((decide (ct m c = k - 1) && cov m (ig cs)) && decide (o = some (n, c, k))) := by
   unfold tkb frb
   rw [Nk, Ra]
   simp
  rw [ev] at kk
  rw [aP] at e
  cases e
  clean_wf
  refine ⟨p, d, rfl, _, dx, m, _, c, k, _, t, xs, cs, .inr aP, hp, hd, ht, hx, cm, hc, fun H1 s1 => ?_⟩
  have hp1 := s1 _ _ hp
  clean_wf
  refine jr (fun h1 => ?_) fun h1 => ?_
  ·clean_wf
   refine ⟨p, rfl, ?_⟩
   clean_wf
   refine ⟨p, rfl, _, dx, _, _, _, _, _, hT, hp1, fun H2 u s2 hu2 g2 => ?_⟩
   clean_wf
   refine ⟨nmD (n, c, k), naD o, .inl (NmAt.dp ⟨u, rfl, g2⟩), VP (hy.up (.same (s1.trans s2))), Gm _, Rr _, by have := Ru o; omega, ?_⟩
   rw [VD]
   have := kk H2 (s1.trans s2)
   rw [h1, Bool.true_and] at this
   exact this
  ·have h1 := Bool.eq_false_iff.mpr h1
   have := kk H1 s1
   rw [h1, Bool.false_and] at this
   exact this
theorem Qc {td ty : TE} {σ : St} {H : Hp} {Q : VK} (h : td σ H fun x H1 => ∃ a, x = .ref a /\ IsD H1 a /\ ty σ H1 fun y H2 => ∃ o, DGet H2 a y o /\ Q (o.getD .non) H2) : J2 td ty σ H Q := h
structure RkA (K : PySem.W.Frag) (mg : Str -> Option Value) (H : Hp) (D : Addr) (L : Int -> Int -> Option (V × Cll)) : Prop where
 dc : ∃ kvs, H D = some (.dT kvs) /\ ∀ a b, fX kvs [Sum.inl a, Sum.inl b] = (L a b).map (·.1)
 cl : ∀ a b v x, L a b = some (v, x) -> CllA K mg H v x /\ x.c = a /\ x.k = b
theorem RkA.same {H H' : Hp} {D : Addr} {L : Int -> Int -> Option (V × Cll)} (h : RkA K mg H D L) (s : Same H H') : RkA K mg H' D L := by
 obtain ⟨⟨kvs, e1, e2⟩, e3⟩ := h
 exact ⟨⟨kvs, s _ _ e1, e2⟩, fun a b v x e => ⟨(e3 a b v x e).1.up (.same s), (e3 a b v x e).2⟩⟩
def tk1 (L : Int -> Int -> Option (V × Cll)) (m : List (Int × Int)) (o : Option Nm) (h : Int) : Option (V × Cll) := (L h (ct m h + 1)).bind fun q => if tkb m q.2 o = true then some q else none
def fst (hs : List Int) (L : Int -> Int -> Option (V × Cll)) (m : List (Int × Int)) (o : Option Nm) : Option (V × Cll) := hs.findSome? (tk1 L m o)
def fsv : Option (V × Cll) -> V
 | none => .non
 | some q => q.1
def jM (K : PySem.W.Frag) (mg : Str -> Option Value) : Sp := fun vs H Q _ => ∃ (a D d : Addr) (y : V), vs = [.ref a, .ref D, .ref d, y] /\ ∃ hs L m o, SqL K H a (hs.map V.int) /\ RkA K mg H D L /\ Rd H d (.dK (dI m)) /\ Ck m /\ NaV H y o /\ ∀ H', Same H H' -> Q (fsv (fst hs L m o)) H'
theorem sc_first_to_take : FnScope ["callers", "ranked", "counts", "name", "caller", "call"] ["callers", "ranked", "counts", "name"] (ao cY) := ⟨rfl, rfl, rfl, by decide +kernel, rfl, by decide +kernel, by decide +kernel⟩
theorem uQ {f bY qi aj au az : Addr} {fd bN pH : FuncData} (F : Fun K "first_to_take" "first_to_take" cY f fd)
  (cP : FnOk P w K mg base CX0 4 bY bN ["counts", "hand"] (gK K)) (cR : Cal K mg "count_of" bY bN ["counts", "hand"])
  (xJ : FnOk P w K mg base CX0 4 qi pH ["call", "counts", "name"] (kO K mg)) (w5 : Cal K mg "can_be_taken" qi pH ["call", "counts", "name"]) (aF : TCall K aj) (aN : TCall K au) (aM : TCall K az) (aG : mg "HeardCall" = some (.ref aj)) (aP : mg "OneCall" = some (.ref au)) (aU : mg "OwnCall" = some (.ref az)) : FnOk P w K mg base CX0 5 f fd ["callers", "ranked", "counts", "name"] (jM K mg) := by
 refine F.ok sc_first_to_take (fun vs H Q E h => ?_) (fun cdv A outer s H vs Q E hr h => ?_)
 ·obtain ⟨a, D, d, y, rfl, _⟩ := h
  rfl
 obtain ⟨a, D, d, y, rfl, h⟩ := h
 have hu64 := hr.units
 have hu0 := hr.units0
 have hu := bH hr
 refine ⟨_, (aq (iD PassesOwn.never rfl (bx (K := K) rfl (pv 0)) (aZ (i := 4) sc_first_to_take.nd rfl (Or.inl rfl))
   (aq (aO (i := 5) sc_first_to_take.nd rfl (Or.inl rfl) (M6 hu (pv 1) (dF (aa (pv 4) (aa (aV fJ (bc cP cR hr (aa (pv 2) (aa (pv 4) ak))) aA) ak))) ⟨rfl, rfl, rfl, rfl⟩))
   (aD (jD (PW.pt (xP (bI Ag (pv 5) uB (bM _)) (tX (fP K rfl (bc xJ w5 hr (aa (pv 5) (aa (pv 2) (aa (pv 3) ak)))))))) (aD (aW (pv 5))) cV))))
   (aD (aW uB))), ?_⟩
 obtain ⟨hs, L, m, o, hS, R, hd, cm, hy, kk⟩ := h
 refine QS ?_
 clean_wf
 refine jZ (xs := hs.map V.int) (fun i σ A => ∃ v4 v5, σ = [some (.ref a), some (.ref D), some (.ref d), some y, v4, v5] /\ Same H A /\ (hs.take i).findSome? (tk1 L m o) = none) ⟨none, none, rfl, .refl _, rfl⟩ (fun i σ A _ z => by obtain ⟨_, _, _, z, _⟩ := z; exact z.seq hS) ?_ ?_
 ·rintro i x σ A hx ⟨v4, v5, rfl, sA, hn⟩
  obtain ⟨h, hh, rfl⟩ := iw hx
  have RA := R.same sA
  have hdA := dH sA hd
  obtain ⟨⟨kvs, gD, gv⟩, gc⟩ := id RA
  have ff : fst hs L m o = ((tk1 L m o h).or ((hs.drop (i + 1)).findSome? (tk1 L m o))) := by
   unfold fst
   have hi := (List.getElem?_eq_some_iff.mp hh).1
   have e : hs = hs.take i ++ (h :: hs.drop (i + 1)) := by
    conv => lhs; rw [← List.take_append_drop i hs, List.drop_eq_getElem_cons hi, (List.getElem?_eq_some_iff.mp hh).2]
   conv => lhs; rw [e, List.findSome?_append, hn, Option.none_or, List.findSome?_cons]
   cases tk1 L m o h <;> rfl
  refine QS ?_
  clean_wf
  refine Qc ?_
  clean_wf
  refine ⟨D, rfl, .inr ⟨kvs, .inl gD⟩, ?_⟩
  clean_wf
  refine ⟨d, m, h, rfl, hdA, ?_⟩
  clean_wf
  intro t A1 ht s1 g1
  have gD1 := s1 _ _ gD
  refine ⟨_, DGet.t (k := [Sum.inl h, Sum.inl (ct m h + 1)]) gD1 g1, ?_⟩
  rw [gv]
  cases z : L h (ct m h + 1) with
  | none =>
   have tn : tk1 L m o h = none := by unfold tk1; rw [z]; rfl
   rw [Option.map_none, Option.getD_none]
   clean_wf
   rw [show decide (V.non = V.non) = true from decide_eq_true rfl]
   clean_wf
   refine ⟨_, _, rfl, sA.trans s1, ?_⟩
   rw [bf hh, List.findSome?_append, hn, Option.none_or, List.findSome?_cons, tn]
   rfl
  | some q =>
   obtain ⟨v, x⟩ := q
   have cx := (gc _ _ _ _ z).1
   obtain ⟨p, C, dx, t', xs', ev, _⟩ := id cx
   have cx1 := cx.up (.same s1)
   subst ev
   rw [Option.map_some, Option.getD_some]
   clean_wf
   rw [show decide (V.ref p = V.non) = false from decide_eq_false (by intro z; cases z)]
   clean_wf
   refine ⟨.ref p, d, y, rfl, x, m, o, cx1, dH s1 hdA, cm, hy.up (.same (sA.trans s1)), fun A2 s2 => ?_⟩
   clean_wf
   refine jr (fun h2 => ?_) fun h2 => ?_
   ·have ts : tk1 L m o h = some (.ref p, x) := by unfold tk1; rw [z]; show (if tkb m x o = true then _ else _) = _; rw [if_pos h2]
    clean_wf
    have := kk A2 (sA.trans (s1.trans s2))
    rw [ff, ts] at this
    exact this
   ·have tn : tk1 L m o h = none := by unfold tk1; rw [z]; show (if tkb m x o = true then _ else _) = _; rw [if_neg h2]
    refine ⟨_, _, rfl, sA.trans (s1.trans s2), ?_⟩
    rw [bf hh, List.findSome?_append, hn, Option.none_or, List.findSome?_cons, tn]
    rfl
 rintro σ A ⟨v4, v5, rfl, sA, hn⟩
 rw [show hs.take (hs.map V.int).length = hs by rw [List.length_map, List.take_length]] at hn
 clean_wf
 have := kk A sA
 unfold fst at this
 rw [hn] at this
 exact this
def frl (hs : List Int) (l : Int) : List Int := (hs.filter fun h => decide (l <= h)) ++ hs.filter fun h => decide (h < l)
def kj (K : PySem.W.Frag) : Sp := fun vs H Q _ => ∃ (a : Addr) (l : Int), vs = [.ref a, .int l] /\ ∃ hs : List Int, SqL K H a (hs.map V.int) /\ hs.length <= 400 /\ ∀ H' q, Same H H' -> H q = none -> H' q = some (.lst ((frl hs l).map V.int)) -> Q (.ref q) H'
theorem vZ : FnScope ["callers", "last"] ["callers", "last"] (ao dM) := ⟨rfl, rfl, rfl, by decide +kernel, rfl, by decide +kernel, by decide +kernel⟩
theorem wg {f  : Addr} {fd  : FuncData} (F : Fun K "callers_from" "callers_from" dM f fd) : FnOk P w K mg base CX0 1 f fd ["callers", "last"] (kj K) := by
 refine F.ok vZ (fun vs H Q E h => ?_) (fun cdv A outer s H vs Q E hr h => ?_)
 ·obtain ⟨a, l, rfl, _⟩ := h
  rfl
 obtain ⟨a, l, rfl, h⟩ := h
 have hu64 := hr.units
 have hu0 := hr.units0
 have hu := bH hr
 refine ⟨_, (aD (aW (aV Gq (cI ["last", "caller"] [some 1, none] rfl rfl (by kernel_rfl) (bx (K := K) rfl (pv 0)) (fun _ _ _ _ _ nd => aZ (i := 1) nd rfl (Or.inl rfl)) (fun _ _ _ _ _ => (mH (bI Hm (pv 1) (pv 0) (bM _)))) (fun _ _ _ _ _ => (pv 1))) (cI ["last", "caller"] [some 1, none] rfl rfl (by kernel_rfl) (bx (K := K) rfl (pv 0)) (fun _ _ _ _ _ nd => aZ (i := 1) nd rfl (Or.inl rfl)) (fun _ _ _ _ _ => (mH (bI Dg (pv 1) (pv 0) (bM _)))) (fun _ _ _ _ _ => (pv 1)))))), ?_⟩
 obtain ⟨hs, hS, lh, kk⟩ := h
 clean_wf
 intro D hD
 refine bJ (K := K) (a := a) (xs := hs.map V.int) (fun i σ A => ∃ v, σ = [some (.int l), v] /\ Same H A /\ A D = some (.lst (((hs.take i).filter fun h => decide (l <= h)).map V.int))) ⟨none, rfl, aH hD, aB⟩ ?_ ?_ ?_
 ·rintro i σ A _ ⟨_, _, z, _⟩
  exact z.seq hS
 ·rintro i x σ A hx ⟨v, rfl, sA, gA⟩
  obtain ⟨h, hh, rfl⟩ := iw hx
  have hi := (List.getElem?_eq_some_iff.mp hh).1
  have lf := List.length_filter_le (fun h => decide (l <= h)) (hs.take i)
  have lt := List.length_take_le i hs
  clean_wf
  refine jr (fun h1 => ?_) fun h1 => ?_
  ·clean_wf
   refine ⟨_, gA, by rw [List.length_map]; exact aJ (by omega), _, rfl, fun b o z => ?_, ?_⟩
   ·rw [aL (aC z hD)]
    exact sA b o z
   ·rw [aB, bf hh, List.filter_append, List.map_append]
    congr 2
    simp at h1
    simp [h1]
  ·refine ⟨_, rfl, sA, ?_⟩
   rw [gA, bf hh, List.filter_append, List.map_append]
   congr 1
   simp at h1
   simp [h1]
 rintro σ A ⟨v, rfl, sA, gA⟩
 rw [show hs.take (hs.map V.int).length = hs by rw [List.length_map, List.take_length]] at gA
 have hS1 := sA.seq hS
 clean_wf
 intro D2 hD2
 refine bJ (K := K) (a := a) (xs := hs.map V.int) (fun i σ B => ∃ v, σ = [some (.int l), v] /\ Same A B /\ B D2 = some (.lst (((hs.take i).filter fun h => decide (h < l)).map V.int))) ⟨none, rfl, aH hD2, aB⟩ ?_ ?_ ?_
 ·rintro i σ B _ ⟨_, _, z, _⟩
  exact z.seq hS1
 ·rintro i x σ B hx ⟨v, rfl, sB, gB⟩
  obtain ⟨h, hh, rfl⟩ := iw hx
  have hi := (List.getElem?_eq_some_iff.mp hh).1
  have lf := List.length_filter_le (fun h => decide (h < l)) (hs.take i)
  have lt := List.length_take_le i hs
  clean_wf
  refine jr (fun h1 => ?_) fun h1 => ?_
  ·clean_wf
   refine ⟨_, gB, by rw [List.length_map]; exact aJ (by omega), _, rfl, fun b o z => ?_, ?_⟩
   ·rw [aL (aC z hD2)]
    exact sB b o z
   ·rw [aB, bf hh, List.filter_append, List.map_append]
    congr 2
    simp at h1
    simp [h1]
  ·refine ⟨_, rfl, sB, ?_⟩
   rw [gB, bf hh, List.filter_append, List.map_append]
   congr 1
   simp at h1
   simp [h1]
 rintro σ B ⟨v, rfl, sB, gB⟩
 rw [show hs.take (hs.map V.int).length = hs by rw [List.length_map, List.take_length]] at gB
 have l1 := List.length_filter_le (fun h => decide (l <= h)) hs
 have l2 := List.length_filter_le (fun h => decide (h < l)) hs
 refine M4 (sB _ _ gA) gB (by rw [List.length_map, List.length_map]; omega) fun q B1 hq s1 g1 => ?_
 rw [← List.map_append] at g1
 exact kk B1 q (sA.trans (sB.trans s1)) ((sA.trans sB).free hq) g1
def nxo (ns : List Nm) (m : List (Int × Int)) : Option Nm := ns.find? fun p => !decide (cvd m p)
theorem Ni {m : List (Int × Int)} : ∀ {ns : List Nm} {j : Nat}, (∀ k (hk : k < ns.length), k < j -> cvd m ns[k]) -> (∀ hj : j < ns.length, ¬ cvd m ns[j]) -> j <= ns.length -> nxo ns m = ns[j]?
 | [], j, _, _, _ => by simp [nxo]
 | p :: ns, 0, _, h, _ => by
  have := h (by simp)
  unfold nxo
  rw [List.find?_cons_of_pos (by simpa using this)]
  rfl
 | p :: ns, j + 1, h1, h2, h3 => by
  have hp := h1 0 (by simp) (by omega)
  have ih := Ni (m := m) (ns := ns) (j := j) (fun k hk hkj => h1 (k + 1) (Nat.succ_lt_succ hk) (by omega)) (fun hj => h2 (Nat.succ_lt_succ hj)) (by simpa using h3)
  unfold nxo at ih ⊢
  rw [List.find?_cons_of_neg (by simpa using hp), ih]
  simp
def frm (hs : List Int) : Option Int -> List Int
 | none => hs
 | some l => frl hs l
def LkC (cs : List (V × Cll)) (a b : Int) : Option (V × Cll) := cs.reverse.find? fun q => decide (q.2.c = a /\ q.2.k = b)
inductive Fw (hs : List Int) (L : Int -> Int -> Option (V × Cll)) (ns : List Nm) (m0 : List (Int × Int)) : List (V × Cll) -> Option Int -> List (Int × Int) -> Prop
 | start : Fw hs L ns m0 [] none m0
 | step {rw : List (V × Cll)} {last : Option Int} {m : List (Int × Int)} {v : V} {x : Cll} : Fw hs L ns m0 rw last m -> fst (frm hs last) L m (nxo ns m) = some (v, x) -> Fw hs L ns m0 (rw ++ [(v, x)]) (some x.c) (eV m x.c x.k)
theorem flt {α : Type} {p q : α -> Bool} : ∀ {l : List α}, (∀ a ∈ l, q a = true -> p a = true) -> ∀ {x : α}, x ∈ l -> p x = true -> q x = false -> (l.filter q).length < (l.filter p).length
 | a :: l, h, x, hx, px, qx => by
  have hl : (l.filter q).length <= (l.filter p).length := by
   have : ∀ (l' : List α), (∀ a ∈ l', q a = true -> p a = true) -> (l'.filter q).length <= (l'.filter p).length := by
    intro l'
    induction l' with
    | nil => intro _; exact Nat.le_refl _
    | cons b l' ih =>
     intro hb
     have i := ih fun a ha => hb a (List.mem_cons_of_mem _ ha)
     have := hb b List.mem_cons_self
     rw [List.filter_cons, List.filter_cons]
     cases z : q b
     ·cases w : p b <;> simp <;> omega
     ·rw [this z]; simp; omega
   exact this l fun b hb => h b (List.mem_cons_of_mem _ hb)
  rcases List.mem_cons.mp hx with z | z
  ·rw [← z, List.filter_cons, List.filter_cons, px, qx]
   simp
   omega
  ·have i := flt (l := l) (fun b hb => h b (List.mem_cons_of_mem _ hb)) z px qx
   have ha := h a List.mem_cons_self
   rw [List.filter_cons, List.filter_cons]
   cases y : q a
   ·cases w : p a <;> simp <;> omega
   ·rw [ha y]; simp; omega
def mz (cs : List Cll) (m : List (Int × Int)) : Nat := (cs.filter fun q => decide (ct m q.c < q.k)).length
theorem K5 {cs : List Cll} {m : List (Int × Int)} {x : Cll} (hx : x ∈ cs) (hk : x.k = ct m x.c + 1) : mz cs (eV m x.c x.k) < mz cs m := by
 unfold mz
 refine flt (fun q _ h => ?_) hx (decide_eq_true (by omega)) (decide_eq_false ?_)
 ·have h := of_decide_eq_true h
  rw [qD] at h
  refine decide_eq_true ?_
  by_cases z : q.c = x.c
  ·rw [if_pos z] at h; rw [z]; omega
  ·rw [if_neg z] at h; exact h
 ·rw [qD, if_pos rfl]
  omega
theorem tM {hs : List Int} {L : Int -> Int -> Option (V × Cll)} {m : List (Int × Int)} {o : Option Nm} {v : V} {x : Cll} (h : fst hs L m o = some (v, x)) : ∃ h ∈ hs, L h (ct m h + 1) = some (v, x) /\ tkb m x o = true := by
 unfold fst at h
 obtain ⟨h', hm, e⟩ := List.exists_of_findSome?_eq_some h
 refine ⟨h', hm, ?_⟩
 unfold tk1 at e
 cases z : L h' (ct m h' + 1) with
 | none => rw [z] at e; cases e
 | some q =>
  rw [z] at e
  have e : (if tkb m q.2 o = true then some q else none) = some (v, x) := e
  by_cases w : tkb m q.2 o = true
  ·rw [if_pos w] at e
   cases e
   exact ⟨rfl, w⟩
  ·rw [if_neg w] at e; cases e
theorem mL {cs : List (V × Cll)} {a b : Int} {q : V × Cll} (h : LkC cs a b = some q) : q ∈ cs /\ q.2.c = a /\ q.2.k = b := by
 unfold LkC at h
 have h1 := List.mem_of_find?_eq_some h
 have h2 := List.find?_some h
 have h2 := of_decide_eq_true h2
 exact ⟨List.mem_reverse.mp h1, h2⟩
theorem Jz {k : List Key} : ∀ (ps : List (List Key × V)) (acc : List (List Key × V)), fX (ps.foldl (fun acc p => putK acc p.1 p.2) acc) k = ((ps.reverse.find? fun p => decide (p.1 = k)).map (·.2)).or (fX acc k) := by
 intro ps
 induction ps with
 | nil => intro acc; rfl
 | cons p ps ih =>
  intro acc
  rw [List.foldl_cons, ih, List.reverse_cons, List.find?_append]
  cases z : ps.reverse.find? fun p => decide (p.1 = k) with
  | some q => rfl
  | none =>
   rw [Option.none_or, Nq, List.find?_cons]
   by_cases w : k = p.1
   ·rw [if_pos w, decide_eq_true w.symm]
    rfl
   ·rw [if_neg w, decide_eq_false (fun u => w u.symm)]
    rfl
abbrev CT (K : PySem.W.Frag) (mg : Str -> Option Value) (H : Hp) : List V -> List Cll -> Prop := Paired (CllA K mg H)
theorem dW {H H' : Hp} (s : KpC H H') {vs : List V} {cs : List Cll} (h : CT K mg H vs cs) : CT K mg H' vs cs := Paired.mapP h fun _ _ z => z.up s
def rkp (q : V × Cll) : List Key × V := ([Sum.inl q.2.c, Sum.inl q.2.k], q.1)
theorem Qs (cs : List (V × Cll)) (a b : Int) : fX (oE (cs.map rkp)) [Sum.inl a, Sum.inl b] = (LkC cs a b).map (·.1) := by
 unfold oE
 rw [Jz]
 have e : (fX ([] : List (List Key × V)) [Sum.inl a, Sum.inl b]) = none := rfl
 rw [e, Option.or_none, ← List.map_reverse, List.find?_map, Option.map_map]
 unfold LkC
 have e2 : ((fun p : List Key × V => decide (p.1 = [Sum.inl a, Sum.inl b])) ∘ rkp) = fun q : V × Cll => decide (q.2.c = a /\ q.2.k = b) := by
  funext q
  show decide (([Sum.inl q.2.c, Sum.inl q.2.k] : List Key) = [Sum.inl a, Sum.inl b]) = _
  congr 1
  simp
 rw [e2]
 rfl
theorem PJ {H H' : Hp} (s : SmH H H') {xs : List V} {ps : List (List Key × V)} (h : FQ H xs ps) : FQ H' xs ps := Paired.mapP h fun _ _ ⟨a, b, e1, e2, e3⟩ => ⟨a, b, e1, s _ _ e2, s _ _ e3⟩
theorem zg {H : Hp} : ∀ {xs : List V} {ps : List (List Key × V)} {x : V} {p : List Key × V}, FQ H xs ps -> (∃ a b, x = .ref a /\ H a = some (.tup [.ref b, p.2]) /\ H b = some (.tup (p.1.map kV))) -> FQ H (xs ++ [x]) (ps ++ [p])
 | _, _, _, _, .nil, h => .cons h .nil
 | _, _, _, _, .cons r t, h => .cons r (zg t h)
theorem Dy {α β : Type} : ∀ (l : List α) (m : List β) (i : Nat) {a : α} {b : β}, l[i]? = some a -> m[i]? = some b -> (l.zip m).take (i + 1) = (l.zip m).take i ++ [(a, b)] := by
 intro l m i a b h1 h2
 exact bf (by rw [List.getElem?_zip_eq_some]; exact ⟨h1, h2⟩)
theorem za {m n : List (Int × Int)} {k b : Int} (h : R6 [m, n] k b) : b = max (ct m k) (ct n k) := by
 obtain ⟨⟨q, hq, e⟩, u⟩ := h
 have u1 := u m (by simp)
 have u2 := u n (by simp)
 simp at hq
 rcases hq with z | z <;> rw [z] at e <;> omega
theorem o8 {α β : Type} {F : α -> β -> Prop} : ∀ {l : List α} {m : List β} {q : α × β}, Paired F l m -> q ∈ l.zip m -> F q.1 q.2
 | _, _, _, .nil, h => by simp at h
 | _, _, q, .cons r t, h => by
  rw [List.zip_cons_cons] at h
  rcases List.mem_cons.mp h with z | z
  ·rw [z]; exact r
  ·exact o8 t z
theorem Di {K : PySem.W.Frag} {H A : Hp} {b : Addr} {xs : List V} (s : ∀ o, H b = some o -> A b = some o) (h : SqL K H b xs ∨ SqT K H b xs) : SqL K A b xs ∨ SqT K A b xs := by
 rcases h with h | h
 ·refine .inl ?_
  rcases h with (h | ⟨z, h⟩) | h
  ·exact .inl (.inl (s _ h))
  ·exact .inl (.inr ⟨z, s _ h⟩)
  ·exact .inr h
 ·refine .inr ?_
  rcases h with (h | ⟨z, h⟩) | h
  ·exact .inl (.inl (s _ h))
  ·exact .inl (.inr ⟨z, s _ h⟩)
  ·exact .inr h
theorem Ep {m : List (Int × Int)} {k v : Int} (t : Td m) (k0 : 0 <= k) (k1 : k < 63) (hv : 0 < v) : Td (eV m k v) := by
 refine ⟨t.toCk.put k0 k1 (by omega), fun e he => ?_⟩
 rcases ur _ _ _ _ he with z | z
 ·rw [z]; exact hv
 ·exact t.ps e z
theorem Cj {K : PySem.W.Frag} {A : Hp} {Q' : VK} {b : Addr} {xs : List V} {ns : List Nm} {m : List (Int × Int)} {j : Nat} (hP : SqL K A b xs ∨ SqT K A b xs) (hn : Nms A xs ns) (h1 : j <= ns.length) (h2 : ∀ k (hk : k < ns.length), k < j -> cvd m ns[k]) (h3 : ∀ hj : j < ns.length, ¬ cvd m ns[j]) (q : ∀ y, NaV A y (nxo ns m) -> Q' y A) : oV K [.ref b, .int j] A Q' E0 := by
 have e := Ni h2 h3 h1
 refine ⟨b, j, rfl, xs, hP, by omega, fun v hv => q v ?_, fun hv => q .non ?_⟩
 ·rw [Int.toNat_natCast] at hv
  obtain ⟨p, hp, na⟩ := hn.get hv
  rw [e, hp]
  exact na
 ·rw [Int.toNat_natCast] at hv
  have := hn.len
  rw [e, List.getElem?_eq_none (by omega)]
  rfl
def Fy (K : PySem.W.Frag) (mg : Str -> Option Value) : Sp := fun vs H Q _ => ∃ (d a b : Addr), vs = [.ref d, .ref a, .ref b] /\ ∃ m ws cs xs ns, Rd H d (.dK (dI m)) /\ Ck m /\ SqL K H a ws /\ CT K mg H ws cs /\ cs.length <= 60 /\ (∀ x ∈ cs, 0 <= x.c /\ x.c < 63) /\ (SqL K H b xs ∨ SqT K H b xs) /\ Nms H xs ns /\
 ∀ H' t l r hs m0 rw last m', Same H H' -> H l = none -> H r = none -> H' t = some (.tup [.ref l, .ref r]) -> H' l = some (.lst ((rw : List (V × Cll)).map (·.1))) -> H' r = some (.dK (dI m')) -> Td m' -> hs.Pairwise (· < ·) -> (∀ h, h ∈ hs ↔ ∃ x ∈ cs, x.c = h) -> Td m0 -> (∀ k, ct m0 k = ct m k) -> Fw hs (LkC (ws.zip cs)) ns m0 rw last m' -> fst (frm hs last) (LkC (ws.zip cs)) m' (nxo ns m') = none -> Q (.ref t) H'
theorem sc_run : FnScope ["counts", "calls", "places", "reached", "ranked", "callers", "row", "at", "call"] ["counts", "calls", "places"] (ao yV) := ⟨rfl, rfl, rfl, by decide +kernel, rfl, by decide +kernel, by decide +kernel⟩
theorem T5 {f p6 jk zp nO pK pU aj au az : Addr} {fd nH ik yd mq nU pL : FuncData} (F : Fun K "run" "run" yV f fd)
  (yc : FnOk P w K mg base CX0 5 p6 nH ["one", "other"] (qX K)) (yf : Cal K mg "joined" p6 nH ["one", "other"])
  (kZ : FnOk P w K mg base CX0 5 jk ik ["places", "counts", "start"] (jU K)) (lB : Cal K mg "first_open" jk ik ["places", "counts", "start"])
  (zx : FnOk P w K mg base CX0 5 zp yd ["places", "at"] (oV K)) (zj : Cal K mg "name_at" zp yd ["places", "at"])
  (uA : FnOk P w K mg base CX0 5 nO mq ["call"] (oF K mg)) (qT : Cal K mg "rank_of" nO mq ["call"])
  (pC : FnOk P w K mg base CX0 5 pK nU ["callers", "ranked", "counts", "name"] (jM K mg)) (pF : Cal K mg "first_to_take" pK nU ["callers", "ranked", "counts", "name"])
  (xH : FnOk P w K mg base CX0 5 pU pL ["callers", "last"] (kj K)) (wH : Cal K mg "callers_from" pU pL ["callers", "last"]) (G9 : mg "dict" = none) (Ma : mg "set" = none) (iu : mg "sorted" = none) (aF : TCall K aj) (aN : TCall K au) (aM : TCall K az) (aG : mg "HeardCall" = some (.ref aj)) (aP : mg "OneCall" = some (.ref au)) (aU : mg "OwnCall" = some (.ref az)) : FnOk P w K mg base CX0 6 f fd ["counts", "calls", "places"] (Fy K mg) := by
 refine F.ok sc_run (fun vs H Q E h => ?_) (fun cdv A outer s H vs Q E hr h => ?_)
 ·obtain ⟨d, a, b, rfl, _⟩ := h
  rfl
 obtain ⟨d, a, b, rfl, h⟩ := h
 have hu64 := hr.units
 have hu0 := hr.units0
 have hu := bH hr
 refine ⟨_, (aq (aO (i := 3) sc_run.nd rfl (Or.inl rfl) (bc yc yf hr (aa (pv 0) (aa nu ak))))
   (aq (aO (i := 4) sc_run.nd rfl (Or.inl rfl) (bR (Eh rfl (Nat.lt_of_le_of_lt (Nat.add_le_add_left (by decide) _) hu64)) (by rfl) G9 PyProof.Rows.boot_dict (aa (cI ["call"] [none] rfl rfl (by kernel_rfl) (bx (K := K) rfl (pv 1)) (fun _ _ _ _ _ nd => aZ (i := 0) nd rfl (Or.inl rfl)) (fun _ _ _ _ _ => fM) (fun _ _ _ _ _ => (dF (aa (bc uA qT hr (aa (pv 0) ak)) (aa (pv 0) ak))))) ak)))
   (aq (aO (i := 5) sc_run.nd rfl (Or.inl rfl) (bF (tR rfl) (by rfl) iu PyProof.Rows.boot_sorted (aa (bR (zA rfl) (by rfl) Ma (show bootBuiltins "set" = some (.type "set") by decide +kernel) (aa (cI ["call"] [none] rfl rfl (by kernel_rfl) (bx (K := K) rfl (pv 1)) (fun _ _ _ _ _ nd => aZ (i := 0) nd rfl (Or.inl rfl)) (fun _ _ _ _ _ => fM) (fun _ _ _ _ _ => (dC (K := K) rfl (pv 0) rfl))) ak)) ak)))
   (aq (aO (i := 6) sc_run.nd rfl (Or.inl rfl) (j7 ak))
   (aq (aO (i := 7) sc_run.nd rfl (Or.inl rfl) (bc kZ lB hr (aa (pv 2) (aa (pv 3) (aa aA ak)))))
   (aq (aO (i := 8) sc_run.nd rfl (Or.inl rfl) (bc pC pF hr (aa (pv 5) (aa (pv 4) (aa (pv 3) (aa (bc zx zj hr (aa (pv 2) (aa (pv 7) ak))) ak))))))
   (aq (wV PassesOwn.never (bI Ag (pv 8) uB (bM _))
   (aq (pA (lN (K := K) rfl (wY PySem.F.plainAttrs_list PySem.F.slot_list_append PySem.F.type_list_append lF (pv 6) (aa (pv 8) ak))))
   (aq (q9 hu (pv 3) (dC (K := K) rfl (pv 8) rfl) (dC (K := K) rfl (pv 8) rfl) rfl)
   (aq (aO (i := 7) sc_run.nd rfl (Or.inl rfl) (bc kZ lB hr (aa (pv 2) (aa (pv 3) (aa (pv 7) ak)))))
   (aD (aO (i := 8) sc_run.nd rfl (Or.inl rfl) (bc pC pF hr (aa (bc xH wH hr (aa (pv 5) (aa (dC (K := K) rfl (pv 8) rfl) ak))) (aa (pv 4) (aa (pv 3) (aa (bc zx zj hr (aa (pv 2) (aa (pv 7) ak))) ak)))))))))))
   (aD (aW (dF (aa (pv 6) (aa (pv 3) ak)))))))))))), ?_⟩
 obtain ⟨m, ws, cs, xs, ns, hd, cm, hS, hc, lc, rg, hP, hn, kk⟩ := h
 have lw : ws.length = cs.length := Paired.length hc
 have lx := hn.len
 clean_wf
 intro e0 H1 he0 s1 g1
 clean_wf
 refine ⟨d, e0, m, [], rfl, dH s1 hd, .inl g1, cm, Ck.nil, fun H2 r m0 s2 hr g2 tm0 mx => ?_⟩
 have ctm0 : ∀ k, ct m0 k = ct m k := fun k => by
  have := za (mx k)
  have c0 := cm.ct k
  have e : ct [] k = 0 := rfl
  rw [e] at this
  omega
 have s02 := s1.trans s2
 have hS2 := s02.seq hS
 have hc2 := dW (.same s02) hc
 clean_wf
 intro E hE
 refine bJ (K := K) (a := a) (xs := ws) (fun i σ A => ∃ v ys, σ = [v] /\ Same H2 A /\ A E = some (.lst ys) /\ ys.length = i /\ FQ A ys (((ws.zip cs).take i).map rkp)) ⟨none, [], rfl, aH hE, aB, rfl, .nil⟩ ?_ ?_ ?_
 ·rintro i σ A _ ⟨_, _, _, z, _⟩
  exact z.seq hS2
 ·rintro i x σ A hx ⟨v, ys, rfl, sA, gE, ly, pr⟩
  obtain ⟨y, hy, cy⟩ := bC hc2 hx
  have hi := (List.getElem?_eq_some_iff.mp hy).1
  clean_wf
  refine ⟨x, rfl, y, cy.up (.same sA), fun A1 t t1 ht g1' => ?_⟩
  clean_wf
  intro u A2 hu2 t2 g2'
  have gE2 := t2 _ _ (t1 _ _ gE)
  have kp : SmH A2 (upd A2 E (.lst (ys ++ [V.ref u]))) := SmH.lst gE2
  refine ⟨ys, gE2, aJ (by omega), _, ys ++ [.ref u], rfl, fun b' o z => ?_, aB, by rw [List.length_append, ly]; rfl, ?_⟩
  ·rw [aL (aC z hE)]
   exact t2 _ _ (t1 _ _ (sA b' o z))
  ·rw [Dy ws cs i hx hy, List.map_append]
   exact zg (PJ (fun a xs z => kp _ _ (t2 _ _ (t1 _ _ z))) pr) ⟨u, t, rfl, kp _ _ g2', kp _ _ (t2 _ _ g1')⟩
 rintro σ H3 ⟨v, ys, rfl, s3, gE, ly, pr⟩
 rw [show (ws.zip cs).take ws.length = ws.zip cs by rw [List.take_of_length_le]; rw [List.length_zip]; omega] at pr
 refine ⟨E, ys, _, rfl, gE, pr, by have := Paired.length pr; omega, fun D hD => ?_⟩
 have s4 := aH (o := .dT (oE ((ws.zip cs).map rkp))) hD
 have gD : (upd H3 D (.dT (oE ((ws.zip cs).map rkp)))) D = some (.dT (oE ((ws.zip cs).map rkp))) := aB
 generalize upd H3 D (.dT (oE ((ws.zip cs).map rkp))) = H4 at s4 gD ⊢
 have s24 : Same H2 H4 := s3.trans s4
 have hc4 := dW (.same s24) hc2
 have RK : RkA K mg H4 D (LkC (ws.zip cs)) := ⟨⟨_, gD, Qs _⟩, fun a b v x e => by
  obtain ⟨e1, e2, e3⟩ := mL e
  exact ⟨o8 hc4 e1, e2, e3⟩⟩
 have hS4 := s24.seq hS2
 clean_wf
 intro E2 hE2
 refine bJ (K := K) (a := a) (xs := ws) (fun i σ A => ∃ v, σ = [v] /\ Same H4 A /\ A E2 = some (.lst (((cs.take i).map (·.c)).map V.int))) ⟨none, rfl, aH hE2, aB⟩ ?_ ?_ ?_
 ·rintro i σ A _ ⟨_, _, z, _⟩
  exact z.seq hS4
 ·rintro i x σ A hx ⟨v, rfl, sA, gA⟩
  obtain ⟨y, hy, cy⟩ := bC hc4 hx
  have hi := (List.getElem?_eq_some_iff.mp hy).1
  obtain ⟨p, C, dx, t, xs', rfl, hk, hT, hp, _⟩ := cy.up (.same sA)
  obtain ⟨cl, n1, n2, n3, n4, n5⟩ := id hT
  clean_wf
  refine ⟨_, gA, ?_, _, rfl, fun b o z => ?_, ?_⟩
  ·rw [List.length_map, List.length_map, List.length_take]
   exact aJ (by omega)
  ·rw [aL (aC z hE2)]
   exact sA b o z
  ·rw [aB, bf hy, List.map_append, List.map_append]
   rfl
 rintro σ H5 ⟨v, rfl, s5, gE2⟩
 rw [lw, List.take_length] at gE2
 refine ⟨E2, cs.map (·.c), rfl, SqL.of gE2, by rw [List.length_map]; omega, fun q ks hq ndk mk => ?_⟩
 refine ⟨q, ks, rfl, aB, ndk, ?_, fun cl hs hcl pm so => ?_⟩
 ·exact qJ ndk fun k hk => by
   obtain ⟨x, hx, e⟩ := List.mem_map.mp ((mk k).mp hk)
   rw [← e]
   exact rg x hx
 generalize Ls _ _ q ks = so' at hcl ⊢
 have s56 := aH (o := so') hq
 have s6 := aH (o := .lst (hs.map V.int)) hcl
 have g6 : (upd (upd H5 q so') cl (.lst (hs.map V.int))) cl = some (.lst (hs.map V.int)) := aB
 generalize upd (upd H5 q so') cl (.lst (hs.map V.int)) = H6 at s6 g6 ⊢
 generalize upd H5 q so' = H5' at s56 s6 hcl
 have s46 : Same H4 H6 := s5.trans (s56.trans s6)
 have hsl : hs.Pairwise (· < ·) := by
  have := List.pairwise_and_iff.mpr ⟨so, pm.nodup_iff.mpr ndk⟩
  exact this.imp fun h => by omega
 have hsm : ∀ h, h ∈ hs ↔ ∃ x ∈ cs, x.c = h := fun h => by
  rw [pm.mem_iff, mk h]
  exact List.mem_map
 have lhs : hs.length <= 400 := by
  have : hs.length < 64 := qJ (pm.nodup_iff.mpr ndk) fun k hk => by
   obtain ⟨x, hx, e⟩ := (hsm k).mp hk
   rw [← e]
   exact rg x hx
  omega
 clean_wf
 intro l H7 hl s7 g7
 have s27 : Same H2 H7 := s24.trans (s46.trans s7)
 have s07 := s02.trans s27
 have gr7 := s27 _ _ g2
 have hP7 : SqL K H7 b xs ∨ SqT K H7 b xs := Di (fun o e => s07 _ _ e) hP
 have hn7 : Nms H7 xs ns := hn.up (.same s07)
 have gc7 := s7 _ _ g6
 have RK7 := RK.same (s46.trans s7)
 have nlr : l ≠ r := fun z => by rw [z, (s24.trans s46) _ _ g2] at hl; cases hl
 have ncl : cl ≠ l := fun z => by rw [← z, g6] at hl; cases hl
 clean_wf
 refine ⟨b, r, 0, rfl, xs, m0, ns, hP7, .inl gr7, hn7, Nat.zero_le _, fun k _ h => absurd h (Nat.not_lt_zero _), fun j j1 j2 j3 => ?_⟩
 clean_wf
 refine Cj hP7 hn7 j1 j2 j3 fun y hy => ?_
 clean_wf
 refine ⟨cl, D, r, y, rfl, hs, _, m0, nxo ns m0, SqL.of gc7, RK7, .inl gr7, tm0.toCk, hy, fun H8 s8 => ?_⟩
 have hl8 := s8 _ _ g7
 have gr8 := s8 _ _ gr7
 have gc8 := s8 _ _ gc7
 have RK8 := RK7.same s8
 have hP8 : SqL K H8 b xs ∨ SqT K H8 b xs := Di (fun o e => s8 _ _ e) hP7
 have hn8 : Nms H8 xs ns := hn7.up (.same s8)
 have s08 := s07.trans s8
 have frl : H l = none := (s02.trans (s24.trans s46)).free hl
 have frr : H r = none := s1.free hr
 have bl : ∀ o, H8 b = some o -> (SqL K H b xs ∨ SqT K H b xs) -> True := fun _ _ _ => trivial
 clean_wf
 refine ⟨fun M σ A => ∃ rw last mm j, M = mz cs mm /\ σ = [some (.ref d), some (.ref a), some (.ref b), some (.ref r), some (.ref D), some (.ref cl), some (.ref l), some (.int (j : Nat)), some (fsv (fst (frm hs last) (LkC (ws.zip cs)) mm (nxo ns mm)))] /\ (∀ x o, H8 x = some o -> x ≠ l -> x ≠ r -> A x = some o) /\ A l = some (.lst ((rw : List (V × Cll)).map (·.1))) /\ A r = some (.dK (dI mm)) /\ Td mm /\ Fw hs (LkC (ws.zip cs)) ns m0 rw last mm /\ j <= ns.length /\ (∀ k (hk : k < ns.length), k < j -> cvd mm ns[k]) /\ rw.length + mz cs mm <= 60, ⟨_, [], none, m0, j, rfl, rfl, fun x o e _ _ => e, hl8, gr8, tm0, .start, j1, j2, ?_⟩, ?_⟩
 ·have := List.length_filter_le (fun q : Cll => decide (ct m0 q.c < q.k)) cs
  unfold mz
  rw [List.length_nil]
  omega
 rintro M σ A ⟨rw', last, mm, j', rfl, rfl, kA, gl, gr, tmm, fw, q1, q2, q3⟩
 have nbl : ∀ {x : Addr} {o : HO}, H8 x = some o -> (∀ ys, o ≠ .lst ys) -> (∀ kvs, o ≠ .dK kvs) -> A x = some o := fun e n1 n2 => kA _ _ e (fun z => by rw [z, hl8] at e; cases e; exact n1 _ rfl) (fun z => by rw [z, gr8] at e; cases e; exact n2 _ rfl)
 have kpc : KpC H8 A := ⟨fun p C dx fs e => nbl e (by intro _ z; cases z) (by intro _ z; cases z), fun a xs e => nbl e (by intro _ z; cases z) (by intro _ z; cases z)⟩
 have hPA : SqL K A b xs ∨ SqT K A b xs := by
  refine Di (fun o e => ?_) hP
  exact kA _ _ (s08 _ _ e) (fun z => by rw [z, frl] at e; cases e) (fun z => by rw [z, frr] at e; cases e)
 have hnA : Nms A xs ns := hn8.up kpc.2
 have gcA := kA _ _ gc8 ncl (fun z => by rw [z, gr8] at gc8; cases gc8)
 have RKA : RkA K mg A D (LkC (ws.zip cs)) := by
  obtain ⟨⟨kvs, e1, e2⟩, e3⟩ := RK8
  exact ⟨⟨kvs, nbl e1 (by intro _ z; cases z) (by intro _ z; cases z), e2⟩, fun a b v x e => ⟨(e3 a b v x e).1.up kpc, (e3 a b v x e).2⟩⟩
 cases z : fst (frm hs last) (LkC (ws.zip cs)) mm (nxo ns mm) with
 | none =>
  clean_wf
  rw [show decide (fsv none = V.non) = true from decide_eq_true rfl]
  clean_wf
  intro t A1 ht s9 g9
  refine kk A1 t l r hs m0 rw' last mm (fun x o e => s9 _ _ (kA _ _ (s08 _ _ e) (fun z => by rw [z, frl] at e; cases e) (fun z => by rw [z, frr] at e; cases e))) frl frr g9 (s9 _ _ gl) (s9 _ _ gr) tmm hsl hsm tm0 ctm0 fw z
 | some q =>
  obtain ⟨v, x⟩ := q
  obtain ⟨hh, hhm, eL, tk⟩ := tM z
  obtain ⟨cx, ec, ek⟩ := RKA.cl _ _ _ _ eL
  obtain ⟨p, C, dx, t, xs', rfl, hk, hT, hp, ht, hpx, hcs⟩ := id cx
  obtain ⟨cl', n1, n2, n3, n4, n5⟩ := id hT
  have xm : x ∈ cs := by
   have := (mL eL).1
   exact (List.of_mem_zip this).2
  have xr := rg x xm
  have ek' : x.k = ct mm x.c + 1 := by rw [ek, ec]
  have kp0 : 0 < x.k := by have := tmm.toCk.ct x.c; omega
  have ml := K5 xm ek'
  rw [show fsv (some (V.ref p, x)) = V.ref p from rfl]
  clean_wf
  rw [show decide (V.ref p = V.non) = false from decide_eq_false (by intro z; cases z)]
  refine jr (fun _ => ?_) fun z => absurd rfl z
  refine ⟨_, fun _ _ z => z, ?_⟩
  have ls : (rw'.map (·.1)).length < sizeLine := aJ (by rw [List.length_map]; omega)
  clean_wf
  intro A1 b1 g1'
  have hp1 := b1.of gl hp (by intro z; cases z)
  have gr1 := b1.at nlr.symm gr
  have nd := tmm.nd
  have lm := tmm.toCk.len
  clean_wf
  intro A2 b2 g2'
  have fr2 : ∀ x o, H8 x = some o -> x ≠ l -> x ≠ r -> A2 x = some o := fun x o e n1 n2 => b2.at n2 (b1.at n1 (kA x o e n1 n2))
  have nbl2 : ∀ {x : Addr} {o : HO}, A x = some o -> (∀ ys, o ≠ .lst ys) -> (∀ kvs, o ≠ .dK kvs) -> A2 x = some o := fun e n1 n2 => b2.at (fun z => by rw [z, gr] at e; cases e; exact n2 _ rfl) (b1.at (fun z => by rw [z, gl] at e; cases e; exact n1 _ rfl) e)
  have kpc2 : KpC A A2 := ⟨fun p C dx fs e => nbl2 e (by intro _ z; cases z) (by intro _ z; cases z), fun a xs e => nbl2 e (by intro _ z; cases z) (by intro _ z; cases z)⟩
  have hPA2 : SqL K A2 b xs ∨ SqT K A2 b xs := by
   refine Di (fun o e => ?_) hP
   exact fr2 _ _ (s08 _ _ e) (fun z => by rw [z, frl] at e; cases e) (fun z => by rw [z, frr] at e; cases e)
  have hnA2 : Nms A2 xs ns := hnA.up kpc2.2
  have gcA2 := fr2 _ _ gc8 ncl (fun z => by rw [z, gr8] at gc8; cases gc8)
  have hp2 := kpc2.1 _ _ _ _ hp
  have RKA2 : RkA K mg A2 D (LkC (ws.zip cs)) := by
   obtain ⟨⟨kvs, e1, e2⟩, e3⟩ := RKA
   exact ⟨⟨kvs, nbl2 e1 (by intro _ z; cases z) (by intro _ z; cases z), e2⟩, fun a b v x e => ⟨(e3 a b v x e).1.up kpc2, (e3 a b v x e).2⟩⟩
  have tm2 := Ep tmm xr.1 xr.2 kp0
  have mono : ∀ k, ct mm k <= ct (eV mm x.c x.k) k := fun k => by
   rw [qD]
   by_cases w : k = x.c
   ·rw [if_pos w, w]; omega
   ·rw [if_neg w]; exact Int.le_refl _
  clean_wf
  refine ⟨b, r, j', rfl, xs, eV mm x.c x.k, ns, hPA2, .inl g2', hnA2, q1, fun k hk h => Int.le_trans (q2 k hk h) (mono _), fun j2 a1 a2 a3 => ?_⟩
  clean_wf
  refine ⟨cl, x.c, rfl, hs, SqL.of gcA2, lhs, fun A3 cf s3' hcf g3' => ?_⟩
  clean_wf
  refine Cj (Di (fun o e => s3' _ _ e) hPA2) (hnA2.up (.same s3')) a1 a2 a3 fun y hy => ?_
  clean_wf
  refine ⟨cf, D, r, y, rfl, _, _, eV mm x.c x.k, nxo ns (eV mm x.c x.k), SqL.of g3', RKA2.same s3', .inl (s3' _ _ g2'), tm2.toCk, hy, fun A4 s4' => ?_⟩
  refine ⟨mz cs (eV mm x.c x.k), ml, rw' ++ [(.ref p, x)], some x.c, eV mm x.c x.k, j2, rfl, rfl, fun x o e n1 n2 => s4' _ _ (s3' _ _ (fr2 x o e n1 n2)), ?_, s4' _ _ (s3' _ _ g2'), tm2, .step fw z, a1, a2, ?_⟩
  ·rw [List.map_append]
   exact s4' _ _ (s3' _ _ (b2.at nlr g1'))
  ·rw [List.length_append]
   show rw'.length + 1 + _ <= 60
   omega
def mj (m : List (Int × Int)) (x : Cll) : Bool := decide (x.kd = "one") && frb m x
def LaR (zs : List (V × Cll)) (m : List (Int × Int)) : Option (V × Cll) -> Prop
 | none => ∀ q ∈ zs, mj m q.2 = false
 | some q => q ∈ zs /\ mj m q.2 = true /\ ∀ q' ∈ zs, mj m q'.2 = true -> HT.lexLt [q'.2.c, q'.2.k] [q.2.c, q.2.k] = false
def j6 (K : PySem.W.Frag) (mg : Str -> Option Value) : Sp := fun vs H Q _ => ∃ (a d : Addr), vs = [.ref a, .ref d] /\ ∃ ws cs m, SqL K H a ws /\ CT K mg H ws cs /\ cs.length <= 60 /\ Rd H d (.dK (dI m)) /\ Ck m /\ ∀ H' o, Same H H' -> LaR (ws.zip cs) m o -> Q (fsv o) H'
theorem vU : FnScope ["calls", "counts"] ["calls", "counts"] (ao dJ) := ⟨rfl, rfl, rfl, by decide +kernel, rfl, by decide +kernel, by decide +kernel⟩
theorem vV {f jV b7 bW cC nO aj au az : Addr} {fd jg du cQ bZ mq : FuncData} (F : Fun K "least_asking" "least_asking" dJ f fd)
  (qb : FnOk P w K mg base CX0 3 jV jg ["self", "counts"] (lu K mg)) (qp : Binds K jg ["self", "counts"] [])
  (dO : FnOk P w K mg base CX0 3 b7 du ["self", "counts"] (fL K mg)) (dZ : Binds K du ["self", "counts"] [])
  (dz : FnOk P w K mg base CX0 3 bW cQ ["self"] (eQ K)) (dw : Binds K cQ ["self"] [])
  (f9 : FnOk P w K mg base CX0 3 cC bZ ["self"] (cU K)) (fW : Binds K bZ ["self"] [])
  (uA : FnOk P w K mg base CX0 2 nO mq ["call"] (oF K mg)) (qT : Cal K mg "rank_of" nO mq ["call"]) (U4 : mg "min" = none) (aF : TCall K aj) (aN : TCall K au) (aM : TCall K az) (aG : mg "HeardCall" = some (.ref aj)) (aP : mg "OneCall" = some (.ref au)) (aU : mg "OwnCall" = some (.ref az)) (bK : Meth K aj "asks_place" bW) (cG : Meth K aj "free" b7) (bT : Meth K au "asks_place" cC) (cX : Meth K au "free" b7) (bQ : Meth K az "asks_place" bW) (dh : Meth K az "free" jV) : FnOk P w K mg base CX0 4 f fd ["calls", "counts"] (j6 K mg) := by
 refine F.ok vU (fun vs H Q E h => ?_) (fun cdv A outer s H vs Q E hr h => ?_)
 ·obtain ⟨a, d, rfl, _⟩ := h
  rfl
 obtain ⟨a, d, rfl, h⟩ := h
 have hu64 := hr.units
 have hu0 := hr.units0
 have hu := bH hr
 refine ⟨_, (aD (aW (Jt (K := K) rfl rfl (Nat.lt_of_le_of_lt (Nat.add_le_add_left (by decide) _) hu64) (aa (cI ["counts", "call"] [some 1, none] rfl rfl (by kernel_rfl) (bx (K := K) rfl (pv 0)) (fun _ _ _ _ _ nd => aZ (i := 1) nd rfl (Or.inl rfl)) (fun _ _ _ _ _ => (mH (PW.pt (xP (fP K rfl (d7 (MOk.cons aM.cl bQ dz dw (MOk.cons aF.cl bK dz dw (MOk.cons aN.cl bT f9 fW MOk.nil))) (pv 1) hr)) (tX (fP K rfl (uf (MOk.cons aM.cl dh qb qp (MOk.cons aF.cl cG dO dZ (MOk.cons aN.cl cX dO dZ MOk.nil))) (pv 1) hr (aa (pv 0) ak)))))))) (fun _ _ _ _ _ => (pv 1))) ak) uB (by rfl) U4 uA qT.mg qT.bd (by rfl) hr))), ?_⟩
 obtain ⟨ws, cs, m, hS, hc, lc, hd, cm, kk⟩ := h
 have lw : ws.length = cs.length := Paired.length hc
 clean_wf
 intro E hE
 refine bJ (K := K) (a := a) (xs := ws) (fun i σ A => ∃ v zs, σ = [some (.ref d), v] /\ Same H A /\ A E = some (.lst ((zs : List (V × Cll)).map (·.1))) /\ zs = ((ws.zip cs).take i).filter fun q => mj m q.2) ⟨none, [], rfl, aH hE, aB, rfl⟩ ?_ ?_ ?_
 ·rintro i σ A _ ⟨_, _, _, z, _⟩
  exact z.seq hS
 ·rintro i v σ A hx ⟨v0, zs, rfl, sA, gE, ez⟩
  obtain ⟨x, hy, cy⟩ := bC hc hx
  have hi := (List.getElem?_eq_some_iff.mp hy).1
  have tk := Dy ws cs i hx hy
  have lz : zs.length <= i := by
   rw [ez]
   exact Nat.le_trans (List.length_filter_le _ _) (List.length_take_le _ _)
  have hdA := dH sA hd
  have yes : mj m x = true -> zs ++ [(v, x)] = ((ws.zip cs).take (i + 1)).filter fun q => mj m q.2 := fun w => by
   rw [tk, List.filter_append, ← ez]
   simp [w]
  have no : mj m x = false -> zs = ((ws.zip cs).take (i + 1)).filter fun q => mj m q.2 := fun w => by
   rw [tk, List.filter_append, ← ez]
   simp [w]
  obtain ⟨p, C, dx, t, xs', rfl, hk, hT, hp, ht, hpx, hcs⟩ := cy.up (.same sA)
  obtain ⟨kd, n, c, k, w, css⟩ := x
  have hk : KdC mg kd C := hk
  have hp : A p = some (.ins C dx (cfl (.int n) (.int c) (.int k) (.int w) (.ref t))) := hp
  have hpx : Prs A xs' css := hpx
  have hcs : Ck css := hcs
  rcases hk with ⟨rfl, e⟩ | ⟨rfl, e⟩ | ⟨rfl, e⟩
  ·rw [aU] at e
   cases e
   clean_wf
   refine ⟨p, rfl, ?_⟩
   clean_wf
   exact ⟨_, zs, rfl, sA, gE, no (by unfold mj; rw [QT]; rfl)⟩
  ·rw [aG] at e
   cases e
   clean_wf
   refine ⟨p, rfl, ?_⟩
   clean_wf
   exact ⟨_, zs, rfl, sA, gE, no (by unfold mj; rw [QK]; rfl)⟩
  ·have ev : mj m ⟨"one", n, c, k, w, css⟩ = (decide (ct m c = k - 1) && cov m (ig css)) := by
    unfold mj frb
    rw [Nk, Ra]
    simp
   rw [aP] at e
   cases e
   clean_wf
   refine ⟨p, rfl, ?_⟩
   clean_wf
   refine ⟨p, d, rfl, _, dx, m, _, c, k, _, t, xs', css, .inr aP, hp, hdA, ht, hpx, cm, hcs, fun A1 s1 => ?_⟩
   clean_wf
   refine jr (fun h1 => ?_) fun h1 => ?_
   ·have gE1 := s1 _ _ gE
    clean_wf
    refine ⟨_, gE1, by rw [List.length_map]; exact aJ (by omega), _, zs ++ [(.ref p, ⟨"one", n, c, k, w, css⟩)], rfl, fun b o z => ?_, by rw [aB, List.map_append]; rfl, yes (by rw [ev]; exact h1)⟩
    rw [aL (aC z hE)]
    exact s1 _ _ (sA b o z)
   ·exact ⟨_, zs, rfl, sA.trans s1, s1 _ _ gE, no (by rw [ev]; exact Bool.eq_false_iff.mpr h1)⟩
 rintro σ A ⟨v, zs, rfl, sA, gE, ez⟩
 rw [show (ws.zip cs).take ws.length = ws.zip cs by rw [List.take_of_length_le]; rw [List.length_zip]; omega] at ez
 have hcA := dW (.same sA) hc
 have zin : ∀ q ∈ zs, q ∈ ws.zip cs /\ mj m q.2 = true := fun q hq => by
  rw [ez] at hq
  exact List.mem_filter.mp hq
 have zat : ∀ {i : Nat} {v : V}, (zs.map (·.1))[i]? = some v -> ∃ q, zs[i]? = some q /\ q.1 = v := fun {i v} h => by
  rw [List.getElem?_map] at h
  cases w : zs[i]? with
  | none => rw [w] at h; cases h
  | some q => rw [w] at h; exact ⟨q, rfl, Option.some.inj h⟩
 clean_wf
 refine ⟨E, zs.map (·.1), zs.map (fun q => [q.2.c, q.2.k]), rfl, SqL.of gE, by rw [List.length_map, List.length_map], fun v hv => ?_, fun i v k H3 Q' hv hk s3 hq => ?_, fun e => ?_, fun i v kb H' hv hkb best s' => ?_⟩
 ·obtain ⟨q, hq, rfl⟩ := List.mem_map.mp hv
  obtain ⟨p, _, _, _, _, e, _⟩ := o8 hcA (zin q hq).1
  exact ⟨p, e⟩
 ·obtain ⟨q, hq2, rfl⟩ := zat hv
  rw [List.getElem?_map, hq2] at hk
  cases hk
  have cq := (o8 hcA (zin q (List.mem_of_getElem? hq2)).1).up (.same s3)
  exact ⟨q.1, rfl, q.2, cq, fun H4 t s4 _ g4 => hq H4 t s4 (SqT.of g4)⟩
 ·refine kk A none sA fun q hq => ?_
  have e0 : zs = [] := List.map_eq_nil_iff.mp e
  rw [ez] at e0
  have := List.filter_eq_nil_iff.mp e0 q hq
  exact Bool.eq_false_iff.mpr this
 ·obtain ⟨q, hq2, rfl⟩ := zat hv
  rw [List.getElem?_map, hq2] at hkb
  cases hkb
  obtain ⟨z1, z2⟩ := zin q (List.mem_of_getElem? hq2)
  refine kk H' (some q) (sA.trans s') ⟨z1, z2, fun q' hq' ha => ?_⟩
  have : q' ∈ zs := by rw [ez]; exact List.mem_filter.mpr ⟨hq', ha⟩
  obtain ⟨j', hj'⟩ := List.getElem?_of_mem this
  exact (best j' [q'.2.c, q'.2.k] (by rw [List.getElem?_map, hj']; rfl)).1
end
end K52
namespace K52
open PySem L2
abbrev nR : Stmt := top 34
section
variable {P : Program} {w : World} {K : PySem.W.Frag} {mg : Str -> Option Value} {base : Heap}
def Rk1 (zs : List (V × Cll)) : Prop := ∀ q ∈ zs, ∀ r ∈ zs, q.2.c = r.2.c -> q.2.k = r.2.k -> q = r
theorem zN {zs : List (V × Cll)} (u : Rk1 zs) {q : V × Cll} (h : q ∈ zs) : LkC zs q.2.c q.2.k = some q := by
 cases z : LkC zs q.2.c q.2.k with
 | none =>
  unfold LkC at z
  have := List.find?_eq_none.mp z q (List.mem_reverse.mpr h)
  exact absurd (decide_eq_true ⟨rfl, rfl⟩) this
 | some r =>
  obtain ⟨e1, e2, e3⟩ := mL z
  rw [u r e1 q h e2 e3]
theorem La {cs : List Cll} {m m' : List (Int × Int)} (h : ∀ k, ct m k = ct m' k) : mz cs m = mz cs m' := by
 unfold mz
 congr 1
 refine congrArg (fun f => cs.filter f) ?_
 funext q
 rw [h]
theorem Wa {hs : List Int} {ws : List V} {cs : List Cll} {ns : List Nm} {m0 : List (Int × Int)} {rw : List (V × Cll)} {last : Option Int} {m : List (Int × Int)} (h : Fw hs (LkC (ws.zip cs)) ns m0 rw last m) : rw.length + mz cs m <= mz cs m0 := by
 induction h with
 | start => rw [List.length_nil]; omega
 | step f e ih =>
  obtain ⟨h, _, e1, _⟩ := tM e
  obtain ⟨e2, e3, e4⟩ := mL e1
  have := K5 (List.of_mem_zip e2).2 (by rw [e3]; exact e4)
  rw [List.length_append, List.length_singleton]
  omega
theorem Ot {hs : List Int} {L : Int -> Int -> Option (V × Cll)} {ns : List Nm} {m0 : List (Int × Int)} {rw : List (V × Cll)} {last : Option Int} {m : List (Int × Int)} (h : Fw hs L ns m0 rw last m) (e : fst (frm hs last) L m (nxo ns m) = none) (n : fst hs L m0 (nxo ns m0) ≠ none) : 0 < rw.length := by
 cases h with
 | start => exact absurd e n
 | step => rw [List.length_append, List.length_singleton]; omega
theorem xK {m : List (Int × Int)} {x : Cll} (h : mj m x = true) : x.kd = "one" /\ ct m x.c = x.k - 1 := by
 unfold mj frb at h
 simp at h
 exact ⟨h.1, h.2.1⟩
theorem Rm {m : List (Int × Int)} {x : Cll} (h : mj m x = true) : tkb m x (some (x.n, x.c, x.k)) = true := by
 unfold mj at h
 unfold tkb
 simp at h ⊢
 exact h.2
theorem Oe {hs : List Int} {zs : List (V × Cll)} (u : Rk1 zs) {m : List (Int × Int)} {q : V × Cll} (h : q ∈ zs) (ha : mj m q.2 = true) (hh : q.2.c ∈ hs) : fst hs (LkC zs) m (some (q.2.n, q.2.c, q.2.k)) ≠ none := by
 intro z
 unfold fst at z
 have := List.findSome?_eq_none_iff.mp z _ hh
 unfold tk1 at this
 rw [show ct m q.2.c + 1 = q.2.k by have := (xK ha).2; omega, zN u h] at this
 have this : (if tkb m q.2 (some (q.2.n, q.2.c, q.2.k)) = true then some q else none) = none := this
 rw [if_pos (Rm ha)] at this
 cases this
theorem HH {m : List (Int × Int)} {ns : List Nm} {j : Nat} {p : Nm} (h1 : ∀ k (hk : k < ns.length), k < j -> cvd m ns[k]) (h2 : j <= ns.length) (h3 : ¬ cvd m p) : nxo (ns.take j ++ [p]) m = some p := by
 unfold nxo
 rw [List.find?_append]
 have : (ns.take j).find? (fun p => !decide (cvd m p)) = none := by
  rw [List.find?_eq_none]
  intro q hq
  obtain ⟨k, hk⟩ := List.getElem?_of_mem hq
  rw [List.getElem?_take] at hk
  by_cases w : k < j
  ·rw [if_pos w] at hk
   obtain ⟨w2, e⟩ := List.getElem?_eq_some_iff.mp hk
   have := h1 k w2 w
   rw [e] at this
   simp [this]
  ·rw [if_neg w] at hk; cases hk
 rw [this, Option.none_or, List.find?_cons_of_pos (by simpa using h3)]
theorem wF {m m' : List (Int × Int)} (h : ∀ k, ct m k = ct m' k) (x : Cll) : mj m x = mj m' x := by
 unfold mj frb cov
 simp only [h]
def HsO (cs : List Cll) (hs : List Int) : Prop := hs.Pairwise (· < ·) /\ ∀ h, h ∈ hs ↔ ∃ x ∈ cs, x.c = h
def Rn (ws : List V) (cs : List Cll) (m : List (Int × Int)) (ns : List Nm) (rw : List (V × Cll)) (m' : List (Int × Int)) : Prop := ∃ hs m0 last, HsO cs hs /\ Td m0 /\ (∀ k, ct m0 k = ct m k) /\ Fw hs (LkC (ws.zip cs)) ns m0 rw last m' /\ fst (frm hs last) (LkC (ws.zip cs)) m' (nxo ns m') = none
def Fo (ns : List Nm) (m : List (Int × Int)) (j : Nat) : Prop := j <= ns.length /\ (∀ k (hk : k < ns.length), k < j -> cvd m ns[k]) /\ ∀ hj : j < ns.length, ¬ cvd m ns[j]
inductive Pw (ws : List V) (cs : List Cll) (m : List (Int × Int)) (ns : List Nm) : List (V × Cll) -> List Nm -> List (Int × Int) -> Prop
 | start {rw : List (V × Cll)} {m' : List (Int × Int)} : Rn ws cs m ns rw m' -> Pw ws cs m ns rw ns m'
 | step {row rw : List (V × Cll)} {gs : List Nm} {m1 m2 : List (Int × Int)} {q : V × Cll} {j : Nat} : Pw ws cs m ns row gs m1 -> LaR (ws.zip cs) m1 (some q) -> Fo gs m1 j -> Rn ws cs m1 (gs.take j ++ [(q.2.n, q.2.c, q.2.k)]) rw m2 -> Pw ws cs m ns (row ++ rw) (gs.take j ++ [(q.2.n, q.2.c, q.2.k)]) m2
theorem Rc {ws : List V} {cs : List Cll} {m : List (Int × Int)} {ns : List Nm} {rw : List (V × Cll)} {m' : List (Int × Int)} (h : Rn ws cs m ns rw m') : rw.length + mz cs m' <= mz cs m := by
 obtain ⟨hs, m0, last, _, _, e, f, _⟩ := h
 have := Wa f
 rw [La e] at this
 exact this
theorem Ii {ws : List V} {cs : List Cll} {m : List (Int × Int)} {gs : List Nm} {rw : List (V × Cll)} {m' : List (Int × Int)} {q : V × Cll} {j : Nat} (u : Rk1 (ws.zip cs)) (la : LaR (ws.zip cs) m (some q)) (fo : Fo gs m j) (h : Rn ws cs m (gs.take j ++ [(q.2.n, q.2.c, q.2.k)]) rw m') : 0 < rw.length := by
 obtain ⟨hs, m0, last, ⟨_, hm⟩, _, e, f, g⟩ := h
 obtain ⟨l1, l2, _⟩ := la
 have a0 : mj m0 q.2 = true := by rw [wF e]; exact l2
 have qh : q.2.c ∈ hs := (hm _).mpr ⟨q.2, (List.of_mem_zip l1).2, rfl⟩
 refine Ot f g ?_
 rw [HH (fun k hk hj => ?_) fo.1 ?_]
 ·exact Oe u l1 a0 qh
 ·show ¬ (q.2.k <= ct m0 q.2.c)
  have := (xK a0).2
  omega
 ·show _ <= ct m0 _
  rw [e]
  exact fo.2.1 k hk hj
theorem Cu (xs : List V) (k : Nat) (h : k <= xs.length) : jB xs none (some (k : Int)) = xs.take k := by
 unfold jB
 have e1 : HT.sIx xs.length 0 none = 0 := rfl
 have e2 : HT.sIx xs.length xs.length (some (k : Int)) = k := by
  show (if (k : Int) < 0 then ((k : Int) + (xs.length : Nat)).toNat else min (k : Int).toNat xs.length) = k
  rw [if_neg (by omega), Int.toNat_natCast]
  omega
 rw [e1, e2, List.drop_zero, Nat.sub_zero]
theorem yw {H : Hp} : ∀ {xs : List V} {ns : List Nm} (k : Nat), Nms H xs ns -> Nms H (xs.take k) (ns.take k)
 | _, _, 0, _ => .nil
 | _, _, k + 1, .nil => .nil
 | _, _, k + 1, .cons r t => .cons r (yw k t)
theorem U9 : decide (("one" : Str) = "heard") = false := by decide +kernel
def qU (K : PySem.W.Frag) (mg : Str -> Option Value) : Sp := fun vs H Q _ => ∃ (d a b : Addr), vs = [.ref d, .ref a, .ref b] /\ ∃ m ws cs xs ns, Rd H d (.dK (dI m)) /\ Ck m /\ SqL K H a ws /\ CT K mg H ws cs /\ cs.length <= 60 /\ Rk1 (ws.zip cs) /\ (∀ x ∈ cs, 0 <= x.c /\ x.c < 63) /\ (SqL K H b xs ∨ SqT K H b xs) /\ Nms H xs ns /\ ns.length <= 300 /\
 ∀ H' t l g rw ys gs m', Same H H' -> H l = none -> H g = none -> H' t = some (.tup [.ref l, .ref g]) -> H' l = some (.lst ((rw : List (V × Cll)).map (·.1))) -> H' g = some (.lst ys) -> Nms H' ys gs -> Pw ws cs m ns rw gs m' -> LaR (ws.zip cs) m' none -> Q (.ref t) H'
theorem sc_placed : FnScope ["counts", "calls", "places", "given", "told", "row", "call"] ["counts", "calls", "places"] (ao nR) := ⟨rfl, rfl, rfl, by decide +kernel, rfl, by decide +kernel, by decide +kernel⟩
theorem Jk {f jk bO QH qy aj au az : Addr} {fd ik dD Nh pN : FuncData} (F : Fun K "placed" "placed" nR f fd)
  (kZ : FnOk P w K mg base CX0 6 jk ik ["places", "counts", "start"] (jU K)) (lB : Cal K mg "first_open" jk ik ["places", "counts", "start"])
  (bB : FnOk P w K mg base CX0 6 bO dD ["self"] (ju K)) (bA : Binds K dD ["self"] [])
  (Rf : FnOk P w K mg base CX0 6 QH Nh ["counts", "calls", "places"] (Fy K mg)) (QG : Cal K mg "run" QH Nh ["counts", "calls", "places"])
  (qd : FnOk P w K mg base CX0 6 qy pN ["calls", "counts"] (j6 K mg)) (qC : Cal K mg "least_asking" qy pN ["calls", "counts"]) (j4 : mg "list" = none) (aF : TCall K aj) (aN : TCall K au) (aM : TCall K az) (aG : mg "HeardCall" = some (.ref aj)) (aP : mg "OneCall" = some (.ref au)) (aU : mg "OwnCall" = some (.ref az)) (bj : Meth K aj "name" bO) (bD : Meth K au "name" bO) (bG : Meth K az "name" bO) : FnOk P w K mg base CX0 7 f fd ["counts", "calls", "places"] (qU K mg) := by
 refine F.ok sc_placed (fun vs H Q E h => ?_) (fun cdv A outer s H vs Q E hr h => ?_)
 ·obtain ⟨d, a, b, rfl, _⟩ := h
  rfl
 obtain ⟨d, a, b, rfl, h⟩ := h
 have hu64 := hr.units
 have hu0 := hr.units0
 have hu := bH hr
 refine ⟨_, (aq (aO (i := 3) sc_placed.nd rfl (Or.inl rfl) (bR (o4 (K := K) rfl) (by rfl) j4 PyProof.Rows.boot_list (aa (pv 2) ak)))
   (aq (aO (i := 4) sc_placed.nd rfl (Or.inl rfl) (bc Rf QG hr (aa (pv 0) (aa (pv 1) (aa (pv 3) ak)))))
   (aq (aO (i := 5) sc_placed.nd rfl (Or.inl rfl) (aX (aY (K := K) rfl) (pv 4) aA (fun _ _ => rfl)))
   (aq (aO (i := 6) sc_placed.nd rfl (Or.inl rfl) (bc qd qC hr (aa (pv 1) (aa (aX (aY (K := K) rfl) (pv 4) aA (fun _ _ => rfl)) ak))))
   (aq (wV PassesOwn.never (bI Ag (pv 6) uB (bM _))
   (aq (aO (i := 3) sc_placed.nd rfl (Or.inl rfl) (aV Gq (jY (qF (K := K) rfl) (pv 3) ph (lA (bc kZ lB hr (aa (pv 3) (aa (aX (aY (K := K) rfl) (pv 4) aA (fun _ _ => rfl)) (aa aA ak)))))) (j7 (aa (d7 (MOk.cons aM.cl bG bB bA (MOk.cons aF.cl bj bB bA (MOk.cons aN.cl bD bB bA MOk.nil))) (pv 6) hr) ak))))
   (aq (aO (i := 4) sc_placed.nd rfl (Or.inl rfl) (bc Rf QG hr (aa (aX (aY (K := K) rfl) (pv 4) aA (fun _ _ => rfl)) (aa (pv 1) (aa (pv 3) ak)))))
   (aq (aO (i := 5) sc_placed.nd rfl (Or.inl rfl) (aV Gq (pv 5) (aX (aY (K := K) rfl) (pv 4) aA (fun _ _ => rfl))))
   (aD (aO (i := 6) sc_placed.nd rfl (Or.inl rfl) (bc qd qC hr (aa (pv 1) (aa (aX (aY (K := K) rfl) (pv 4) aA (fun _ _ => rfl)) ak)))))))))
   (aD (aW (dF (aa (pv 5) (aa (pv 3) ak)))))))))), ?_⟩
 obtain ⟨m, ws, cs, xs, ns, hd, cm, hS, hc, lc, u, rg, hP, hn, ln, kk⟩ := h
 have lw : ws.length = cs.length := Paired.length hc
 have lx := hn.len
 clean_wf
 refine ⟨b, xs, rfl, hP, fun g0 hg0 => ?_⟩
 have s1 := aH (o := .lst xs) hg0
 have g1 : (upd H g0 (.lst xs)) g0 = some (.lst xs) := aB
 generalize upd H g0 (.lst xs) = H1 at s1 g1 ⊢
 clean_wf
 refine ⟨d, a, g0, rfl, m, ws, cs, xs, ns, dH s1 hd, cm, s1.seq hS, dW (.same s1) hc, lc, rg, .inl (SqL.of g1), hn.up (.same s1), fun H2 t l r hs m0 rw last m' s2 hl hr gt gl gr tm' hp1 hp2 tm0 e0 fw fe => ?_⟩
 have rn : Rn ws cs m ns rw m' := ⟨hs, m0, last, ⟨hp1, hp2⟩, tm0, e0, fw, fe⟩
 have gT : SqT K H2 t [.ref l, .ref r] := SqT.of gt
 have s02 := s1.trans s2
 clean_wf
 refine ⟨a, r, rfl, ws, cs, m', s02.seq hS, dW (.same s02) hc, lc, .inl gr, tm'.toCk, fun H3 o s3 la => ?_⟩
 have m60 : mz cs m <= 60 := Nat.le_trans (List.length_filter_le _ _) lc
 clean_wf
 refine ⟨fun M σ A => ∃ t l ll r g row ys gs mm o, M = mz cs mm /\ σ = [some (.ref d), some (.ref a), some (.ref b), some (.ref g), some (.ref t), some (.ref l), some (fsv o)] /\ Same H A /\ H l = none /\ H g = none /\ A t = some (.tup [.ref ll, .ref r]) /\ A l = some (.lst ((row : List (V × Cll)).map (·.1))) /\ A r = some (.dK (dI mm)) /\ Td mm /\ A g = some (.lst ys) /\ Nms A ys gs /\ Pw ws cs m ns row gs mm /\ LaR (ws.zip cs) mm o /\ row.length + mz cs mm <= 60 /\ gs.length <= ns.length + row.length, ⟨_, t, l, l, r, g0, rw, xs, ns, m', o, rfl, rfl, s02.trans s3, s1.free hl, hg0, s3 _ _ gt, s3 _ _ gl, s3 _ _ gr, tm', s3 _ _ (s2 _ _ g1), hn.up (.same (s02.trans s3)), .start rn, la, by have := Rc rn; omega, by omega⟩, ?_⟩
 clear la gT gt gl gr g1 hl hr hg0 rn fw fe
 rintro M σ A ⟨t, l, ll, r, g, row, ys, gs, mm, o, rfl, rfl, sA, hl, hg, gt, gl, gr, tmm, gg, nm, pw, la, q1, q2⟩
 have ly := nm.len
 cases o with
 | none =>
  clean_wf
  rw [show decide (fsv none = V.non) = true from decide_eq_true rfl]
  clean_wf
  intro t' A1 ht' s9 g9
  exact kk A1 t' l g row ys gs mm (sA.trans s9) hl hg g9 (s9 _ _ gl) (s9 _ _ gg) (nm.up (.same s9)) pw la
 | some q =>
  obtain ⟨v, n, kk2⟩ := id la
  obtain ⟨vq, x⟩ := q
  have cx : CllA K mg A vq x := o8 (dW (.same sA) hc) v
  obtain ⟨p, C, dx, tt, xs', rfl, hk, hT, hp, ht, hpx, hcs⟩ := id cx
  have ek := (xK n).1
  obtain ⟨kd, nn, c, k, w, css⟩ := x
  have ek : kd = "one" := ek
  subst ek
  have hp : A p = some (.ins C dx (cfl (.int nn) (.int c) (.int k) (.int w) (.ref tt))) := hp
  have hk : KdC mg "one" C := hk
  rcases hk with ⟨z, _⟩ | ⟨z, _⟩ | ⟨_, e⟩
  ·exact absurd z (of_decide_eq_false Nk)
  ·exact absurd z (of_decide_eq_false U9)
  rw [aP] at e
  cases e
  rw [show fsv (some (V.ref p, (⟨"one", nn, c, k, w, css⟩ : Cll))) = V.ref p from rfl]
  clean_wf
  rw [show decide (V.ref p = V.non) = false from decide_eq_false (by intro z; cases z)]
  refine jr (fun _ => ?_) fun z => absurd rfl z
  refine ⟨_, fun _ _ z => z, ?_⟩
  have gTA : SqT K A t [.ref ll, .ref r] := SqT.of gt
  clean_wf
  refine ⟨g, r, 0, rfl, ys, mm, gs, .inl (SqL.of gg), .inl gr, nm, Nat.zero_le _, fun k _ h => absurd h (Nat.not_lt_zero _), fun j j1 j2 j3 => ?_⟩
  have hSg : SqL K A g ys := SqL.of gg
  clean_wf
  intro c1 A1 hc1 t1 gc1
  rw [Cu _ _ (by omega)] at gc1
  have hp1 := t1 _ _ hp
  clean_wf
  refine ⟨p, rfl, _, dx, _, _, _, _, _, hT, hp1, fun A2 u2 t2 hu2 g2 => ?_⟩
  clean_wf
  intro e1 A3 he1 t3 g3
  have gc3 := t3 _ _ (t2 _ _ gc1)
  have lt := List.length_take_le j ys
  refine M4 gc3 g3 (by rw [List.length_singleton]; omega) fun g' A4 hg' t4 g4 => ?_
  have tA4 : Same A A4 := t1.trans (t2.trans (t3.trans t4))
  have nm4 : Nms A4 (ys.take j ++ [.ref u2]) (gs.take j ++ [(nn, c, k)]) := Nms.snoc (yw j (nm.up (.same tA4))) ⟨u2, rfl, t4 _ _ (t3 _ _ g2)⟩
  have gT4 : SqT K A4 t [.ref ll, .ref r] := SqT.of (tA4 _ _ gt)
  have s04 := sA.trans tA4
  clean_wf
  refine ⟨r, a, g', rfl, mm, ws, cs, _, _, .inl (tA4 _ _ gr), tmm.toCk, s04.seq hS, dW (.same s04) hc, lc, rg, .inl (SqL.of g4), nm4, fun A5 t5' l5 r5 hs5 m5 rw5 last5 mm5 s5 hl5 hr5 gt5 gl5 gr5 tm5 hp5 hp6 tm6 e5 fw5 fe5 => ?_⟩
  have rn5 : Rn ws cs mm (gs.take j ++ [(nn, c, k)]) rw5 mm5 := ⟨hs5, m5, last5, ⟨hp5, hp6⟩, tm6, e5, fw5, fe5⟩
  have fo : Fo gs mm j := ⟨j1, j2, j3⟩
  have pos := Ii u la fo rn5
  have mz5 := Rc rn5
  have gT5 : SqT K A5 t5' [.ref l5, .ref r5] := SqT.of gt5
  have gl05 := s5 _ _ (tA4 _ _ gl)
  clean_wf
  refine M4 gl05 gl5 (by rw [List.length_map, List.length_map]; omega) fun l6 A6 hl6 t6 g6 => ?_
  rw [← List.map_append] at g6
  have gT6 : SqT K A6 t5' [.ref l5, .ref r5] := SqT.of (t6 _ _ gt5)
  have s06 := s04.trans (s5.trans t6)
  clean_wf
  refine ⟨a, r5, rfl, ws, cs, mm5, s06.seq hS, dW (.same s06) hc, lc, .inl (t6 _ _ gr5), tm5.toCk, fun A7 o7 s7 la7 => ?_⟩
  refine ⟨mz cs mm5, by omega, t5', l6, l5, r5, g', row ++ rw5, ys.take j ++ [.ref u2], gs.take j ++ [(nn, c, k)], mm5, o7, rfl, rfl, s06.trans s7, (s04.trans s5).free hl6, (sA.trans (t1.trans (t2.trans t3))).free hg', s7 _ _ (t6 _ _ gt5), s7 _ _ g6, s7 _ _ (t6 _ _ gr5), tm5, s7 _ _ (t6 _ _ (s5 _ _ g4)), nm4.up (.same (s5.trans (t6.trans s7))), .step pw la fo rn5, la7, ?_, ?_⟩
  ·rw [List.length_append]
   omega
  ·rw [List.length_append, List.length_append, List.length_singleton]
   have := List.length_take_le j gs
   omega
end
end K52
namespace K52
open PySem L2
abbrev dU : Stmt := inClass (top 19) 1
abbrev cN : Stmt := inClass (top 20) 0
abbrev eE : Stmt := inClass (top 21) 0
abbrev iY : Stmt := inClass (top 18) 7
section
variable {P : Program} {w : World} {K : PySem.W.Frag} {mg : Str -> Option Value} {base : Heap}
def Clo (cs : List Cll) (ns : List Nm) (m : List (Int × Int)) : Prop := ∀ x ∈ cs, tkb m x (nxo ns m) = false
theorem HN {hs : List Int} {last : Option Int} {h : Int} (hh : h ∈ hs) : h ∈ frm hs last := by
 cases last with
 | none => exact hh
 | some l =>
  show h ∈ frl hs l
  unfold frl
  rw [List.mem_append, List.mem_filter, List.mem_filter]
  by_cases z : l <= h
  ·exact .inl ⟨hh, decide_eq_true z⟩
  ·exact .inr ⟨hh, decide_eq_true (by omega)⟩
theorem RQ {hs : List Int} {ws : List V} {cs : List Cll} {ns : List Nm} {last : Option Int} {m : List (Int × Int)} (hm : ∀ h, h ∈ hs ↔ ∃ x ∈ cs, x.c = h) (u : Rk1 (ws.zip cs)) (lw : ws.length = cs.length) (e : fst (frm hs last) (LkC (ws.zip cs)) m (nxo ns m) = none) : Clo cs ns m := by
 intro x hx
 obtain ⟨i, hi⟩ := List.getElem?_of_mem hx
 have hil := (List.getElem?_eq_some_iff.mp hi).1
 have hz : (ws[i]'(by omega), x) ∈ ws.zip cs := List.mem_of_getElem? (i := i) (by rw [List.getElem?_zip_eq_some]; exact ⟨List.getElem?_eq_getElem _, hi⟩)
 cases w : tkb m x (nxo ns m) with
 | false => rfl
 | true =>
  exfalso
  unfold fst at e
  have := List.findSome?_eq_none_iff.mp e _ (HN ((hm x.c).mpr ⟨x, hx, rfl⟩))
  have ek : ct m x.c + 1 = x.k := by
   unfold tkb frb at w
   rw [Bool.and_eq_true, Bool.and_eq_true] at w
   have := of_decide_eq_true w.1.1
   omega
  unfold tk1 at this
  rw [ek, show LkC (ws.zip cs) x.c x.k = some (ws[i]'(by omega), x) from zN u hz] at this
  have this : (if tkb m x (nxo ns m) = true then some (ws[i]'(by omega), x) else none) = none := this
  rw [if_pos w] at this
  cases this
theorem cJ {α β : Type} {F : α -> β -> Prop} : ∀ {l : List α} {m : List β} {a : α} {b : β}, Paired F l m -> F a b -> Paired F (l ++ [a]) (m ++ [b])
 | _, _, _, _, .nil, h => .cons h .nil
 | _, _, _, _, .cons r t, h => .cons r (cJ t h)
def TldA (H : Hp) (v : V) (x : Cll) : Prop := ∃ a t xs, v = .ref a /\ H a = some (.tup [.int x.n, .int x.c, .int x.k, .str x.kd, .int x.w, .ref t]) /\ H t = some (.tup xs) /\ Prs H xs x.cs
structure Wf (x : Cll) : Prop where
 kd : x.kd = "own" ∨ x.kd = "heard" ∨ x.kd = "one"
 w : (if x.w < 0 then -x.w else x.w) < 10 ^ (60 : Int).toNat
 cs : Ck x.cs
 ow : x.kd = "own" -> x.cs = []
 c0 : 0 <= x.c
 c1 : x.c < 63
abbrev Tls (H : Hp) : List V -> List Cll -> Prop := Paired (TldA H)
theorem TldA.up {H H' : Hp} (s : SmH H H') {v : V} {x : Cll} (h : TldA H v x) : TldA H' v x := by
 obtain ⟨a, t, xs, e1, e2, e3, e4⟩ := h
 exact ⟨a, t, xs, e1, s _ _ e2, s _ _ e3, e4.mono s⟩
theorem fY {H H' : Hp} (s : SmH H H') {vs : List V} {cs : List Cll} (h : Tls H vs cs) : Tls H' vs cs := Paired.mapP h fun _ _ z => z.up s
def tlD (x : Cll) : PyData := .tuple [.int x.n, .int x.c, .int x.k, .str x.kd, .int x.w, .tuple (x.cs.map prD)]
theorem TldA.dp {K : PySem.W.Frag} {H : Hp} {v : V} {x : Cll} (h : TldA H v x) : Dp K H v (tlD x) := by
 obtain ⟨a, t, xs, rfl, e2, e3, e4⟩ := h
 exact .tup (SqT.of e2) (.cons (.int _) (.cons (.int _) (.cons (.int _) (.cons (.str _) (.cons (.int _) (.cons (.tup (SqT.of e3) e4.dps) .nil))))))
theorem Tls.dps {K : PySem.W.Frag} {H : Hp} : ∀ {vs : List V} {cs : List Cll}, Tls H vs cs -> Dps K H vs (cs.map tlD)
 | _, _, .nil => .nil
 | _, _, .cons r t => .cons r.dp (Tls.dps t)
theorem SQ {x : Cll} (wf : Wf x) : (tlD x).canLay0 = true := by
 have e : PyData.strOk x.kd = true := by
  rcases wf.kd with h | h | h <;> rw [h] <;> decide +kernel
 simp [tlD, PyData.canLay0, PyData.canLayAll0, Bs, e]
theorem wz : ∀ {cs : List Cll}, (∀ x ∈ cs, Wf x) -> PyData.canLayAll0 (cs.map tlD) = true
 | [], _ => rfl
 | p :: ns, h => by rw [List.map_cons, PyData.canLayAll0.eq_2, SQ (h p List.mem_cons_self), wz fun x hx => h x (List.mem_cons_of_mem _ hx)]; rfl
theorem Ob (x : Cll) : (tlD x).depth <= 3 := by
 have e : (tlD x).depth = PyData.depthAll [.int x.n, .int x.c, .int x.k, .str x.kd, .int x.w, .tuple (x.cs.map prD)] + 1 := rfl
 have e2 : PyData.depthAll [.int x.n, .int x.c, .int x.k, .str x.kd, .int x.w, .tuple (x.cs.map prD)] = max 0 (max 0 (max 0 (max 0 (max 0 (max (PyData.depthAll (x.cs.map prD) + 1) 0))))) := rfl
 have := Ad x.cs
 rw [e, e2]
 omega
theorem NK {a b c d e f : V} : ¬ (HT.sIx [a, b, c, d, e, f].length 0 none = 0 /\ HT.sIx [a, b, c, d, e, f].length [a, b, c, d, e, f].length (some 3) = [a, b, c, d, e, f].length) := by
 show ¬ (HT.sIx 6 0 none = 0 /\ HT.sIx 6 6 (some 3) = 6)
 decide
def km (K : PySem.W.Frag) : Sp := fun vs H Q _ => ∃ (p : Addr), vs = [.ref p] /\ Q (.str "own") H
def jx (K : PySem.W.Frag) : Sp := fun vs H Q _ => ∃ (p : Addr), vs = [.ref p] /\ Q (.str "heard") H
def j9 (K : PySem.W.Frag) : Sp := fun vs H Q _ => ∃ (p : Addr), vs = [.ref p] /\ Q (.str "one") H
theorem vL : FnScope ["self"] ["self"] (ao dU) := ⟨rfl, rfl, rfl, by decide +kernel, rfl, by decide +kernel, by decide +kernel⟩
theorem vQ {f  : Addr} {fd  : FuncData} (F : Fun K "kind" "OwnCall.kind" dU f fd) : FnOk P w K mg base CX0 1 f fd ["self"] (km K) := by
 refine F.ok vL (fun vs H Q E h => ?_) (fun cdv A outer s H vs Q E hr h => ?_)
 ·obtain ⟨p, rfl, _⟩ := h
  rfl
 obtain ⟨p, rfl, h⟩ := h
 have hu64 := hr.units
 have hu0 := hr.units0
 have hu := bH hr
 refine ⟨_, (aD (aW lO)), ?_⟩
 clean_wf
 exact h
theorem uo : FnScope ["self"] ["self"] (ao cN) := ⟨rfl, rfl, rfl, by decide +kernel, rfl, by decide +kernel, by decide +kernel⟩
theorem tL {f  : Addr} {fd  : FuncData} (F : Fun K "kind" "HeardCall.kind" cN f fd) : FnOk P w K mg base CX0 1 f fd ["self"] (jx K) := by
 refine F.ok uo (fun vs H Q E h => ?_) (fun cdv A outer s H vs Q E hr h => ?_)
 ·obtain ⟨p, rfl, _⟩ := h
  rfl
 obtain ⟨p, rfl, h⟩ := h
 have hu64 := hr.units
 have hu0 := hr.units0
 have hu := bH hr
 refine ⟨_, (aD (aW lO)), ?_⟩
 clean_wf
 exact h
theorem wj : FnScope ["self"] ["self"] (ao eE) := ⟨rfl, rfl, rfl, by decide +kernel, rfl, by decide +kernel, by decide +kernel⟩
theorem vI {f  : Addr} {fd  : FuncData} (F : Fun K "kind" "OneCall.kind" eE f fd) : FnOk P w K mg base CX0 1 f fd ["self"] (j9 K) := by
 refine F.ok wj (fun vs H Q E h => ?_) (fun cdv A outer s H vs Q E hr h => ?_)
 ·obtain ⟨p, rfl, _⟩ := h
  rfl
 obtain ⟨p, rfl, h⟩ := h
 have hu64 := hr.units
 have hu0 := hr.units0
 have hu := bH hr
 refine ⟨_, (aD (aW lO)), ?_⟩
 clean_wf
 exact h
def lE (K : PySem.W.Frag) (mg : Str -> Option Value) : Sp := fun vs H Q _ => ∃ (v : V), vs = [v] /\ ∃ x, CllA K mg H v x /\ ∀ H' t, Same H H' -> H t = none -> TldA H' (.ref t) x -> Q (.ref t) H'
theorem Ba : FnScope ["self"] ["self"] (ao iY) := ⟨rfl, rfl, rfl, by decide +kernel, rfl, by decide +kernel, by decide +kernel⟩
theorem Ai {f pW nF qj aj au az : Addr} {fd pG mJ pJ : FuncData} (F : Fun K "told" "Call.told" iY f fd)
  (xY : FnOk P w K mg base CX0 1 pW pG ["self"] (km K)) (wN : Binds K pG ["self"] [])
  (uI : FnOk P w K mg base CX0 1 nF mJ ["self"] (jx K)) (uW : Binds K mJ ["self"] [])
  (xG : FnOk P w K mg base CX0 1 qj pJ ["self"] (j9 K)) (xN : Binds K pJ ["self"] []) (aF : TCall K aj) (aN : TCall K au) (aM : TCall K az) (aG : mg "HeardCall" = some (.ref aj)) (aP : mg "OneCall" = some (.ref au)) (aU : mg "OwnCall" = some (.ref az)) (jy : Meth K aj "kind" nF) (kW : Meth K au "kind" qj) (j5 : Meth K az "kind" pW) : FnOk P w K mg base CX0 2 f fd ["self"] (lE K mg) := by
 refine F.ok Ba (fun vs H Q E h => ?_) (fun cdv A outer s H vs Q E hr h => ?_)
 ·obtain ⟨v, rfl, _⟩ := h
  rfl
 obtain ⟨v, rfl, h⟩ := h
 have hu64 := hr.units
 have hu0 := hr.units0
 have hu := bH hr
 refine ⟨_, (aD (aW (dF (aa (dC (K := K) rfl (pv 0) rfl) (aa (dC (K := K) rfl (pv 0) rfl) (aa (dC (K := K) rfl (pv 0) rfl) (aa (d7 (MOk.cons aM.cl j5 xY wN (MOk.cons aF.cl jy uI uW (MOk.cons aN.cl kW xG xN MOk.nil))) (pv 0) hr) (aa (dC (K := K) rfl (pv 0) rfl) (aa (dC (K := K) rfl (pv 0) rfl) ak))))))))), ?_⟩
 obtain ⟨x, ⟨p, C, dx, t, xs, rfl, hk, hT, hp, ht, hx, hc⟩, kk⟩ := h
 obtain ⟨kd, n, c, k, w, cs⟩ := x
 have hk : KdC mg kd C := hk
 have hp : H p = some (.ins C dx (cfl (.int n) (.int c) (.int k) (.int w) (.ref t))) := hp
 have hx : Prs H xs cs := hx
 obtain ⟨cl, n1, n2, n3, n4, n5⟩ := id hT
 rcases hk with ⟨rfl, e⟩ | ⟨rfl, e⟩ | ⟨rfl, e⟩
 ·rw [aU] at e
  cases e
  clean_wf
  refine ⟨p, rfl, ?_⟩
  clean_wf
  intro u H1 hu1 s1 g1
  exact kk H1 u s1 hu1 ⟨u, t, xs, rfl, g1, s1 _ _ ht, hx.mono (SmH.same s1)⟩
 ·rw [aG] at e
  cases e
  clean_wf
  refine ⟨p, rfl, ?_⟩
  clean_wf
  intro u H1 hu1 s1 g1
  exact kk H1 u s1 hu1 ⟨u, t, xs, rfl, g1, s1 _ _ ht, hx.mono (SmH.same s1)⟩
 ·rw [aP] at e
  cases e
  clean_wf
  refine ⟨p, rfl, ?_⟩
  clean_wf
  intro u H1 hu1 s1 g1
  exact kk H1 u s1 hu1 ⟨u, t, xs, rfl, g1, s1 _ _ ht, hx.mono (SmH.same s1)⟩
def Inc (cs : List Cll) : Prop := cs.Pairwise fun x y => x.c = y.c -> x.k ≠ y.k
theorem KZ {cs : List Cll} {x : Cll} (u : Inc cs) (h : ∀ y ∈ cs, y.c = x.c -> y.k < x.k) : Inc (cs ++ [x]) := by
 unfold Inc
 rw [List.pairwise_append]
 refine ⟨u, List.pairwise_singleton _ _, fun a ha b hb e => ?_⟩
 rw [List.mem_singleton.mp hb] at e ⊢
 have := h a ha e
 omega
theorem rW {ws : List V} {cs : List Cll} (u : Inc cs) : Rk1 (ws.zip cs) := by
 intro q hq r hr e1 e2
 obtain ⟨i, hi⟩ := List.getElem?_of_mem hq
 obtain ⟨j, hj⟩ := List.getElem?_of_mem hr
 have hi2 := (List.getElem?_zip_eq_some.mp hi).2
 have hj2 := (List.getElem?_zip_eq_some.mp hj).2
 obtain ⟨il, ei⟩ := List.getElem?_eq_some_iff.mp hi2
 obtain ⟨jl, ej⟩ := List.getElem?_eq_some_iff.mp hj2
 rcases Nat.lt_trichotomy i j with w | w | w
 ·have := List.pairwise_iff_getElem.mp u i j il jl w
  rw [ei, ej] at this
  exact absurd e2 (this e1)
 ·rw [w, hj] at hi
  exact (Option.some.inj hi).symm
 ·have := List.pairwise_iff_getElem.mp u j i jl il w
  rw [ei, ej] at this
  exact absurd e2.symm (this e1.symm)
def stt (m0 : List (Int × Int)) (rw : List (V × Cll)) : List (Int × Int) := rw.foldl (fun m q => eV m q.2.c q.2.k) m0
def qe (rw : List (V × Cll)) : Option Int := rw.getLast?.map fun q => q.2.c
theorem BR (m0 : List (Int × Int)) (rw : List (V × Cll)) (q : V × Cll) : stt m0 (rw ++ [q]) = eV (stt m0 rw) q.2.c q.2.k := by
 unfold stt
 rw [List.foldl_append]
 rfl
theorem Fx (rw : List (V × Cll)) (q : V × Cll) : qe (rw ++ [q]) = some q.2.c := by
 unfold qe
 simp
section
variable {hs : List Int} {L : Int -> Int -> Option (V × Cll)} {ns : List Nm} {m0 m : List (Int × Int)} {rw : List (V × Cll)} {last : Option Int}
theorem Gf (fw : Fw hs L ns m0 rw last m) : m = stt m0 rw /\ last = qe rw := by
 induction fw with
 | start => exact ⟨rfl, rfl⟩
 | @step rw last m v x f e ih =>
  obtain ⟨e1, e2⟩ := ih
  exact ⟨by rw [BR, ← e1], by rw [Fx]⟩
theorem Vt (fw : Fw hs L ns m0 rw last m) : ∀ i (hi : i < rw.length), fst (frm hs (qe (rw.take i))) L (stt m0 (rw.take i)) (nxo ns (stt m0 (rw.take i))) = some rw[i] := by
 induction fw with
 | start => intro i hi; exact absurd hi (Nat.not_lt_zero _)
 | @step rw last m v x f e ih =>
  intro i hi
  obtain ⟨em, el⟩ := Gf f
  rcases Nat.lt_or_ge i rw.length with w | w
  ·rw [List.take_append_of_le_length (Nat.le_of_lt w), List.getElem_append_left w]
   exact ih i w
  ·have hi2 : i = rw.length := by
    rw [List.length_append, List.length_singleton] at hi
    omega
   subst hi2
   have e1 : (rw ++ [(v, x)]).take rw.length = rw := by simp
   have e2 : (rw ++ [(v, x)])[rw.length] = (v, x) := by simp
   rw [e1, e2, ← em, ← el]
   exact e
end
theorem tE {m m' : List (Int × Int)} (e : ∀ k, ct m' k = ct m k) (x : Cll) (o : Option Nm) : tkb m' x o = tkb m x o := by
 have e1 : ∀ n, cov m' n = cov m n := fun n => by unfold cov; simp only [e]
 unfold tkb frb
 rw [e, e1]
theorem rO {m m' : List (Int × Int)} (e : ∀ k, ct m' k = ct m k) (ns : List Nm) : nxo ns m' = nxo ns m := by
 unfold nxo cvd
 simp only [e]
theorem uO {m m' : List (Int × Int)} (e : ∀ k, ct m' k = ct m k) (rw : List (V × Cll)) : ∀ k, ct (stt m' rw) k = ct (stt m rw) k := by
 induction rw generalizing m m' with
 | nil => exact e
 | cons q rw ih =>
  refine ih (m := eV m q.2.c q.2.k) (m' := eV m' q.2.c q.2.k) fun k => ?_
  rw [qD, qD, e]
def Rot (l : Option Int) (h h' : Int) : Prop := match l with
 | none => h < h'
 | some c => (c <= h /\ (h' < c ∨ h < h')) ∨ (h < c /\ h' < c /\ h < h')
theorem Qj {hs : List Int} (up : hs.Pairwise (· < ·)) (l : Option Int) : (frm hs l).Pairwise (Rot l) := by
 cases l with
 | none => exact up
 | some c =>
  show ((hs.filter fun h => decide (c <= h)) ++ hs.filter fun h => decide (h < c)).Pairwise _
  rw [List.pairwise_append]
  refine ⟨?_, ?_, ?_⟩
  ·refine (List.Pairwise.filter _ up).imp_of_mem fun ha _ w => ?_
   have ha := of_decide_eq_true (List.mem_filter.mp ha).2
   exact .inl ⟨ha, .inr w⟩
  ·refine (List.Pairwise.filter _ up).imp_of_mem fun ha hb w => ?_
   have ha := of_decide_eq_true (List.mem_filter.mp ha).2
   have hb := of_decide_eq_true (List.mem_filter.mp hb).2
   exact .inr ⟨ha, hb, w⟩
  ·intro a ha b hb
   have ha := of_decide_eq_true (List.mem_filter.mp ha).2
   have hb := of_decide_eq_true (List.mem_filter.mp hb).2
   exact .inl ⟨ha, .inl hb⟩
theorem u0 {hs : List Int} {ws : List V} {cs : List Cll} {m : List (Int × Int)} {o : Option Nm} {l : Option Int} {v : V} {x : Cll} (up : hs.Pairwise (· < ·)) (hm : ∀ h, h ∈ hs ↔ ∃ x ∈ cs, x.c = h) (lw : ws.length = cs.length) (u : Rk1 (ws.zip cs)) (h : fst (frm hs l) (LkC (ws.zip cs)) m o = some (v, x)) :
  x ∈ cs /\ tkb m x o = true /\ x.k = ct m x.c + 1 /\ ∀ y ∈ cs, tkb m y o = true -> y.k = ct m y.c + 1 /\ (y.c = x.c ∨ Rot l x.c y.c) := by
 have kk : ∀ y : Cll, tkb m y o = true -> y.k = ct m y.c + 1 := fun y z => by
  unfold tkb frb at z
  rw [Bool.and_eq_true, Bool.and_eq_true] at z
  have := of_decide_eq_true z.1.1
  omega
 obtain ⟨h0, _, e1, e2⟩ := tM h
 obtain ⟨f1, f2, f3⟩ := mL e1
 have xm : x ∈ cs := (List.of_mem_zip f1).2
 refine ⟨xm, e2, kk x e2, fun y hy ty => ⟨kk y ty, ?_⟩⟩
 unfold fst at h
 obtain ⟨l1, a, l2, el, ea, hn⟩ := List.findSome?_eq_some_iff.mp h
 have exa : x.c = a := by
  unfold tk1 at ea
  cases z : LkC (ws.zip cs) a (ct m a + 1) with
  | none => rw [z] at ea; cases ea
  | some q =>
   rw [z] at ea
   have ea : (if tkb m q.2 o = true then some q else none) = some (v, x) := ea
   obtain ⟨_, g2, _⟩ := mL z
   by_cases w : tkb m q.2 o = true
   ·rw [if_pos w] at ea
    cases ea
    exact g2
   ·rw [if_neg w] at ea; cases ea
 obtain ⟨i, hi⟩ := List.getElem?_of_mem hy
 have hil := (List.getElem?_eq_some_iff.mp hi).1
 have hz : (ws[i]'(by omega), y) ∈ ws.zip cs := List.mem_of_getElem? (i := i) (by rw [List.getElem?_zip_eq_some]; exact ⟨List.getElem?_eq_getElem _, hi⟩)
 have ty' : tk1 (LkC (ws.zip cs)) m o y.c = some (ws[i]'(by omega), y) := by
  unfold tk1
  rw [← kk y ty, show LkC (ws.zip cs) y.c y.k = some (ws[i]'(by omega), y) from zN u hz]
  show (if tkb m y o = true then some (ws[i]'(by omega), y) else none) = _
  rw [if_pos ty]
 have ym : y.c ∈ frm hs l := by
  have : y.c ∈ hs := (hm y.c).mpr ⟨y, hy, rfl⟩
  exact HN (last := l) this
 rw [el] at ym
 have pw := Qj up l
 rw [el] at pw
 rcases List.mem_append.mp ym with w | w
 ·rw [hn _ w] at ty'
  cases ty'
 ·rcases List.mem_cons.mp w with w | w
  ·exact .inl (by rw [w, exa])
  ·have := (List.pairwise_cons.mp (List.pairwise_append.mp pw).2.1).1 _ w
   rw [exa]
   exact .inr this
def rkD (x : Cll) : PyData := .tuple [.int x.c, .int x.k]
theorem PL : ∀ cs : List Cll, PyData.canLayAll0 (cs.map rkD) = true
 | [] => rfl
 | p :: ns => by rw [List.map_cons, PyData.canLayAll0.eq_2, PL ns]; rfl
theorem Qi {K : PySem.W.Frag} {H : Hp} {Q : VK} {a b : Addr} {xs : List V} {ds : List PyData} (ha : SqL K H a xs) (hx : Dps K H xs ds) (hl : PyData.canLayAll0 ds = true) (hb : SqL K H b []) (q : Q (.bl (decide (ds = []))) H) : Pg K (.ref a) (.ref b) H Q := by
 refine ⟨.list ds, .list [], .inr ⟨_, _, _, rfl, rfl, ha, hx⟩, .inr ⟨_, _, _, rfl, rfl, hb, .nil⟩, by rw [PyData.canLay0.eq_5]; exact hl, rfl, by have : (PyData.list []).depth = 1 := rfl; omega, ?_⟩
 have e : (PyData.list ds).eqv (.list []) = decide (ds = []) := by
  cases ds with
  | nil => rfl
  | cons d ds => rw [decide_eq_false (by intro z; cases z)]; rfl
 rw [e]
 exact q
theorem Wu (a b c d : Int) : HT.lexLt [a, b] [c, d] = decide (a < c ∨ (a = c /\ b < d)) := by
 have e : HT.lexLt [a, b] [c, d] = if a = c then (if b = d then false else decide (b < d)) else decide (a < c) := rfl
 rw [e]
 by_cases h1 : a = c
 ·rw [if_pos h1]
  by_cases h2 : b = d
  ·rw [if_pos h2, decide_eq_false (by omega)]
  ·rw [if_neg h2]
   by_cases h3 : b < d
   ·rw [decide_eq_true h3, decide_eq_true (by omega)]
   ·rw [decide_eq_false h3, decide_eq_false (by omega)]
 ·rw [if_neg h1]
  by_cases h3 : a < c
  ·rw [decide_eq_true h3, decide_eq_true (by omega)]
  ·rw [decide_eq_false h3, decide_eq_false (by omega)]
theorem O7 {a b c d : Int} (h1 : HT.lexLt [a, b] [c, d] = false) (h2 : HT.lexLt [c, d] [a, b] = false) : a = c /\ b = d := by
 rw [Wu] at h1 h2
 have h1 := of_decide_eq_false h1
 have h2 := of_decide_eq_false h2
 by_cases z : a = c
 ·refine ⟨z, ?_⟩
  by_cases w : b = d
  ·exact w
  ·exfalso
   rcases Int.lt_or_lt_of_ne w with w | w
   ·exact h1 (.inr ⟨z, w⟩)
   ·exact h2 (.inr ⟨z.symm, w⟩)
 ·exfalso
  rcases Int.lt_or_lt_of_ne z with w | w
  ·exact h1 (.inl w)
  ·exact h2 (.inl w)
def Cz (zs : List (V × Cll)) (gs : List Nm) (m : List (Int × Int)) : Prop := ∀ y ∈ zs, tkb m y.2 (nxo gs m) = false
def Stp (zs : List (V × Cll)) (m0 : List (Int × Int)) (row : List (V × Cll)) (gs : List Nm) (q : V × Cll) (gs' : List Nm) : Prop :=
 (gs' = gs /\ q ∈ zs /\ tkb (stt m0 row) q.2 (nxo gs (stt m0 row)) = true /\ ∀ y ∈ zs, tkb (stt m0 row) y.2 (nxo gs (stt m0 row)) = true -> y.2.c = q.2.c ∨ Rot (qe row) q.2.c y.2.c) ∨
 (Cz zs gs (stt m0 row) /\ LaR zs (stt m0 row) (some q) /\ ∃ j, Fo gs (stt m0 row) j /\ gs' = gs.take j ++ [(q.2.n, q.2.c, q.2.k)])
inductive Wk (zs : List (V × Cll)) (m0 : List (Int × Int)) (g0 : List Nm) : List (V × Cll) -> List Nm -> Prop
 | start : Wk zs m0 g0 [] g0
 | step {row : List (V × Cll)} {gs : List Nm} {q : V × Cll} {gs' : List Nm} : Wk zs m0 g0 row gs -> Stp zs m0 row gs q gs' -> Wk zs m0 g0 (row ++ [q]) gs'
theorem Uu {m : List (Int × Int)} {y : Cll} {o : Option Nm} (z : tkb m y o = true) : y.k = ct m y.c + 1 := by
 unfold tkb frb at z
 rw [Bool.and_eq_true, Bool.and_eq_true] at z
 have := of_decide_eq_true z.1.1
 omega
theorem RZ {l : Option Int} {a b : Int} (h1 : Rot l a b) (h2 : Rot l b a) : False := by
 cases l with
 | none =>
  have h1 : a < b := h1
  have h2 : b < a := h2
  omega
 | some c =>
  rcases h1 with ⟨_, _ | _⟩ | ⟨_, _, _⟩ <;> rcases h2 with ⟨_, _ | _⟩ | ⟨_, _, _⟩ <;> omega
theorem RJ {ns : List Nm} {m : List (Int × Int)} {i j : Nat} (h1 : Fo ns m i) (h2 : Fo ns m j) : i = j := by
 obtain ⟨a1, a2, a3⟩ := h1
 obtain ⟨b1, b2, b3⟩ := h2
 rcases Nat.lt_trichotomy i j with w | w | w
 ·exact absurd (b2 i (by omega) w) (a3 (by omega))
 ·exact w
 ·exact absurd (a2 j (by omega) w) (b3 (by omega))
theorem O8 {zs : List (V × Cll)} {m0 : List (Int × Int)} {row : List (V × Cll)} {gs : List Nm} {q q' : V × Cll} {g1 g2 : List Nm} (u : Rk1 zs) (h1 : Stp zs m0 row gs q g1) (h2 : Stp zs m0 row gs q' g2) : q = q' /\ g1 = g2 := by
 rcases h1 with ⟨a1, a2, a3, a4⟩ | ⟨a1, a2, i, a3, a4⟩ <;> rcases h2 with ⟨b1, b2, b3, b4⟩ | ⟨b1, b2, j, b3, b4⟩
 ·have e : q.2.c = q'.2.c := by
   rcases a4 q' b2 b3 with w | w
   ·exact w.symm
   ·rcases b4 q a2 a3 with v | v
    ·exact v
    ·exact (RZ w v).elim
  have k1 := Uu a3
  have k2 := Uu b3
  exact ⟨u q a2 q' b2 e (by rw [k1, k2, e]), by rw [a1, b1]⟩
 ·rw [b1 q a2] at a3; cases a3
 ·rw [a1 q' b2] at b3; cases b3
 ·obtain ⟨c1, c2, c3⟩ := a2
  obtain ⟨d1, d2, d3⟩ := b2
  obtain ⟨e1, e2⟩ := O7 (d3 q c1 c2) (c3 q' d1 d2)
  have e := u q c1 q' d1 e1 e2
  exact ⟨e, by rw [a4, b4, RJ a3 b3, e]⟩
theorem PK {zs zs' : List (V × Cll)} {m0 : List (Int × Int)} {row : List (V × Cll)} {gs : List Nm} {q : V × Cll} {g1 : List Nm} (h : ∀ q, q ∈ zs ↔ q ∈ zs') (s : Stp zs m0 row gs q g1) : Stp zs' m0 row gs q g1 := by
 rcases s with ⟨a1, a2, a3, a4⟩ | ⟨a1, ⟨b1, b2, b3⟩, i, a3, a4⟩
 ·exact .inl ⟨a1, (h q).mp a2, a3, fun y hy => a4 y ((h y).mpr hy)⟩
 ·exact .inr ⟨fun y hy => a1 y ((h y).mpr hy), ⟨(h q).mp b1, b2, fun y hy => b3 y ((h y).mpr hy)⟩, i, a3, a4⟩
theorem R5 {zs zs' : List (V × Cll)} {m0 : List (Int × Int)} {g0 : List Nm} {row : List (V × Cll)} {gs : List Nm} (h : ∀ q, q ∈ zs ↔ q ∈ zs') (w : Wk zs m0 g0 row gs) : Wk zs' m0 g0 row gs := by
 induction w with
 | start => exact .start
 | step _ s ih => exact .step ih (PK h s)
theorem N6 {zs : List (V × Cll)} {m0 : List (Int × Int)} {g0 : List Nm} {r : List (V × Cll)} {gs : List Nm} (w : Wk zs m0 g0 r gs) : (r = [] /\ gs = g0) ∨ ∃ row q g1, r = row ++ [q] /\ Wk zs m0 g0 row g1 /\ Stp zs m0 row g1 q gs := by
 cases w with
 | start => exact .inl ⟨rfl, rfl⟩
 | step a b => exact .inr ⟨_, _, _, rfl, a, b⟩
theorem zV {zs : List (V × Cll)} {m0 : List (Int × Int)} {g0 : List Nm} (u : Rk1 zs) : ∀ {r r' : List (V × Cll)} {gs gs' : List Nm}, Wk zs m0 g0 r gs -> Wk zs m0 g0 r' gs' -> r.length = r'.length -> r = r' /\ gs = gs' := by
 intro r r' gs gs' w
 induction w generalizing r' gs' with
 | start =>
  intro w' e
  rcases N6 w' with ⟨rfl, rfl⟩ | ⟨row, q, g1, rfl, _, _⟩
  ·exact ⟨rfl, rfl⟩
  ·rw [List.length_append, List.length_singleton, List.length_nil] at e; omega
 | @step row gs q gs1 _ s ih =>
  intro w' e
  rcases N6 w' with ⟨rfl, rfl⟩ | ⟨row', q', g1, rfl, w2, s2⟩
  ·rw [List.length_append, List.length_singleton, List.length_nil] at e; omega
  ·rw [List.length_append, List.length_append, List.length_singleton, List.length_singleton] at e
   obtain ⟨rfl, rfl⟩ := ih w2 (by omega)
   obtain ⟨rfl, rfl⟩ := O8 u s s2
   exact ⟨rfl, rfl⟩
theorem NT {zs : List (V × Cll)} {m0 : List (Int × Int)} {g0 : List Nm} {r : List (V × Cll)} {gs : List Nm} (w : Wk zs m0 g0 r gs) : ∀ i (hi : i < r.length), ∃ g1 g2, Wk zs m0 g0 (r.take i) g1 /\ Stp zs m0 (r.take i) g1 r[i] g2 /\ Wk zs m0 g0 (r.take (i + 1)) g2 := by
 induction w with
 | start => intro i hi; exact absurd hi (Nat.not_lt_zero _)
 | @step row gs q gs1 a s ih =>
  intro i hi
  rcases Nat.lt_or_ge i row.length with w | w
  ·obtain ⟨g1, g2, x1, x2, x3⟩ := ih i w
   rw [List.take_append_of_le_length (Nat.le_of_lt w), List.getElem_append_left w, List.take_append_of_le_length (by omega)]
   exact ⟨g1, g2, x1, x2, x3⟩
  ·have hi2 : i = row.length := by
    rw [List.length_append, List.length_singleton] at hi
    omega
   subst hi2
   have e1 : (row ++ [q]).take row.length = row := by simp
   have e2 : (row ++ [q])[row.length] = q := by simp
   have e3 : (row ++ [q]).take (row.length + 1) = row ++ [q] := by rw [List.take_of_length_le]; rw [List.length_append, List.length_singleton]; exact Nat.le_refl _
   rw [e1, e2, e3]
   exact ⟨gs, gs1, a, s, .step a s⟩
theorem Qd {zs : List (V × Cll)} {m0 : List (Int × Int)} {g0 : List Nm} {r r' : List (V × Cll)} {gs gs' : List Nm} (u : Rk1 zs) (w : Wk zs m0 g0 r gs) (c : Cz zs gs (stt m0 r)) (n : LaR zs (stt m0 r) none) (w' : Wk zs m0 g0 r' gs') (c' : Cz zs gs' (stt m0 r')) (n' : LaR zs (stt m0 r') none) : r = r' /\ gs = gs' := by
 have no : ∀ {r gs q g2}, Cz zs gs (stt m0 r) -> LaR zs (stt m0 r) none -> Stp zs m0 r gs q g2 -> False := fun {r gs q g2} c n s => by
  rcases s with ⟨_, a2, a3, _⟩ | ⟨_, ⟨b1, b2, _⟩, _⟩
  ·rw [c q a2] at a3; cases a3
  ·have n : ∀ q ∈ zs, mj (stt m0 r) q.2 = false := n
   rw [n q b1] at b2; cases b2
 rcases Nat.lt_trichotomy r.length r'.length with z | z | z
 ·exfalso
  obtain ⟨g1, g2, x1, x2, _⟩ := NT w' r.length z
  obtain ⟨e1, e2⟩ := zV u w x1 (by rw [List.length_take]; omega)
  rw [← e1, ← e2] at x2
  exact no c n x2
 ·exact zV u w w' z
 ·exfalso
  obtain ⟨g1, g2, x1, x2, _⟩ := NT w r'.length z
  obtain ⟨e1, e2⟩ := zV u w' x1 (by rw [List.length_take]; omega)
  rw [← e1, ← e2] at x2
  exact no c' n' x2
theorem Ax (M : List (Int × Int)) (a b : List (V × Cll)) : stt M (a ++ b) = stt (stt M a) b := by
 unfold stt
 rw [List.foldl_append]
theorem Ju {a b : List (V × Cll)} (h : b ≠ []) : qe (a ++ b) = qe b := by
 unfold qe
 rw [← List.dropLast_concat_getLast h, ← List.append_assoc]
 simp
theorem Q6 {hs : List Int} {ws : List V} {cs : List Cll} {gs : List Nm} {m0 m' : List (Int × Int)} {rw : List (V × Cll)} {last : Option Int} (ho : HsO cs hs) (lw : ws.length = cs.length) (u : Rk1 (ws.zip cs)) (fw : Fw hs (LkC (ws.zip cs)) gs m0 rw last m') (row : List (V × Cll)) (M : List (Int × Int)) (g : List Nm) (e0 : ∀ k, ct (stt M row) k = ct m0 k) (hd : ∀ r0, rw.head? = some r0 -> Wk (ws.zip cs) M g (row ++ [r0]) gs) : rw = [] ∨ Wk (ws.zip cs) M g (row ++ rw) gs := by
 induction fw with
 | start => exact .inl rfl
 | @step rw last m v x f e ih =>
  right
  obtain ⟨em, el⟩ := Gf f
  by_cases z : rw = []
  ·subst z
   exact hd (v, x) rfl
  ·have ih := ih fun r0 h0 => hd r0 (by rw [List.head?_append, h0]; rfl)
   rcases ih with w | w
   ·exact absurd w z
   ·rw [← List.append_assoc]
    refine .step w (.inl ⟨rfl, ?_, ?_, ?_⟩)
    ·obtain ⟨h, _, e1, _⟩ := tM e
     exact (mL e1).1
    ·have ee : ∀ k, ct (stt M (row ++ rw)) k = ct m k := fun k => by rw [Ax, em]; exact uO e0 rw k
     obtain ⟨_, a2, _, _⟩ := u0 ho.1 ho.2 lw u e
     rw [tE ee, rO ee]
     exact a2
    ·intro y hy ty
     have ee : ∀ k, ct (stt M (row ++ rw)) k = ct m k := fun k => by rw [Ax, em]; exact uO e0 rw k
     obtain ⟨_, _, _, a4⟩ := u0 ho.1 ho.2 lw u e
     rw [tE ee, rO ee] at ty
     rw [Ju z, ← el]
     exact (a4 y.2 (List.of_mem_zip hy).2 ty).2
theorem Ib {ws : List V} {cs : List Cll} {gs : List Nm} {m m' : List (Int × Int)} {rw : List (V × Cll)} (u : Rk1 (ws.zip cs)) (lw : ws.length = cs.length) (h : Rn ws cs m gs rw m') (r0 : V × Cll) (hr : rw.head? = some r0) : r0 ∈ ws.zip cs /\ tkb m r0.2 (nxo gs m) = true /\ ∀ y ∈ ws.zip cs, tkb m y.2 (nxo gs m) = true -> y.2.c = r0.2.c ∨ Rot none r0.2.c y.2.c := by
 obtain ⟨hs, m0, last, ho, _, e, f, g⟩ := h
 have l0 : 0 < rw.length := by
  cases rw with
  | nil => cases hr
  | cons a b => rw [List.length_cons]; omega
 have h0 := Vt f 0 l0
 have e0 : rw[0] = r0 := by
  cases rw with
  | nil => cases hr
  | cons a b => exact Option.some.inj hr
 rw [e0] at h0
 have h0 : fst (frm hs none) (LkC (ws.zip cs)) m0 (nxo gs m0) = some (r0.1, r0.2) := h0
 obtain ⟨_, a2, _, a4⟩ := u0 ho.1 ho.2 lw u h0
 obtain ⟨h, _, e1, _⟩ := tM h0
 refine ⟨(mL e1).1, ?_, fun y hy ty => ?_⟩
 ·rw [← tE e, ← rO e]; exact a2
 ·rw [← tE e, ← rO e] at ty
  exact (a4 y.2 (List.of_mem_zip hy).2 ty).2
theorem Mz {ws : List V} {cs : List Cll} {gs : List Nm} {m m' : List (Int × Int)} {rw : List (V × Cll)} (u : Rk1 (ws.zip cs)) (lw : ws.length = cs.length) (h : Rn ws cs m gs rw m') : (∀ k, ct (stt m rw) k = ct m' k) /\ Cz (ws.zip cs) gs m' := by
 obtain ⟨hs, m0, last, ho, _, e, f, g⟩ := h
 refine ⟨fun k => by rw [(Gf f).1]; exact (uO e rw k).symm, fun y hy => RQ ho.2 u lw g y.2 (List.of_mem_zip hy).2⟩
theorem HS {zs : List (V × Cll)} {gs : List Nm} {m m' : List (Int × Int)} (e : ∀ k, ct m' k = ct m k) (h : Cz zs gs m) : Cz zs gs m' := fun y hy => by
 rw [tE e, rO e]
 exact h y hy
theorem Af {zs : List (V × Cll)} {m m' : List (Int × Int)} (e : ∀ k, ct m' k = ct m k) {o : Option (V × Cll)} (h : LaR zs m o) : LaR zs m' o := by
 cases o with
 | none =>
  intro q hq
  rw [wF e]
  exact h q hq
 | some q =>
  obtain ⟨a, b, c⟩ := h
  exact ⟨a, by rw [wF e]; exact b, fun y hy ty => c y hy (by rw [wF e] at ty; exact ty)⟩
theorem QQ {ns : List Nm} {m m' : List (Int × Int)} {j : Nat} (e : ∀ k, ct m' k = ct m k) (h : Fo ns m j) : Fo ns m' j := by
 obtain ⟨a, b, c⟩ := h
 exact ⟨a, fun k hk hj => by unfold cvd; rw [e]; exact b k hk hj, fun hj => by unfold cvd; rw [e]; exact c hj⟩
theorem HF {ws : List V} {cs : List Cll} {m : List (Int × Int)} {ns : List Nm} {row : List (V × Cll)} {gs : List Nm} {m' : List (Int × Int)} (u : Rk1 (ws.zip cs)) (lw : ws.length = cs.length) (h : Pw ws cs m ns row gs m') : Wk (ws.zip cs) m ns row gs /\ (∀ k, ct (stt m row) k = ct m' k) /\ Cz (ws.zip cs) gs m' := by
 induction h with
 | @start rw m' rn =>
  obtain ⟨z1, z2⟩ := Mz u lw rn
  refine ⟨?_, z1, z2⟩
  have hd := Ib u lw rn
  obtain ⟨hs, m0, last, ho, _, e, f, g⟩ := rn
  have := Q6 ho lw u f [] m ns (fun k => (e k).symm) fun r0 hr => by
   obtain ⟨a1, a2, a3⟩ := hd r0 hr
   exact .step .start (.inl ⟨rfl, a1, a2, a3⟩)
  rcases this with w | w
  ·rw [w]; exact .start
  ·exact w
 | @step row rw gs m1 m2 q j _ la fo rn ih =>
  obtain ⟨i1, i2, i3⟩ := ih
  obtain ⟨z1, z2⟩ := Mz u lw rn
  have hd := Ib u lw rn
  have l0 := Ii u la fo rn
  have cz : Cz (ws.zip cs) gs (stt m row) := HS i2 i3
  have la' := Af i2 la
  have fo' := QQ i2 fo
  have ask1 : Wk (ws.zip cs) m ns (row ++ [q]) (gs.take j ++ [(q.2.n, q.2.c, q.2.k)]) := .step i1 (.inr ⟨cz, la', j, fo', rfl⟩)
  have hq : ∀ r0, rw.head? = some r0 -> r0 = q := fun r0 hr => by
   obtain ⟨a1, a2, _⟩ := hd r0 hr
   obtain ⟨b1, b2, _⟩ := la
   rw [HH fo.2.1 fo.1 (by show ¬ q.2.k <= ct m1 q.2.c; have := (xK b2).2; omega)] at a2
   by_cases w : r0.2.kd = "one"
   ·unfold tkb at a2
    rw [decide_eq_true w, Bool.and_eq_true] at a2
    have a3 := of_decide_eq_true (by simpa using a2.2 : decide (some (q.2.n, q.2.c, q.2.k) = some (r0.2.n, r0.2.c, r0.2.k)) = true)
    have a4 := Option.some.inj a3
    have c1 : q.2.c = r0.2.c := congrArg (fun p : Nm => p.2.1) a4
    have c2 : q.2.k = r0.2.k := congrArg (fun p : Nm => p.2.2) a4
    exact u r0 a1 q b1 c1.symm c2.symm
   ·exfalso
    have := i3 r0 a1
    unfold tkb at this a2
    rw [decide_eq_false w] at this a2
    simp at this a2
    rw [a2] at this
    cases this
  obtain ⟨hs, m0, last, ho, _, e, f, g⟩ := rn
  have := Q6 ho lw u f row m ns (fun k => by rw [i2, e]) fun r0 hr => by
   rw [hq r0 hr]
   exact ask1
  refine ⟨?_, fun k => ?_, z2⟩
  ·rcases this with w | w
   ·rw [w] at l0; exact absurd l0 (Nat.lt_irrefl _)
   ·exact w
  ·rw [Ax, ← z1]
   exact uO i2 rw k
theorem QM {zs : List (V × Cll)} {m0 : List (Int × Int)} {g0 : List Nm} {r : List (V × Cll)} {gs : List Nm} (w : Wk zs m0 g0 r gs) : ∀ q ∈ r, q ∈ zs := by
 induction w with
 | start => intro q hq; cases hq
 | @step row gs q gs1 a s ih =>
  intro y hy
  rcases List.mem_append.mp hy with w | w
  ·exact ih y w
  ·rw [List.mem_singleton.mp w]
   rcases s with ⟨_, a, _⟩ | ⟨_, ⟨a, _⟩, _⟩ <;> exact a
theorem Lg {ws : List V} {cs : List Cll} {m0 : List (Int × Int)} {g0 : List Nm} {r : List (V × Cll)} {gs : List Nm} (w : Wk (ws.zip cs) m0 g0 r gs) : r.length + mz cs (stt m0 r) <= cs.length := by
 induction w with
 | start =>
  have := List.length_filter_le (fun q : Cll => decide (ct m0 q.c < q.k)) cs
  show 0 + mz cs m0 <= _
  unfold mz
  omega
 | @step row gs q gs1 a s ih =>
  have qm : q.2 ∈ cs /\ q.2.k = ct (stt m0 row) q.2.c + 1 := by
   rcases s with ⟨_, a, b, _⟩ | ⟨_, ⟨a, b, _⟩, _⟩
   ·exact ⟨(List.of_mem_zip a).2, Uu b⟩
   ·exact ⟨(List.of_mem_zip a).2, by have := (xK b).2; omega⟩
  have := K5 qm.1 qm.2
  rw [BR, List.length_append, List.length_singleton]
  omega
theorem wD : ∀ cs : List Cll, PyData.depthAll (cs.map tlD) <= 50
 | [] => by rw [List.map_nil, PyData.depthAll.eq_1]; omega
 | p :: ps => by
  have e : PyData.depthAll ((p :: ps).map tlD) = max (tlD p).depth (PyData.depthAll (ps.map tlD)) := rfl
  rw [e]
  have := wD ps
  have := Ob p
  omega
theorem K9 {K : PySem.W.Frag} {H : Hp} {a : Addr} {vs : List V} {cs : List Cll} (h : H a = some (.lst vs)) (t : Tls H vs cs) : Dl K H (.ref a) (.list (cs.map tlD)) := .inr ⟨_, _, _, rfl, rfl, SqL.of h, Tls.dps t⟩
theorem Kl {cs : List Cll} (h : ∀ x ∈ cs, Wf x) : (PyData.list (cs.map tlD)).canLay0 = true := by rw [PyData.canLay0.eq_5]; exact wz h
theorem Nb (cs : List Cll) : (PyData.list (cs.map tlD)).depth <= 60 := by
 have e : (PyData.list (cs.map tlD)).depth = PyData.depthAll (cs.map tlD) + 1 := rfl
 have := wD cs
 rw [e]
 omega
end
end K52
namespace K52
open PySem L2
abbrev nj : Stmt := top 14
abbrev nJ : Stmt := top 15
abbrev lL : Stmt := top 24
abbrev lM : Stmt := top 36
abbrev iU : Stmt := top 37
section
variable {P : Program} {w : World} {K : PySem.W.Frag} {mg : Str -> Option Value} {base : Heap}
def qZ (K : PySem.W.Frag) : Sp := fun vs H Q _ => ∃ h : Int, vs = [.int h] /\ 0 <= h /\ h <= 1000 /\ Q (.int (2 ^ h.toNat)) H
theorem Je : FnScope ["hand"] ["hand"] (ao nj) := ⟨rfl, rfl, rfl, by decide +kernel, rfl, by decide +kernel, by decide +kernel⟩
theorem Js {f  : Addr} {fd  : FuncData} (F : Fun K "bit_of" "bit_of" nj f fd) : FnOk P w K mg base CX0 1 f fd ["hand"] (qZ K) := by
 refine F.ok Je (fun vs H Q E h => ?_) (fun cdv A outer s H vs Q E hr h => ?_)
 ·obtain ⟨x, rfl, _⟩ := h
  rfl
 obtain ⟨x, rfl, h⟩ := h
 have hu64 := hr.units
 have hu0 := hr.units0
 have hu := bH hr
 refine ⟨_, (aD (aW (BK (bI Hm (pv 0) aA (bM _)) (aV An aA (pv 0)) aA))), ?_⟩
 obtain ⟨h0, h1, k⟩ := h
 refine ⟨_, rfl, _, _, rfl, rfl, _, rfl, ?_⟩
 rw [decide_eq_true (show (0 : Int) <= x from h0)]
 refine Vj ⟨_, rfl, _, _, rfl, rfl, ⟨h0, by omega, by decide⟩, ?_⟩
 show Q (.int (1 * 2 ^ x.toNat)) H
 rw [Int.one_mul]
 exact k
def orN (hs : List Int) : Nat := hs.foldl (fun s h => s ||| 2 ^ h.toNat) 0
theorem BW (hs : List Int) (h : Int) : orN (hs ++ [h]) = orN hs ||| 2 ^ h.toNat := by
 unfold orN
 rw [List.foldl_append]
 rfl
theorem p2c (n : Nat) : ((2 : Int) ^ n) = (((2 : Nat) ^ n : Nat) : Int) := by
 induction n with
 | zero => rfl
 | succ n ih => rw [Int.pow_succ, ih, Nat.pow_succ]; omega
theorem or_int (a b : Nat) : Builtin.bitOr (a : Int) (b : Int) = ((a ||| b : Nat) : Int) := by
 rw [Lh (Int.natCast_nonneg _) (Int.natCast_nonneg _), Int.toNat_natCast, Int.toNat_natCast]
def uL (K : PySem.W.Frag) : Sp := fun vs H Q _ => ∃ a : Addr, vs = [.ref a] /\ ∃ hs : List Int, SqL K H a (hs.map V.int) /\ (∀ h ∈ hs, 0 <= h /\ h < 63) /\ Q (.int (orN hs : Nat)) H
theorem sc_set_of : FnScope ["some", "hands", "hand"] ["some"] (ao nJ) := ⟨rfl, rfl, rfl, by decide +kernel, rfl, by decide +kernel, by decide +kernel⟩
theorem Ja {f pZ : Addr} {fd nM : FuncData} (F : Fun K "set_of" "set_of" nJ f fd)
  (yq : FnOk P w K mg base CX0 1 pZ nM ["hand"] (qZ K)) (wL : Cal K mg "bit_of" pZ nM ["hand"]) : FnOk P w K mg base CX0 2 f fd ["some"] (uL K) := by
 refine F.ok sc_set_of (fun vs H Q E h => ?_) (fun cdv A outer s H vs Q E hr h => ?_)
 ·obtain ⟨a, rfl, _⟩ := h
  rfl
 obtain ⟨a, rfl, h⟩ := h
 have hu64 := hr.units
 have hu0 := hr.units0
 have hu := bH hr
 refine ⟨_, (aq (aO (i := 1) sc_set_of.nd rfl (Or.inl rfl) aA)
   (aq (iD PassesOwn.never rfl (bx (K := K) rfl (pv 0)) (aZ (i := 2) sc_set_of.nd rfl (Or.inl rfl))
   (aD (aO (i := 1) sc_set_of.nd rfl (Or.inl rfl) (aV zy (pv 1) (bc yq wL hr (aa (pv 2) ak))))))
   (aD (aW (pv 1))))), ?_⟩
 obtain ⟨hs, hS, rg, k⟩ := h
 clean_wf
 refine jZ (xs := hs.map V.int) (fun i σ A => A = H /\ ∃ v, σ = [some (.ref a), some (.int (orN (hs.take i) : Nat)), v]) ⟨rfl, none, rfl⟩ (fun i σ A _ z => by rw [z.1]; exact hS) ?_ ?_
 ·rintro i x σ A hx ⟨rfl, v, rfl⟩
  obtain ⟨n, hn, rfl⟩ := iw hx
  obtain ⟨n0, n1⟩ := rg n (List.mem_of_getElem? hn)
  clean_wf
  refine ⟨n, rfl, n0, by omega, ?_⟩
  clean_wf
  refine ⟨rfl, some (.int n), ?_⟩
  rw [p2c, or_int, ← BW, ← bf hn]
  rfl
 ·rintro σ A ⟨rfl, v, rfl⟩
  rw [List.length_map, List.take_length]
  clean_wf
  exact k
def oO (K : PySem.W.Frag) (mg : Str -> Option Value) : Sp := fun vs H Q _ => ∃ (v : V), vs = [v] /\ ∃ x, TldA H v x /\ Wf x /\ ∀ H' p, Same H H' -> H p = none -> CllA K mg H' (.ref p) x -> Q (.ref p) H'
theorem Gs : FnScope ["told"] ["told"] (ao lL) := ⟨rfl, rfl, rfl, by decide +kernel, rfl, by decide +kernel, by decide +kernel⟩
theorem Ha {f vp aj au az : Addr} {fd tW : FuncData} (F : Fun K "call_of" "call_of" lL f fd)
  (Ei : FnOk P w K mg base CX0 4 vp tW ["number", "caller", "count", "kind", "word", "causes"] (oM K mg)) (Dt : Cal K mg "make_call" vp tW ["number", "caller", "count", "kind", "word", "causes"]) (aF : TCall K aj) (aN : TCall K au) (aM : TCall K az) (aG : mg "HeardCall" = some (.ref aj)) (aP : mg "OneCall" = some (.ref au)) (aU : mg "OwnCall" = some (.ref az)) : FnOk P w K mg base CX0 5 f fd ["told"] (oO K mg) := by
 refine F.ok Gs (fun vs H Q E h => ?_) (fun cdv A outer s H vs Q E hr h => ?_)
 ·obtain ⟨v, rfl, _⟩ := h
  rfl
 obtain ⟨v, rfl, h⟩ := h
 have hu64 := hr.units
 have hu0 := hr.units0
 have hu := bH hr
 refine ⟨_, (aD (aW (bc Ei Dt hr (aa (aX (aY (K := K) rfl) (pv 0) aA (fun _ _ => rfl)) (aa (aX (aY (K := K) rfl) (pv 0) aA (fun _ _ => rfl)) (aa (aX (aY (K := K) rfl) (pv 0) aA (fun _ _ => rfl)) (aa (aX (aY (K := K) rfl) (pv 0) aA (fun _ _ => rfl)) (aa (aX (aY (K := K) rfl) (pv 0) aA (fun _ _ => rfl)) (aa (aX (aY (K := K) rfl) (pv 0) aA (fun _ _ => rfl)) ak))))))))), ?_⟩
 obtain ⟨x, ⟨ta, tt, yy, rfl, h1, h2, h3⟩, wx, kk⟩ := h
 have st : SqT K H ta [.int x.n, .int x.c, .int x.k, .str x.kd, .int x.w, .ref tt] := SqT.of h1
 clean_wf
 refine ⟨x.n, x.c, x.k, x.kd, x.w, tt, rfl, yy, wx.kd, wx.w, h2, fun A1 p C dx t' t1 hp kdc tc g1' gt' => ?_⟩
 refine kk A1 p t1 hp ⟨p, C, dx, t', _, rfl, kdc, tc, g1', gt', ?_, wx.cs⟩
 by_cases z : x.kd = "own"
 ·rw [if_pos z, wx.ow z]; exact .nil
 ·rw [if_neg z]; exact h3.mono (SmH.same t1)
theorem qG {m : List (Int × Int)} (c : Ck m) : m.length < 64 := by
 have := qJ c.nd (fun k hk => by obtain ⟨p, hp, e⟩ := List.mem_map.mp hk; rw [← e]; exact c.rg p hp)
 rw [List.length_map] at this
 exact this
theorem O6 {m : List (Int × Int)} (t : Td m) : ig m = m := by
 unfold ig
 exact List.filter_eq_self.mpr fun p hp => decide_eq_true (t.ps p hp)
abbrev Rp := Int × List (Int × Int) × List Nm × Bool × List Cll
def RpA (H : Hp) (x : V) (r : Rp) : Prop := ∃ t u c w xs ys, x = .ref t /\ H t = some (.tup [.int r.1, .ref u, .ref c, .ref w, .bl r.2.2.2.1]) /\ H u = some (.tup xs) /\ Prs H xs r.2.1 /\ (∃ zs, H c = some (.tup zs) /\ Tls H zs r.2.2.2.2) /\ H w = some (.tup ys) /\ Nms H ys r.2.2.1
abbrev RpV (H : Hp) : List V -> List Rp -> Prop := Paired (RpA H)
theorem RpA.up {H H' : Hp} (s : SmH H H') {x : V} {r : Rp} (h : RpA H x r) : RpA H' x r := by
 obtain ⟨t, u, c, w, xs, ys, e1, e2, e3, e4, ⟨zs, z1, z2⟩, e6, e7⟩ := h
 exact ⟨t, u, c, w, xs, ys, e1, s _ _ e2, s _ _ e3, e4.mono s, ⟨zs, s _ _ z1, fY s z2⟩, s _ _ e6, e7.up s⟩
theorem iG {H H' : Hp} (s : SmH H H') {xs : List V} {rs : List Rp} (h : RpV H xs rs) : RpV H' xs rs := Paired.mapP h fun _ _ z => z.up s
def mxl (rs : List Rp) (k : Int) : Int := rs.foldl (fun c r => max c (ct r.2.1 k)) 0
theorem J9 (rs : List Rp) (r : Rp) (k : Int) : mxl (rs ++ [r]) k = max (mxl rs k) (ct r.2.1 k) := by
 unfold mxl
 rw [List.foldl_append]
 rfl
def oH (K : PySem.W.Frag) : Sp := fun vs H Q _ => ∃ (a : Addr), vs = [.ref a] /\ ∃ xs rs, SqL K H a xs /\ RpV H xs rs /\ (∀ r ∈ rs, Td r.2.1) /\ ∀ H' d m, Same H H' -> H d = none -> H' d = some (.dK (dI m)) -> Td m -> (∀ k, ct m k = mxl rs k) -> Q (.ref d) H'
theorem sc_base_of : FnScope ["reports", "base", "report"] ["reports"] (ao lM) := ⟨rfl, rfl, rfl, by decide +kernel, rfl, by decide +kernel, by decide +kernel⟩
theorem G6 {f fQ p6 : Addr} {fd eN nH : FuncData} (F : Fun K "base_of" "base_of" lM f fd)
  (lR : FnOk P w K mg base CX0 2 fQ eN ["pairs"] (jW K)) (lW : Cal K mg "unpacked" fQ eN ["pairs"])
  (yc : FnOk P w K mg base CX0 2 p6 nH ["one", "other"] (qX K)) (yf : Cal K mg "joined" p6 nH ["one", "other"]) : FnOk P w K mg base CX0 3 f fd ["reports"] (oH K) := by
 refine F.ok sc_base_of (fun vs H Q E h => ?_) (fun cdv A outer s H vs Q E hr h => ?_)
 ·obtain ⟨a, rfl, _⟩ := h
  rfl
 obtain ⟨a, rfl, h⟩ := h
 have hu64 := hr.units
 have hu0 := hr.units0
 have hu := bH hr
 refine ⟨_, (aq (aO (i := 1) sc_base_of.nd rfl (Or.inl rfl) nu)
   (aq (iD PassesOwn.never rfl (bx (K := K) rfl (pv 0)) (aZ (i := 2) sc_base_of.nd rfl (Or.inl rfl))
   (aD (aO (i := 1) sc_base_of.nd rfl (Or.inl rfl) (bc yc yf hr (aa (pv 1) (aa (bc lR lW hr (aa (aX (aY (K := K) rfl) (pv 2) aA (fun _ _ => rfl)) ak)) ak))))))
   (aD (aW (pv 1))))), ?_⟩
 obtain ⟨xs, rs, hS, hx, ht, k⟩ := h
 have lx : xs.length = rs.length := Paired.length hx
 clean_wf
 intro d H1 hd s1 g1
 have hS1 := s1.seq hS
 clean_wf
 refine jZ (xs := xs) (fun i σ A => ∃ v2 d m, σ = [some (.ref a), some (.ref d), v2] /\ Same H A /\ H d = none /\ A d = some (.dK (dI m)) /\ Td m /\ ∀ k, ct m k = mxl (rs.take i) k) ⟨none, d, [], rfl, s1, hd, g1, Td.nil, fun k => rfl⟩ (fun i σ A _ z => by obtain ⟨_, _, _, _, z, _⟩ := z; exact z.seq hS) ?_ ?_
 ·rintro i x σ A hxi ⟨v2, d, m, rfl, sA, hd, gd, tm, cm⟩
  obtain ⟨r, hr, t, u, c, w, ps, ys, rfl, e1, e2, e3, e4, e5, e6⟩ := bC hx hxi
  have f1 := SqT.of (K := K) (sA _ _ e1)
  have a1 : atI [V.int r.1, .ref u, .ref c, .ref w, .bl r.2.2.2.1] 1 = some (.ref u) := by kernel_rfl
  have tr := ht r (List.mem_of_getElem? hr)
  clean_wf
  refine ⟨u, ps, r.2.1, rfl, .inr (SqT.of (sA _ _ e2)), e3.mono fun a xs z => sA _ _ z, by have := qG tr.toCk; omega, tr.nd, fun A1 q s1' hq g1' => ?_⟩
  rw [O6 tr] at g1'
  clean_wf
  refine ⟨d, q, m, r.2.1, rfl, .inl (s1' _ _ gd), .inl g1', tm.toCk, tr.toCk, fun A2 q2 j s2 hq2 g2 tj mx => ?_⟩
  refine ⟨_, q2, j, rfl, sA.trans (s1'.trans s2), (sA.trans s1').free hq2, g2, tj, fun k => ?_⟩
  rw [bf hr, J9, ← cm k]
  exact za (mx k)
 rintro σ A ⟨v2, d, m, rfl, sA, hd, gd, tm, cm⟩
 rw [lx, List.take_length] at cm
 clean_wf
 exact k A d m sA hd gd tm cm
def fl1 : List (List Nm) -> List Nm
 | [] => []
 | x :: xs => if (fl1 xs).length <= x.length then x else fl1 xs
theorem z6 : ∀ {xs : List (List Nm)} {n : Nat}, (∀ x ∈ xs, x.length <= n) -> (fl1 xs).length <= n
 | [], _, _ => Nat.zero_le _
 | x :: xs, n, h => by
  unfold fl1
  by_cases z : (fl1 xs).length <= x.length
  ·rw [if_pos z]; exact h x List.mem_cons_self
  ·rw [if_neg z]; exact z6 fun y hy => h y (List.mem_cons_of_mem _ hy)
theorem Nv : ∀ {xs : List (List Nm)} {i : Nat} {x : List Nm}, xs[i]? = some x -> (∀ j m, (xs.map List.length)[j]? = some m -> m <= x.length /\ (j < i -> m < x.length)) -> fl1 xs = x
 | [], _, _, e, _ => by simp at e
 | y :: xs, 0, x, e, h => by
  have e : y = x := by simpa using e
  subst e
  unfold fl1
  rw [if_pos]
  refine z6 fun z hz => ?_
  obtain ⟨j, hj⟩ := List.getElem?_of_mem hz
  exact (h (j + 1) z.length (by rw [List.map_cons, List.getElem?_cons_succ, List.getElem?_map, hj]; rfl)).1
 | y :: xs, i + 1, x, e, h => by
  have ih := Nv (xs := xs) (i := i) (x := x) (by simpa using e) fun j m hm => by
   have := h (j + 1) m (by rw [List.map_cons, List.getElem?_cons_succ]; exact hm)
   exact ⟨this.1, fun w => this.2 (by omega)⟩
  have h0 := (h 0 y.length rfl).2 (by omega)
  unfold fl1
  rw [ih, if_neg (by omega)]
abbrev PLs (H : Hp) : List V -> List (List Nm) -> Prop := Paired fun v nm => ∃ w ys, v = .ref w /\ H w = some (.tup ys) /\ Nms H ys nm
theorem Le {H H' : Hp} (s : SmH H H') {xs : List V} {ns : List (List Nm)} (h : PLs H xs ns) : PLs H' xs ns := Paired.mapP h fun _ _ ⟨w, ys, e1, e2, e3⟩ => ⟨w, ys, e1, s _ _ e2, e3.up s⟩
theorem Hu {K : PySem.W.Frag} {H : Hp} : ∀ {xs : List V} {ns : List (List Nm)}, PLs H xs ns -> TLs K H xs (ns.map List.length)
 | _, _, .nil => .nil
 | _, _, .cons ⟨w, ys, e1, e2, e3⟩ t => .cons ⟨w, ys, e1, SqT.of e2, e3.len⟩ (Hu t)
def lg (K : PySem.W.Frag) : Sp := fun vs H Q _ => ∃ (a : Addr), vs = [.ref a] /\ ∃ xs rs, SqL K H a xs /\ RpV H xs rs /\ rs.length <= 64 /\ ∀ H' w ys, Same H H' -> H' w = some (.tup ys) -> Nms H' ys (fl1 (rs.map (·.2.2.1))) -> Q (.ref w) H'
theorem Aw : FnScope ["reports"] ["reports"] (ao iU) := ⟨rfl, rfl, rfl, by decide +kernel, rfl, by decide +kernel, by decide +kernel⟩
theorem Bf {f  : Addr} {fd  : FuncData} (F : Fun K "places_of" "places_of" iU f fd) (jC : mg "len" = none) (Lx : mg "max" = none) (iC : mg "tuple" = none) : FnOk P w K mg base CX0 1 f fd ["reports"] (lg K) := by
 refine F.ok Aw (fun vs H Q E h => ?_) (fun cdv A outer s H vs Q E hr h => ?_)
 ·obtain ⟨a, rfl, _⟩ := h
  rfl
 obtain ⟨a, rfl, h⟩ := h
 have hu64 := hr.units
 have hu0 := hr.units0
 have hu := bH hr
 refine ⟨_, (aD (aW (bR (iZ (K := K) rfl) (by rfl) iC PyProof.Rows.boot_tuple (aa (Jl (K := K) rfl rfl (aa (cI ["report"] [none] rfl rfl (by kernel_rfl) (bx (K := K) rfl (pv 0)) (fun _ _ _ _ _ nd => aZ (i := 0) nd rfl (Or.inl rfl)) (fun _ _ _ _ _ => fM) (fun _ _ _ _ _ => (aX (aY (K := K) rfl) (pv 0) aA (fun _ _ => rfl)))) ak) (dF ak) (by rfl) Lx (by rfl) jC) ak)))), ?_⟩
 obtain ⟨xs, rs, hS, hx, hl, k⟩ := h
 have lx : xs.length = rs.length := Paired.length hx
 clean_wf
 intro E hE
 refine bJ (K := K) (a := a) (xs := xs) (fun i σ A => ∃ v zs, σ = [v] /\ Same H A /\ A E = some (.lst zs) /\ zs.length = i /\ PLs A zs ((rs.take i).map (·.2.2.1))) ⟨none, [], rfl, aH hE, aB, rfl, .nil⟩ ?_ ?_ ?_
 ·rintro i σ A _ ⟨_, _, _, z, _⟩
  exact z.seq hS
 ·rintro i x σ A hxi ⟨v, zs, rfl, sA, hEx, lz, pz⟩
  obtain ⟨r, hr, t, u, c, w, ps, ys, rfl, e1, e2, e3, e4, e5, e6⟩ := bC hx hxi
  have hi := (List.getElem?_eq_some_iff.mp hr).1
  have f1 := SqT.of (K := K) (sA _ _ e1)
  have a1 : atI [V.int r.1, .ref u, .ref c, .ref w, .bl r.2.2.2.1] 3 = some (.ref w) := by kernel_rfl
  clean_wf
  have kp : SmH A (upd A E (.lst (zs ++ [V.ref w]))) := SmH.lst hEx
  refine ⟨zs, hEx, aJ (by omega), _, zs ++ [.ref w], rfl, fun b o z => ?_, aB, by rw [List.length_append, lz]; rfl, ?_⟩
  ·rw [aL (aC z hE)]
   exact sA b o z
  ·rw [bf hr, List.map_append]
   exact cJ (Le kp pz) ⟨w, ys, rfl, kp _ _ (sA _ _ e5), e6.up fun a xs z => kp _ _ (sA _ _ z)⟩
 rintro σ A ⟨v, zs, rfl, sA, hEx, lz, pz⟩
 rw [lx, List.take_length] at pz
 clean_wf
 intro z0 A1 hz s1 g1
 have pz1 := Le (fun a xs z => s1 _ _ z) pz
 refine ⟨E, zs, _, rfl, SqL.of (s1 _ _ hEx), Hu pz1, fun e => ?_, fun i v n hv hn best => ?_⟩
 ·have e0 : rs.map (·.2.2.1) = [] := by
   have := Paired.length pz
   rw [e] at this
   exact List.length_eq_zero_iff.mp this.symm
  clean_wf
  refine ⟨z0, _, rfl, .inr ⟨SqT.of g1, ?_⟩⟩
  refine k A1 z0 [] (sA.trans s1) g1 ?_
  rw [e0]
  exact .nil
 ·obtain ⟨nm, hnm, w, ys, rfl, gw, hw⟩ := bC pz1 hv
  rw [List.getElem?_map, hnm] at hn
  cases hn
  clean_wf
  refine ⟨w, ys, rfl, .inr ⟨SqT.of gw, ?_⟩⟩
  refine k A1 w ys (sA.trans s1) gw ?_
  rw [Nv hnm best]
  exact hw
end
end K52
namespace K52
open PySem L2
abbrev dX : Stmt := top 38
section
variable {P : Program} {w : World} {K : PySem.W.Frag} {mg : Str -> Option Value} {base : Heap}
abbrev jc (x : Cll) : List Key := [Sum.inl x.n, Sum.inl x.c, Sum.inl x.k]
theorem Av {C : List Cll} (u : Inc C) {x y : Cll} (hx : x ∈ C) (hy : y ∈ C) (e1 : x.c = y.c) (e2 : x.k = y.k) : x = y := by
 have := rW (ws := C.map fun _ => V.non) u
 have mk : ∀ z ∈ C, (V.non, z) ∈ (C.map fun _ => V.non).zip C := by
  intro z hz
  obtain ⟨i, hi⟩ := List.getElem?_of_mem hz
  refine List.mem_of_getElem? (i := i) ?_
  rw [List.getElem?_zip_eq_some]
  exact ⟨by rw [List.getElem?_map, hi]; rfl, hi⟩
 exact (Prod.mk.inj (this _ (mk x hx) _ (mk y hy) e1 e2)).2
theorem qQ : ∀ {cs C : List Cll}, Inc cs -> (∀ x ∈ cs, x ∈ C) -> cs.length <= C.length
 | [], _, _, _ => Nat.zero_le _
 | x :: r, C, u, sub => by
  obtain ⟨l1, l2, e⟩ := List.append_of_mem (sub x List.mem_cons_self)
  have u' := List.pairwise_cons.mp u
  have := qQ (cs := r) (C := l1 ++ l2) u'.2 fun y hy => by
   have hy' := sub y (List.mem_cons_of_mem _ hy)
   rw [e] at hy'
   rcases List.mem_append.mp hy' with z | z
   ·exact List.mem_append_left _ z
   ·rcases List.mem_cons.mp z with z | z
    ·exact absurd (by rw [z]) (u'.1 y hy (by rw [z]))
    ·exact List.mem_append_right _ z
  rw [e]
  simp only [List.length_append, List.length_cons] at this ⊢
  omega
structure Bst (K : PySem.W.Frag) (mg : Str -> Option Value) (H A : Hp) (D : Addr) (m : List (Int × Int)) (C0 : List Cll) (kvs : List (List Key × V)) (cs pr : List Cll) : Prop where
 sm : Same H A
 gD : A D = some (.dT kvs)
 ks : kvs.map (·.1) = cs.map jc
 cl : CT K mg A (kvs.map (·.2)) cs
 ic : Inc cs
 sub : ∀ x ∈ cs, x ∈ C0
 mem : ∀ x, x ∈ cs ↔ x ∈ pr /\ ct m x.c < x.k
theorem Hr {kvs : List (List Key × V)} {cs C0 : List Cll} (ks : kvs.map (·.1) = cs.map jc) (u : Inc C0) (sub : ∀ x ∈ cs, x ∈ C0) {x : Cll} (hx : x ∈ C0) : (x ∈ cs /\ (fX kvs (jc x)).isSome = true) ∨ (x ∉ cs /\ (fX kvs (jc x)).isSome = false) := by
 unfold fX
 rw [Option.isSome_map]
 by_cases z : x ∈ cs
 ·refine .inl ⟨z, ?_⟩
  rw [List.find?_isSome]
  have : jc x ∈ kvs.map (·.1) := by rw [ks]; exact List.mem_map.mpr ⟨x, z, rfl⟩
  obtain ⟨p, hp, e⟩ := List.mem_map.mp this
  exact ⟨p, hp, decide_eq_true e⟩
 ·refine .inr ⟨z, ?_⟩
  cases e : kvs.find? (fun kv => decide (kv.1 = jc x)) with
  | none => rfl
  | some p =>
   have h1 := List.mem_of_find?_eq_some e
   have h2 : p.1 = jc x := by have := List.find?_some e; simpa using this
   have : jc x ∈ cs.map jc := by rw [← ks, ← h2]; exact List.mem_map.mpr ⟨p, h1, rfl⟩
   obtain ⟨y, hy, ey⟩ := List.mem_map.mp this
   simp only [jc, List.cons.injEq, Sum.inl.injEq, and_true] at ey
   rw [Av u (sub y hy) hx ey.2.1 ey.2.2] at hy
   exact absurd hy z
theorem put_new {kvs : List (List Key × V)} {k : List Key} {v : V} (h : (fX kvs k).isSome = false) : putK kvs k v = kvs ++ [(k, v)] := by
 unfold putK
 rw [nQ, if_neg]
 rw [h]
 exact Bool.false_ne_true
theorem Hk {cs C0 : List Cll} (u : Inc cs) (uC : Inc C0) (sub : ∀ x ∈ cs, x ∈ C0) {x : Cll} (hx : x ∈ C0) (n : x ∉ cs) : Inc (cs ++ [x]) := by
 unfold Inc
 rw [List.pairwise_append]
 refine ⟨u, List.pairwise_singleton _ _, fun a ha b hb e1 e2 => ?_⟩
 rw [List.mem_singleton.mp hb] at e1 e2
 rw [Av uC (sub a ha) hx e1 e2] at ha
 exact n ha
abbrev rcs (rs : List Rp) : List Cll := rs.flatMap (·.2.2.2.2)
def j8 (K : PySem.W.Frag) (mg : Str -> Option Value) : Sp := fun vs H Q _ => ∃ (d a : Addr), vs = [.ref d, .ref a] /\ ∃ m xs rs C0, Rd H d (.dK (dI m)) /\ SqL K H a xs /\ RpV H xs rs /\ (∀ x ∈ rcs rs, x ∈ C0) /\ Inc C0 /\ C0.length <= 16 /\ (∀ x ∈ C0, Wf x) /\
 ∀ H' l ws cs, Same H H' -> H l = none -> H' l = some (.lst ws) -> CT K mg H' ws cs -> Inc cs -> (∀ x ∈ cs, x ∈ C0) -> (∀ x, x ∈ cs ↔ x ∈ rcs rs /\ ct m x.c < x.k) -> Q (.ref l) H'
theorem sc_calls_beyond : FnScope ["base", "reports", "calls", "report", "told", "call"] ["base", "reports"] (ao dX) := ⟨rfl, rfl, rfl, by decide +kernel, rfl, by decide +kernel, by decide +kernel⟩
theorem vR {f ie bO nY aj au az : Addr} {fd gH dD lQ : FuncData} (F : Fun K "calls_beyond" "calls_beyond" dX f fd)
  (mW : FnOk P w K mg base CX0 5 ie gH ["counts", "name"] (jw K)) (mZ : Cal K mg "covers_name" ie gH ["counts", "name"])
  (bB : FnOk P w K mg base CX0 5 bO dD ["self"] (ju K)) (bA : Binds K dD ["self"] [])
  (uF : FnOk P w K mg base CX0 5 nY lQ ["told"] (oO K mg)) (uE : Cal K mg "call_of" nY lQ ["told"]) (j4 : mg "list" = none) (aF : TCall K aj) (aN : TCall K au) (aM : TCall K az) (aG : mg "HeardCall" = some (.ref aj)) (aP : mg "OneCall" = some (.ref au)) (aU : mg "OwnCall" = some (.ref az)) (bj : Meth K aj "name" bO) (bD : Meth K au "name" bO) (bG : Meth K az "name" bO) : FnOk P w K mg base CX0 6 f fd ["base", "reports"] (j8 K mg) := by
 refine F.ok sc_calls_beyond (fun vs H Q E h => ?_) (fun cdv A outer s H vs Q E hr h => ?_)
 ·obtain ⟨d, a, rfl, _⟩ := h
  rfl
 obtain ⟨d, a, rfl, h⟩ := h
 have hu64 := hr.units
 have hu0 := hr.units0
 have hu := bH hr
 refine ⟨_, (aq (aO (i := 2) sc_calls_beyond.nd rfl (Or.inl rfl) Cq)
   (aq (iD PassesOwn.never rfl (bx (K := K) rfl (pv 1)) (aZ (i := 3) sc_calls_beyond.nd rfl (Or.inl rfl))
   (aD (iD PassesOwn.never rfl (Hn (K := K) rfl (aX (aY (K := K) rfl) (pv 3) aA (fun _ _ => rfl))) (aZ (i := 4) sc_calls_beyond.nd rfl (Or.inl rfl))
   (aq (aO (i := 5) sc_calls_beyond.nd rfl (Or.inl rfl) (bc uF uE hr (aa (pv 4) ak)))
   (aD (jD (PW.pt (xP (Tn (JD hu (d7 (MOk.cons aM.cl bG bB bA (MOk.cons aF.cl bj bB bA (MOk.cons aN.cl bD bB bA MOk.nil))) (pv 5) hr) (pv 2))) (tX (pq (fP K rfl (bc mW mZ hr (aa (pv 0) (aa (d7 (MOk.cons aM.cl bG bB bA (MOk.cons aF.cl bj bB bA (MOk.cons aN.cl bD bB bA MOk.nil))) (pv 5) hr) ak)))))))) (aD (q9 hu (pv 2) (d7 (MOk.cons aM.cl bG bB bA (MOk.cons aF.cl bj bB bA (MOk.cons aN.cl bD bB bA MOk.nil))) (pv 5) hr) (pv 5) rfl)) cV))))))
   (aD (aW (bR (Dz rfl) (by rfl) j4 PyProof.Rows.boot_list (aa (Ss PySem.F.plainAttrs_dict PySem.F.slot_dict_values PySem.F.type_dict_values Kv (pv 2)) ak)))))), ?_⟩
 obtain ⟨m, xs, rs, C0, hd, hS, hx, sub, ic, lc, wf, kk⟩ := h
 have lx : xs.length = rs.length := Paired.length hx
 clean_wf
 intro D hD
 have s1 := aH (o := .dT []) hD
 have g1 : (upd H D (.dT [])) D = some (.dT []) := aB
 generalize upd H D (.dT []) = H1 at s1 g1 ⊢
 have hS1 := s1.seq hS
 clean_wf
 refine jZ (xs := xs) (fun i σ A => ∃ v3 v4 v5 kvs cs, σ = [some (.ref d), some (.ref a), some (.ref D), v3, v4, v5] /\ Bst K mg H A D m C0 kvs cs (rcs (rs.take i))) ⟨none, none, none, [], [], rfl, s1, g1, rfl, .nil, List.Pairwise.nil, (fun _ z => nomatch z), fun x => ⟨(fun z => nomatch z), (fun z => nomatch z.1)⟩⟩ (fun i σ A _ z => by obtain ⟨_, _, _, _, _, _, z⟩ := z; exact z.sm.seq hS) ?_ ?_
 ·rintro i x σ A hxi ⟨v3, v4, v5, kvs, cs, rfl, B⟩
  obtain ⟨r, hr, t, u, c, w, ps, ys, rfl, e1, e2, e3, ⟨zs, z1, z2⟩, e5, e6⟩ := bC hx hxi
  have f1 := SqT.of (K := K) (B.sm _ _ e1)
  have a1 : atI [V.int r.1, .ref u, .ref c, .ref w, .bl r.2.2.2.1] 2 = some (.ref c) := by kernel_rfl
  have lz : zs.length = r.2.2.2.2.length := Paired.length z2
  have f2 := SqT.of (K := K) (B.sm _ _ z1)
  have rsub : ∀ x ∈ r.2.2.2.2, x ∈ C0 := fun x hx => sub x (List.mem_flatMap.mpr ⟨r, List.mem_of_getElem? hr, hx⟩)
  clean_wf
  refine Hi (xs := zs) (fun j σ A => ∃ v4 v5 kvs cs, σ = [some (.ref d), some (.ref a), some (.ref D), some (.ref t), v4, v5] /\ Bst K mg H A D m C0 kvs cs (rcs (rs.take i) ++ r.2.2.2.2.take j)) ⟨v4, v5, kvs, cs, rfl, by rw [List.take_zero, List.append_nil]; exact B⟩ (fun j σ A _ z => by obtain ⟨_, _, _, _, _, z⟩ := z; exact SqT.of (z.sm _ _ z1)) ?_ ?_
  ·clear B f1 f2 kvs cs v4 v5
   rintro j y σ A hyj ⟨v4, v5, kvs, cs, rfl, B⟩
   obtain ⟨x, hx2, tx⟩ := bC z2 hyj
   have xC := rsub x (List.mem_of_getElem? hx2)
   have lcs := qQ B.ic B.sub
   have lk : kvs.length = cs.length := by have := congrArg List.length B.ks; rw [List.length_map, List.length_map] at this; exact this
   clean_wf
   refine ⟨y, rfl, x, tx.up (.same B.sm), wf x xC, fun A1 p t1 hp cA => ?_⟩
   obtain ⟨p', C, dx, tt, qs, ep, hk, hT, gp, gt, hq, hcs⟩ := id cA
   cases ep
   have pn : p ≠ D := fun z => by rw [z] at hp; rw [B.gD] at hp; cases hp
   have gD1 := t1 _ _ B.gD
   have hC : C = az ∨ C = aj ∨ C = au := by
    rcases hk with ⟨_, e⟩ | ⟨_, e⟩ | ⟨_, e⟩
    ·rw [aU] at e; cases e; exact .inl rfl
    ·rw [aG] at e; cases e; exact .inr (.inl rfl)
    ·rw [aP] at e; cases e; exact .inr (.inr rfl)
   have vk := Hr B.ks ic B.sub xC
   rw [bf hx2, ← List.append_assoc]
   have fin : ∀ A2, Same A1 A2 -> A2 D = some (.dT kvs) -> (x ∈ cs ∨ ¬ ct m x.c < x.k) -> Bst K mg H A2 D m C0 kvs cs (rcs (rs.take i) ++ r.2.2.2.2.take j ++ [x]) := fun A2 t2 gD2 hno =>
    ⟨B.sm.trans (t1.trans t2), gD2, B.ks, dW (.same (t1.trans t2)) B.cl, B.ic, B.sub, fun y => ⟨fun hy => ⟨List.mem_append_left _ ((B.mem y).mp hy).1, ((B.mem y).mp hy).2⟩, fun hy => by
     rcases List.mem_append.mp hy.1 with z | z
     ·exact (B.mem y).mpr ⟨z, hy.2⟩
     ·rw [List.mem_singleton.mp z] at hy ⊢
      rcases hno with w | w
      ·exact w
      ·exact absurd hy.2 w⟩⟩
   rcases hC with rfl | rfl | rfl
   all_goals
    clean_wf
    refine ⟨p, rfl, _, dx, _, _, _, _, _, hT, gp, fun A2 u2 t2 hu2 g2 => ?_⟩
    have gD2 := t2 _ _ gD1
    have gp2 := t2 _ _ gp
    clean_wf
    refine ⟨D, _, rfl, DGet.t (k := jc x) gD2 g2, ?_⟩
    rcases vk with ⟨zi, zv⟩ | ⟨zi, zv⟩
    ·rw [zv]
     clean_wf
     exact ⟨_, _, kvs, cs, rfl, fin A2 t2 gD2 (.inl zi)⟩
    ·rw [zv]
     clean_wf
     refine ⟨p, rfl, _, dx, _, _, _, _, _, hT, gp2, fun A3 u3 t3 hu3 g3 => ?_⟩
     have gD3 := t3 _ _ gD2
     have gp3 := t3 _ _ gp2
     clean_wf
     refine ⟨d, u3, rfl, m, _, _, _, dH (B.sm.trans (t1.trans (t2.trans t3))) hd, SqT.of g3, ?_⟩
     by_cases z : x.k <= ct m x.c
     ·rw [decide_eq_true z]
      clean_wf
      exact ⟨_, _, kvs, cs, rfl, fin A3 (t2.trans t3) gD3 (.inr (by omega))⟩
     ·rw [decide_eq_false z]
      clean_wf
      refine ⟨p, rfl, _, dx, _, _, _, _, _, hT, gp3, fun A4 u4 t4 hu4 g4 => ?_⟩
      have gD4 := t4 _ _ gD3
      refine ⟨D, _, rfl, DPut.t (k := jc x) gD4 g4 (aJ (by omega)), ?_⟩
      rw [put_new zv]
      have b5 : But D A4 (upd A4 D (.dT (kvs ++ [(jc x, .ref p)]))) := fun b hb => aL hb
      have g5 : (upd A4 D (.dT (kvs ++ [(jc x, .ref p)]))) D = some (.dT (kvs ++ [(jc x, .ref p)])) := aB
      generalize upd A4 D (.dT (kvs ++ [(jc x, V.ref p)])) = A5 at b5 g5 ⊢
      have t14 := t1.trans (t2.trans (t3.trans t4))
      have k5 : KpC A4 A5 := ⟨fun q C dx fs e => b5.at (fun z => by rw [z, gD4] at e; cases e) e, fun q ys e => b5.at (fun z => by rw [z, gD4] at e; cases e) e⟩
      refine ⟨_, _, _, cs ++ [x], rfl, b5.same (B.sm.trans t14) hD, g5, ?_, ?_, Hk B.ic ic B.sub xC zi, fun y hy => ?_, fun y => ?_⟩
      ·rw [List.map_append, List.map_append, B.ks]
       rfl
      ·rw [List.map_append]
       exact cJ (dW k5 (dW (.same t14) B.cl)) (CllA.up (KpC.trans (.same (t2.trans (t3.trans t4))) k5) cA)
      ·rcases List.mem_append.mp hy with w | w
       ·exact B.sub y w
       ·rw [List.mem_singleton.mp w]; exact xC
      ·rw [List.mem_append, List.mem_append, B.mem y, List.mem_singleton]
       constructor
       ·rintro (⟨w1, w2⟩ | w)
        ·exact ⟨.inl w1, w2⟩
        ·exact ⟨.inr w, by rw [w]; omega⟩
       ·rintro ⟨w1 | w1, w2⟩
        ·exact .inl ⟨w1, w2⟩
        ·exact .inr w1
  ·rintro σ A2 ⟨v4, v5, kvs, cs, rfl, B⟩
   rw [lz, List.take_length] at B
   refine ⟨_, v4, v5, kvs, cs, rfl, ?_⟩
   rw [bf hr, show rcs (rs.take i ++ [r]) = rcs (rs.take i) ++ r.2.2.2.2 by unfold rcs; rw [List.flatMap_append]; simp]
   exact B
 rintro σ A ⟨v3, v4, v5, kvs, cs, rfl, B⟩
 rw [lx, List.take_length] at B
 have lcs := qQ B.ic B.sub
 have lk : kvs.length = cs.length := by have := congrArg List.length B.ks; rw [List.length_map, List.length_map] at this; exact this
 clean_wf
 refine ⟨.inr (.inr (.inl ⟨rfl, .inr ⟨kvs, B.gD⟩⟩)), D, kvs, rfl, rfl, B.gD, fun v hv => ?_⟩
 have s2 := aH (o := VwO v D) hv
 have g2 : (upd A v (VwO v D)) v = some (VwO v D) := aB
 generalize upd A v (VwO v D) = A2 at s2 g2 ⊢
 refine ⟨v, D, kvs, rfl, g2, .inl (s2 _ _ B.gD), by omega, fun l hl => ?_⟩
 have s3 := aH (o := .lst (kvs.map (·.2))) hl
 exact kk _ l _ cs (B.sm.trans (s2.trans s3)) ((B.sm.trans s2).free hl) aB (dW (.same (s2.trans s3)) B.cl) B.ic B.sub B.mem
end
end K52
namespace K52
open PySem L2
abbrev gQ : Stmt := top 39
section
variable {P : Program} {w : World} {K : PySem.W.Frag} {mg : Str -> Option Value} {base : Heap}
def nv (q : V × Cll) : V × Cll := (.non, q.2)
theorem GP (m : List (Int × Int)) (row : List (V × Cll)) : stt m (row.map nv) = stt m row := by
 unfold stt
 rw [List.foldl_map]
 rfl
theorem MJ (row : List (V × Cll)) : qe (row.map nv) = qe row := by
 unfold qe
 rw [List.getLast?_map, Option.map_map]
 rfl
theorem RL {zs : List (V × Cll)} {m0 : List (Int × Int)} {row : List (V × Cll)} {gs : List Nm} {q : V × Cll} {g : List Nm} (s : Stp zs m0 row gs q g) : Stp (zs.map nv) m0 (row.map nv) gs (nv q) g := by
 unfold Stp
 rw [GP, MJ]
 rcases s with ⟨a1, a2, a3, a4⟩ | ⟨a1, ⟨b1, b2, b3⟩, j, a3, a4⟩
 ·refine .inl ⟨a1, List.mem_map.mpr ⟨q, a2, rfl⟩, a3, fun y hy => ?_⟩
  obtain ⟨y', hy', rfl⟩ := List.mem_map.mp hy
  exact a4 y' hy'
 ·refine .inr ⟨fun y hy => ?_, ⟨List.mem_map.mpr ⟨q, b1, rfl⟩, b2, fun y hy => ?_⟩, j, a3, a4⟩
  ·obtain ⟨y', hy', rfl⟩ := List.mem_map.mp hy
   exact a1 y' hy'
  ·obtain ⟨y', hy', rfl⟩ := List.mem_map.mp hy
   exact b3 y' hy'
theorem QR {zs : List (V × Cll)} {m0 : List (Int × Int)} {g0 : List Nm} {row : List (V × Cll)} {gs : List Nm} (w : Wk zs m0 g0 row gs) : Wk (zs.map nv) m0 g0 (row.map nv) gs := by
 induction w with
 | start => exact .start
 | step _ s ih => rw [List.map_append]; exact .step ih (RL s)
theorem V0 {zs : List (V × Cll)} {m m' : List (Int × Int)} {g0 : List Nm} {row : List (V × Cll)} {gs : List Nm} (e : ∀ k, ct m' k = ct m k) (w : Wk zs m g0 row gs) : Wk zs m' g0 row gs := by
 induction w with
 | start => exact .start
 | @step row gs q g _ s ih =>
  refine .step ih ?_
  have e' := uO e row
  rcases s with ⟨a1, a2, a3, a4⟩ | ⟨a1, a2, j, a3, a4⟩
  ·exact .inl ⟨a1, a2, by rw [tE e', rO e']; exact a3, fun y hy ty => a4 y hy (by rw [tE e', rO e'] at ty; exact ty)⟩
  ·exact .inr ⟨HS e' a1, Af e' a2, j, QQ e' a3, a4⟩
theorem z8 {ws : List V} {cs : List Cll} (l : ws.length = cs.length) (q : V × Cll) : q ∈ (ws.zip cs).map nv ↔ q.1 = .non /\ q.2 ∈ cs := by
 constructor
 ·intro h
  obtain ⟨p, hp, rfl⟩ := List.mem_map.mp h
  exact ⟨rfl, (List.of_mem_zip hp).2⟩
 ·rintro ⟨h1, h2⟩
  obtain ⟨i, hi⟩ := List.getElem?_of_mem h2
  have il := (List.getElem?_eq_some_iff.mp hi).1
  refine List.mem_map.mpr ⟨(ws[i], q.2), List.mem_of_getElem? (i := i) (List.getElem?_zip_eq_some.mpr ⟨List.getElem?_eq_getElem (by omega), hi⟩), ?_⟩
  exact Prod.ext h1.symm rfl
def PlR (rs : List Rp) (xs : List Cll) : Prop := ∃ (m : List (Int × Int)) (ws : List V) (cs : List Cll) (row : List (V × Cll)) (gs : List Nm) (m' : List (Int × Int)), (∀ k, ct m k = mxl rs k) /\ ws.length = cs.length /\ Inc cs /\ (∀ x, x ∈ cs ↔ x ∈ rcs rs /\ ct m x.c < x.k) /\ Pw ws cs m (fl1 (rs.map (·.2.2.1))) row gs m' /\ LaR (ws.zip cs) m' none /\ xs = row.map (·.2)
theorem Hf {rs : List Rp} {xs ys : List Cll} (h1 : PlR rs xs) (h2 : PlR rs ys) : xs = ys := by
 obtain ⟨m1, ws1, cs1, row1, gs1, n1, c1, l1, i1, b1, p1, q1, rfl⟩ := h1
 obtain ⟨m2, ws2, cs2, row2, gs2, n2, c2, l2, i2, b2, p2, q2, rfl⟩ := h2
 obtain ⟨w1, s1, z1⟩ := HF (rW i1) l1 p1
 obtain ⟨w2, s2, z2⟩ := HF (rW i2) l2 p2
 have e12 : ∀ k, ct m1 k = ct m2 k := fun k => by rw [c1, c2]
 have mc : ∀ x, x ∈ cs1 ↔ x ∈ cs2 := fun x => by rw [b1, b2, e12]
 have mem : ∀ q, q ∈ (ws2.zip cs2).map nv ↔ q ∈ (ws1.zip cs1).map nv := fun q => by rw [z8 l1, z8 l2, mc]
 have U : Rk1 ((ws1.zip cs1).map nv) := fun q hq r hr e1 e2 => by
  obtain ⟨a1, a2⟩ := (z8 l1 q).mp hq
  obtain ⟨d1, d2⟩ := (z8 l1 r).mp hr
  exact Prod.ext (a1.trans d1.symm) (Av i1 a2 d2 e1 e2)
 have f1 : ∀ k, ct (stt m1 (row1.map nv)) k = ct n1 k := fun k => by rw [GP]; exact s1 k
 have f2 : ∀ k, ct (stt m1 (row2.map nv)) k = ct n2 k := fun k => by rw [GP, uO e12]; exact s2 k
 have zs1 : Cz ((ws1.zip cs1).map nv) gs1 n1 := fun y hy => by
  obtain ⟨y', hy', rfl⟩ := List.mem_map.mp hy
  exact z1 y' hy'
 have zs2 : Cz ((ws1.zip cs1).map nv) gs2 n2 := fun y hy => by
  obtain ⟨y', hy', rfl⟩ := List.mem_map.mp ((mem y).mpr hy)
  exact z2 y' hy'
 have ls1 : LaR ((ws1.zip cs1).map nv) n1 none := fun y hy => by
  obtain ⟨y', hy', rfl⟩ := List.mem_map.mp hy
  exact q1 y' hy'
 have ls2 : LaR ((ws1.zip cs1).map nv) n2 none := fun y hy => by
  obtain ⟨y', hy', rfl⟩ := List.mem_map.mp ((mem y).mpr hy)
  exact q2 y' hy'
 have := (Qd U (QR w1) (HS f1 zs1) (Af f1 ls1) (V0 e12 (R5 mem (QR w2))) (HS f2 zs2) (Af f2 ls2)).1
 have e := congrArg (List.map (fun q : V × Cll => q.2)) this
 rw [List.map_map, List.map_map] at e
 exact e
structure Rok (rs : List Rp) (C0 : List Cll) : Prop where
 len : rs.length <= 5
 td : ∀ r ∈ rs, Td r.2.1
 h0 : ∀ r ∈ rs, 0 <= r.1 /\ r.1 < 63
 pl : ∀ r ∈ rs, r.2.2.1.length <= 16
 sub : ∀ x ∈ rcs rs, x ∈ C0
 ic : Inc C0
 lc : C0.length <= 16
 wf : ∀ x ∈ C0, Wf x
abbrev G5 (wi hn : Int) : Int := Builtin.bitAnd wi (Builtin.bitNot hn)
def m7 (K : PySem.W.Frag) (mg : Str -> Option Value) : Sp := fun vs H Q _ => ∃ (me hn : Int) (a : Addr) (wi : Int), vs = [.int me, .int hn, .ref a, .int wi] /\ ∃ xs rs C0, 0 <= me /\ me < 63 /\ SqL K H a xs /\ RpV H xs rs /\ Rok rs C0 /\
 ∀ H' t u ys cs, Same H H' -> H t = none -> H' t = some (.tup [.int (orN (rs.map (·.1)) : Nat), .int (Builtin.bitOr (Builtin.bitOr (orN ((rs.filter (fun r => !r.2.2.2.1)).map (·.1)) : Nat) (2 ^ me.toNat)) (G5 wi hn)), .int (G5 wi hn), .ref u]) -> H' u = some (.tup ys) -> Tls H' ys cs -> PlR rs cs -> (∀ x ∈ cs, x ∈ C0) -> Q (.ref t) H'
theorem sc_first_plan : FnScope ["me", "hands", "reports", "wishes", "base", "row", "on", "staying", "new"] ["me", "hands", "reports", "wishes"] (ao gQ) := ⟨rfl, rfl, rfl, by decide +kernel, rfl, by decide +kernel, by decide +kernel⟩
theorem yH {f pR dq pZ Cv nq jX pY aj au az : Addr} {fd ni jd nM zB lU jf pM : FuncData} (F : Fun K "first_plan" "first_plan" gQ f fd)
  (yt : FnOk P w K mg base CX0 7 pR ni ["counts", "calls", "places"] (qU K mg)) (yg : Cal K mg "placed" pR ni ["counts", "calls", "places"])
  (gb : FnOk P w K mg base CX0 7 dq jd ["self"] (lE K mg)) (fU : Binds K jd ["self"] [])
  (yq : FnOk P w K mg base CX0 7 pZ nM ["hand"] (qZ K)) (wL : Cal K mg "bit_of" pZ nM ["hand"])
  (Cd : FnOk P w K mg base CX0 7 Cv zB ["some"] (uL K)) (Ej : Cal K mg "set_of" Cv zB ["some"])
  (uU : FnOk P w K mg base CX0 7 nq lU ["reports"] (oH K)) (uV : Cal K mg "base_of" nq lU ["reports"])
  (qg : FnOk P w K mg base CX0 7 jX jf ["reports"] (lg K)) (qw : Cal K mg "places_of" jX jf ["reports"])
  (wO : FnOk P w K mg base CX0 7 pY pM ["base", "reports"] (j8 K mg)) (xg : Cal K mg "calls_beyond" pY pM ["base", "reports"]) (iC : mg "tuple" = none) (aF : TCall K aj) (aN : TCall K au) (aM : TCall K az) (aG : mg "HeardCall" = some (.ref aj)) (aP : mg "OneCall" = some (.ref au)) (aU : mg "OwnCall" = some (.ref az)) (cD : Meth K aj "told" dq) (cZ : Meth K au "told" dq) (cW : Meth K az "told" dq) : FnOk P w K mg base CX0 8 f fd ["me", "hands", "reports", "wishes"] (m7 K mg) := by
 refine F.ok sc_first_plan (fun vs H Q E h => ?_) (fun cdv A outer s H vs Q E hr h => ?_)
 ·obtain ⟨me, hn, a, wi, rfl, _⟩ := h
  rfl
 obtain ⟨me, hn, a, wi, rfl, h⟩ := h
 have hu64 := hr.units
 have hu0 := hr.units0
 have hu := bH hr
 refine ⟨_, (aq (aO (i := 4) sc_first_plan.nd rfl (Or.inl rfl) (bc uU uV hr (aa (pv 2) ak)))
   (aq (aO (i := 5) sc_first_plan.nd rfl (Or.inl rfl) (aX (aY (K := K) rfl) (bc yt yg hr (aa (pv 4) (aa (bc wO xg hr (aa (pv 4) (aa (pv 2) ak))) (aa (bc qg qw hr (aa (pv 2) ak)) ak)))) aA (fun _ _ => rfl)))
   (aq (aO (i := 6) sc_first_plan.nd rfl (Or.inl rfl) (bc Cd Ej hr (aa (cI ["report"] [none] rfl rfl (by kernel_rfl) (bx (K := K) rfl (pv 2)) (fun _ _ _ _ _ nd => aZ (i := 0) nd rfl (Or.inl rfl)) (fun _ _ _ _ _ => fM) (fun _ _ _ _ _ => (aX (aY (K := K) rfl) (pv 0) aA (fun _ _ => rfl)))) ak)))
   (aq (aO (i := 7) sc_first_plan.nd rfl (Or.inl rfl) (bc Cd Ej hr (aa (cI ["report"] [none] rfl rfl (by kernel_rfl) (bx (K := K) rfl (pv 2)) (fun _ _ _ _ _ nd => aZ (i := 0) nd rfl (Or.inl rfl)) (fun _ _ _ _ _ => (mH (pq (M9 (aX (aY (K := K) rfl) (pv 0) aA (fun _ _ => rfl)))))) (fun _ _ _ _ _ => (aX (aY (K := K) rfl) (pv 0) aA (fun _ _ => rfl)))) ak)))
   (aq (aO (i := 8) sc_first_plan.nd rfl (Or.inl rfl) (aV Gh (pv 3) (Lj KH (pv 1))))
   (aD (aW (dF (aa (pv 6) (aa (aV zy (aV zy (pv 7) (bc yq wL hr (aa (pv 0) ak))) (pv 8)) (aa (pv 8) (aa (bR (iZ (K := K) rfl) (by rfl) iC PyProof.Rows.boot_tuple (aa (cI ["call"] [none] rfl rfl (by kernel_rfl) (bx (K := K) rfl (pv 5)) (fun _ _ _ _ _ nd => aZ (i := 0) nd rfl (Or.inl rfl)) (fun _ _ _ _ _ => fM) (fun _ _ _ _ _ => (d7 (MOk.cons aM.cl cW gb fU (MOk.cons aF.cl cD gb fU (MOk.cons aN.cl cZ gb fU MOk.nil))) (pv 0) hr))) ak)) ak)))))))))))), ?_⟩
 obtain ⟨xs, rs, C0, m0, m1, hS, hx, R, kk⟩ := h
 have lx : xs.length = rs.length := Paired.length hx
 have lr := R.len
 clean_wf
 refine ⟨a, rfl, xs, rs, hS, hx, R.td, fun H1 d m s1 hd gd tm cm => ?_⟩
 clean_wf
 refine ⟨d, a, rfl, m, xs, rs, C0, .inl gd, s1.seq hS, iG (.same s1) hx, R.sub, R.ic, R.lc, R.wf, fun H2 l ws cs s2 hl gl hc ic sb mem => ?_⟩
 have s02 := s1.trans s2
 clean_wf
 refine ⟨a, rfl, xs, rs, s02.seq hS, iG (.same s02) hx, by omega, fun H3 pw ys s3 gp hn3 => ?_⟩
 have lcs := qQ ic sb
 have lcC := R.lc
 have s03 := s02.trans s3
 have pl16 : (fl1 (rs.map (·.2.2.1))).length <= 16 := z6 fun x hx => by
  obtain ⟨r, hr, rfl⟩ := List.mem_map.mp hx
  exact R.pl r hr
 clean_wf
 refine ⟨d, l, pw, rfl, m, ws, cs, ys, _, .inl (s3 _ _ (s2 _ _ gd)), tm.toCk, SqL.of (s3 _ _ gl), dW (.same s3) hc, by omega, rW ic, fun x hx => ⟨(R.wf x (sb x hx)).c0, (R.wf x (sb x hx)).c1⟩, .inr (SqT.of gp), hn3, by omega, fun H4 t0 l0 g0 rw zs gs m' s4 hl0 hg0 gt0 gl0 gg0 nm pww la => ?_⟩
 have gT0 : SqT K H4 t0 [.ref l0, .ref g0] := SqT.of gt0
 have s04 := s03.trans s4
 have ru := rW (ws := ws) ic
 have lw : ws.length = cs.length := Paired.length hc
 obtain ⟨wk, _, _⟩ := HF ru lw pww
 have rz := QM wk
 have rlen : rw.length <= cs.length := by have := Lg wk; omega
 have hS4 := s04.seq hS
 clean_wf
 intro E hE
 refine bJ (K := K) (a := a) (xs := xs) (fun i σ A => ∃ v, σ = [v] /\ Same H4 A /\ A E = some (.lst (((rs.take i).map (·.1)).map V.int))) ⟨none, rfl, aH hE, aB⟩ ?_ ?_ ?_
 ·rintro i σ A _ ⟨_, _, z, _⟩
  exact z.seq hS4
 ·rintro i x σ A hxi ⟨v, rfl, sA, gE⟩
  obtain ⟨r, hr, t, u, c, w, ps, ys', rfl, e1, e2, e3, e4, e5, e6⟩ := bC hx hxi
  have f1 := SqT.of (K := K) (sA _ _ (s04 _ _ e1))
  have a1 : atI [V.int r.1, .ref u, .ref c, .ref w, .bl r.2.2.2.1] 0 = some (.int r.1) := by kernel_rfl
  have hi := (List.getElem?_eq_some_iff.mp hr).1
  clean_wf
  refine ⟨_, gE, aJ (by simp; omega), _, rfl, fun b o z => ?_, ?_⟩
  ·rw [aL (aC z hE)]
   exact sA b o z
  ·rw [aB, bf hr, List.map_append, List.map_append]
   rfl
 rintro σ A ⟨v, rfl, sA, gE⟩
 rw [lx, List.take_length] at gE
 clean_wf
 refine ⟨E, rfl, rs.map (·.1), SqL.of gE, fun h hh => ?_, ?_⟩
 ·obtain ⟨r, hr, rfl⟩ := List.mem_map.mp hh
  exact R.h0 r hr
 have hSA := sA.seq hS4
 have s0A := s04.trans sA
 clear gE hE v
 clean_wf
 intro E2 hE2
 refine bJ (K := K) (a := a) (xs := xs) (fun i σ B => ∃ v, σ = [v] /\ Same A B /\ B E2 = some (.lst ((((rs.take i).filter (fun r => !r.2.2.2.1)).map (·.1)).map V.int))) ⟨none, rfl, aH hE2, aB⟩ ?_ ?_ ?_
 ·rintro i σ B _ ⟨_, _, z, _⟩
  exact z.seq hSA
 ·rintro i x σ B hxi ⟨v, rfl, sB, gE⟩
  obtain ⟨r, hr, t, u, c, w, ps, ys', rfl, e1, e2, e3, e4, e5, e6⟩ := bC hx hxi
  have f1 := SqT.of (K := K) (sB _ _ (s0A _ _ e1))
  have a1 : atI [V.int r.1, .ref u, .ref c, .ref w, .bl r.2.2.2.1] 0 = some (.int r.1) := by kernel_rfl
  have a4 : atI [V.int r.1, .ref u, .ref c, .ref w, .bl r.2.2.2.1] 4 = some (.bl r.2.2.2.1) := by kernel_rfl
  have hi := (List.getElem?_eq_some_iff.mp hr).1
  have lf := List.length_filter_le (fun r : Rp => !r.2.2.2.1) (rs.take i)
  rw [List.length_take] at lf
  rw [bf hr, List.filter_append]
  cases hb : r.2.2.2.1 with
  | true =>
   rw [hb] at f1 a1 a4
   clean_wf
   refine ⟨_, rfl, sB, ?_⟩
   rw [gE]
   simp [hb]
  | false =>
   rw [hb] at f1 a1 a4
   clean_wf
   refine ⟨_, gE, aJ (by simp; omega), _, rfl, fun b o z => ?_, ?_⟩
   ·rw [aL (aC z hE2)]
    exact sB b o z
   ·rw [aB]
    simp [hb]
 rintro σ B ⟨v, rfl, sB, gE⟩
 rw [lx, List.take_length] at gE
 clean_wf
 refine ⟨E2, rfl, (rs.filter (fun r => !r.2.2.2.1)).map (·.1), SqL.of gE, fun h hh => ?_, ?_⟩
 ·obtain ⟨r, hr, rfl⟩ := List.mem_map.mp hh
  exact R.h0 r (List.mem_filter.mp hr).1
 have s4B := sA.trans sB
 have glB := s4B _ _ gl0
 have hcB := dW (.same (s3.trans (s4.trans s4B))) hc
 clear gE hE2 v
 clean_wf
 refine ⟨me, rfl, m0, by omega, ?_⟩
 clean_wf
 intro E3 hE3
 refine bJ (K := K) (a := l0) (xs := rw.map (·.1)) (fun i σ A' => ∃ v ys, σ = [v] /\ Same B A' /\ A' E3 = some (.lst ys) /\ Tls A' ys ((rw.take i).map (·.2))) ⟨none, [], rfl, aH hE3, aB, .nil⟩ ?_ ?_ ?_
 ·rintro i σ A' _ ⟨_, _, _, z, _⟩
  exact SqL.of (z _ _ glB)
 ·rintro i v σ A' hxi ⟨v0, ys3, rfl, sC, gE, py⟩
  rw [List.getElem?_map] at hxi
  cases eq : rw[i]? with
  | none => rw [eq] at hxi; cases hxi
  | some q =>
   rw [eq] at hxi
   cases hxi
   obtain ⟨qv, qx⟩ := q
   have hi := (List.getElem?_eq_some_iff.mp eq).1
   have cA : CllA K mg A' qv qx := o8 (dW (.same sC) hcB) (rz _ (List.mem_of_getElem? eq))
   obtain ⟨p, C, dx, tt, qs, ep, hk, hT, gp, gt, hq, hcs⟩ := id cA
   subst ep
   have ly := Paired.length py
   rw [List.length_map, List.length_take] at ly
   rw [bf eq, List.map_append]
   have hC : C = az ∨ C = aj ∨ C = au := by
    rcases hk with ⟨_, e⟩ | ⟨_, e⟩ | ⟨_, e⟩
    ·rw [aU] at e; cases e; exact .inl rfl
    ·rw [aG] at e; cases e; exact .inr (.inl rfl)
    ·rw [aP] at e; cases e; exact .inr (.inr rfl)
   rcases hC with rfl | rfl | rfl
   all_goals
    clean_wf
    refine ⟨.ref p, rfl, qx, cA, fun A2 t2 s2 ht2 tl => ?_⟩
    have gE2 := s2 _ _ gE
    have kp : SmH A2 (upd A2 E3 (.lst (ys3 ++ [.ref t2]))) := SmH.lst gE2
    refine ⟨ys3, gE2, aJ (by omega), _, ys3 ++ [.ref t2], rfl, fun b o z => ?_, aB, cJ (fY kp (fY (.same s2) py)) (tl.up kp)⟩
    rw [aL (aC z hE3)]
    exact s2 _ _ (sC b o z)
 rintro σ A' ⟨v0, ys3, rfl, sC, gE, py⟩
 rw [List.length_map, List.take_length] at py
 have ly := Paired.length py
 rw [List.length_map] at ly
 clean_wf
 intro u H5 hu5 s5 g5
 clean_wf
 intro t H6 ht s6 g6
 have s0B := s04.trans s4B
 have s06 := s0B.trans (sC.trans (s5.trans s6))
 exact kk H6 t u ys3 _ s06 ((s0B.trans (sC.trans s5)).free ht) g6 (s6 _ _ g5) (fY (.same (s5.trans s6)) py) ⟨m, ws, cs, rw, gs, m', cm, lw, ic, mem, pww, la, rfl⟩ fun x hx => by
  obtain ⟨q, hq, rfl⟩ := List.mem_map.mp hx
  exact sb _ (List.of_mem_zip (rz q hq)).2
end
end K52
namespace K52
open PySem L2
abbrev d8 : Stmt := top 41
abbrev fH : Stmt := top 42
abbrev gO : Stmt := top 44
abbrev jR : Stmt := top 43
abbrev iR : Stmt := top 47
abbrev gU : Stmt := top 50
section
variable {P : Program} {w : World} {K : PySem.W.Frag} {mg : Str -> Option Value} {base : Heap}
def iB (K : PySem.W.Frag) : Sp := fun vs H Q _ => ∃ (a : Addr) (k : Int), vs = [.ref a, .int k] /\ ∃ ns : List Int, SqL K H a (ns.map V.int) /\ 0 <= k /\ ∀ c : Int, Q (.int c) H
theorem vX : FnScope ["_law_script", "_law_k"] ["_law_script", "_law_k"] (ao d8) := ⟨rfl, rfl, rfl, by decide +kernel, rfl, by decide +kernel, by decide +kernel⟩
theorem vO {f  : Addr} {fd  : FuncData} (F : Fun K "_law_cell_at" "_law_cell_at" d8 f fd) (jC : mg "len" = none) : FnOk P w K mg base CX0 1 f fd ["_law_script", "_law_k"] (iB K) := by
 refine F.ok vX (fun vs H Q E h => ?_) (fun cdv A outer s H vs Q E hr h => ?_)
 ·obtain ⟨a, k, rfl, _⟩ := h
  rfl
 obtain ⟨a, k, rfl, h⟩ := h
 have hu64 := hr.units
 have hu0 := hr.units0
 have hu := bH hr
 refine ⟨_, (aq (jD (bI Dg (pv 1) (bF (fG (K := K) rfl) (by rfl) jC PySem.boot_len (aa (pv 0) ak)) (bM _)) (aD (aW (aX (bu (K := K) rfl) (pv 0) (pv 1) (fun _ _ => rfl)))) cV)
   (aD (aW aA))), ?_⟩
 obtain ⟨ns, hS, h0, q⟩ := h
 clean_wf
 refine jr (fun h1 => ?_) fun h1 => ?_
 ·have h1 : k < ((ns.map V.int).length : Nat) := of_decide_eq_true h1
  rw [List.length_map] at h1
  have hx : k.toNat < ns.length := by omega
  have hat : atI (ns.map V.int) k = some (V.int ns[k.toNat]) := wu h0 (by rw [List.getElem?_map, List.getElem?_eq_getElem hx]; rfl)
  clean_wf
  exact q _
 ·clean_wf
  exact q _
theorem Wz (ns : List Int) : jB (ns.map V.int) (some 1) none = (ns.drop 1).map V.int := by
 unfold jB
 show ((ns.map V.int).drop (HT.sIx (ns.map V.int).length 0 (some 1))).take _ = _
 have e1 : HT.sIx (ns.map V.int).length 0 (some 1) = min 1 (ns.map V.int).length := by
  show (if (1 : Int) < 0 then ((1 : Int) + ((ns.map V.int).length : Nat)).toNat else min (1 : Int).toNat (ns.map V.int).length) = _
  rw [if_neg (by decide)]
  rfl
 have e2 : HT.sIx (ns.map V.int).length (ns.map V.int).length none = (ns.map V.int).length := rfl
 rw [e1, e2, List.map_drop]
 cases ns with
 | nil => rfl
 | cons x ns =>
  rw [List.map_cons, List.length_cons, show min 1 ((ns.map V.int).length + 1) = 1 by omega, List.drop_one, List.tail_cons]
  exact List.take_of_length_le (by omega)
def Mx (x : Int) : Prop := 0 <= x /\ x < 2147483647
def cO (K : PySem.W.Frag) : Sp := fun vs H Q _ => ∃ (c n : Int), vs = [.int c, .int n] /\ 0 <= n /\ n <= 100 /\ ∀ H' l (xs : List Int), Same H H' -> H l = none -> H' l = some (.lst (xs.map V.int)) -> xs.length = n.toNat -> (∀ x ∈ xs, Mx x) -> Q (.ref l) H'
theorem sc__law_stream : FnScope ["_law_cell", "_law_amount", "_law_found", "_law_number", "_law_k"] ["_law_cell", "_law_amount"] (ao fH) := ⟨rfl, rfl, rfl, by decide +kernel, rfl, by decide +kernel, by decide +kernel⟩
theorem xO {f  : Addr} {fd  : FuncData} (F : Fun K "_law_stream" "_law_stream" fH f fd) (jj : mg "range" = none) : FnOk P w K mg base CX0 1 f fd ["_law_cell", "_law_amount"] (cO K) := by
 refine F.ok sc__law_stream (fun vs H Q E h => ?_) (fun cdv A outer s H vs Q E hr h => ?_)
 ·obtain ⟨c, n, rfl, _⟩ := h
  rfl
 obtain ⟨c, n, rfl, h⟩ := h
 have hu64 := hr.units
 have hu0 := hr.units0
 have hu := bH hr
 refine ⟨_, (aq (aO (i := 2) sc__law_stream.nd rfl (Or.inl rfl) (j7 ak))
   (aq (aO (i := 3) sc__law_stream.nd rfl (Or.inl rfl) (aV fJ (aV cH (pv 0) aA) aA))
   (aq (iD PassesOwn.never rfl (nZ rfl jj (aa (aV fJ (pv 1) aA) ak)) (aZ (i := 4) sc__law_stream.nd rfl (Or.inl rfl))
   (aq (aO (i := 3) sc__law_stream.nd rfl (Or.inl rfl) (aV cH (aV fJ (aV fJ (aV uD (pv 3) (pv 3)) (aV uD aA (pv 3))) (pv 4)) aA))
   (aD (pA (lN (K := K) rfl (wY PySem.F.plainAttrs_list PySem.F.slot_list_append PySem.F.type_list_append lF (pv 2) (aa (pv 3) ak)))))))
   (aD (aW (jY (qF (K := K) rfl) (pv 2) (lA aA) ph)))))), ?_⟩
 obtain ⟨h0, h1, k⟩ := h
 clean_wf
 intro l H1 hl s1 g1
 clean_wf
 refine ⟨_, rfl, by omega, by omega, ?_⟩
 have c0 := Int.emod_nonneg c (show (2147483647 : Int) ≠ 0 by decide)
 have c1 := Int.emod_lt_of_pos c (show (0 : Int) < 2147483647 by decide)
 refine qW (fun i σ H' => ∃ v num xs, σ = [some (.int c), some (.int n), some (.ref l), some (.int num), v] /\ Same H H' /\ H' l = some (.lst ((xs : List Int).map V.int)) /\ xs.length = i /\ (∀ x ∈ xs, Mx x) /\ 0 <= num /\ num < 4294967296)
  ⟨none, _, [], rfl, s1, g1, rfl, (fun _ z => nomatch z), by omega, by omega⟩ ?_ ?_
 ·rintro i σ H' hi ⟨v, num, xs, rfl, sm, hl', lx, hm, n0, n1⟩
  have m1 : CMul num num := .inl ⟨by omega, by omega⟩
  have m2 : CMul 48271 num := .inl ⟨by decide, by decide⟩
  have le : (xs.map V.int).length <= 1000 := by rw [List.length_map]; omega
  have ls := aJ le
  clean_wf
  intro H2 b2 g2
  have z0 := Int.emod_nonneg (num * num + 48271 * num + (0 + (i : Int))) (show (2147483647 : Int) ≠ 0 by decide)
  have z1 := Int.emod_lt_of_pos (num * num + 48271 * num + (0 + (i : Int))) (show (0 : Int) < 2147483647 by decide)
  refine ⟨_, _, xs ++ [(num * num + 48271 * num + (0 + (i : Int))) % 2147483647], rfl, b2.same sm hl, by rw [g2, List.map_append]; rfl, by rw [List.length_append, lx]; rfl, fun x hx => ?_, z0, by omega⟩
  rcases List.mem_append.mp hx with z | z
  ·exact hm x z
  ·rw [List.mem_singleton.mp z]
   exact ⟨z0, z1⟩
 rintro σ H' ⟨v, num, xs, rfl, sm, hl', lx, hm, n0, n1⟩
 clean_wf
 intro q H2 hq s2 g2
 rw [Wz] at g2
 refine k H2 q (xs.drop 1) (sm.trans s2) (sm.free hq) g2 (by rw [List.length_drop, lx]; omega) fun x hx => hm x (List.mem_of_mem_drop hx)
theorem Pa (ns : List Int) (h : Int) : ((ns.map PyData.int).any fun z => z.eqv (.int h)) = decide (h ∈ ns) := by
 rw [List.any_map, Bool.eq_iff_iff, List.any_eq_true, decide_eq_true_iff]
 constructor
 ·rintro ⟨x, hx, e⟩
  have : x = h := by
   have e' : (x == h) = true := e
   exact eq_of_beq e'
  exact this ▸ hx
 ·intro hh
  exact ⟨h, hh, beq_self_eq_true (a := h)⟩
theorem yj {K : PySem.W.Frag} {H : Hp} : ∀ ns : List Int, Dps K H (ns.map V.int) (ns.map PyData.int)
 | [] => .nil
 | n :: ns => .cons (.int n) (yj ns)
theorem lay_ints : ∀ ns : List Int, PyData.canLayAll0 (ns.map PyData.int) = true
 | [] => rfl
 | n :: ns => by rw [List.map_cons, PyData.canLayAll0.eq_2, lay_ints ns]; rfl
theorem RG {K : PySem.W.Frag} {H : Hp} {Q : VK} {a : Addr} {ns : List Int} {h : Int} (ha : SqL K H a (ns.map V.int)) (q : Q (.bl (!decide (h ∈ ns))) H) : K7 K true (.int h) (.ref a) H Q :=
 ⟨a, _, _, _, rfl, .inl ha, yj ns, .int h, lay_ints ns, rfl, by show 0 <= 60; decide, by rw [Pa]; exact q⟩
theorem Li {n : Nat} (h : n <= 63) : Hs ((List.range n).map fun (i : Nat) => (i : Int)) := by
 refine ⟨?_, fun x hx => ?_⟩
 ·rw [List.pairwise_map]
  exact List.pairwise_lt_range.imp fun h => by omega
 ·obtain ⟨i, hi, rfl⟩ := List.mem_map.mp hx
  have := List.mem_range.mp hi
  omega
theorem Jh {ms ns : List Int} (pm : ms.Perm ns) (so : ms.Pairwise (· <= ·)) (nd : ns.Nodup) (rg : ∀ x ∈ ns, 0 <= x /\ x < 63) : Hs ms := by
 refine ⟨?_, fun x hx => rg x (pm.mem_iff.mp hx)⟩
 have n2 := pm.nodup_iff.mpr nd
 exact so.and n2 |>.imp fun ⟨a, b⟩ => by omega
def m9 (K : PySem.W.Frag) : Sp := fun vs H Q _ => ∃ (c : Int), vs = [.int c] /\ ∀ H' l (hs : List Int), Same H H' -> H l = none -> H' l = some (.lst (hs.map V.int)) -> Hs hs -> hs ≠ [] -> hs.length <= 5 -> Q (.ref l) H'
theorem sc__law_hands : FnScope ["_law_cell", "_law_found", "_law_number"] ["_law_cell"] (ao gO) := ⟨rfl, rfl, rfl, by decide +kernel, rfl, by decide +kernel, by decide +kernel⟩
theorem yC {f bz : Addr} {fd bw : FuncData} (F : Fun K "_law_hands" "_law_hands" gO f fd)
  (cu : FnOk P w K mg base CX0 1 bz bw ["_law_cell", "_law_amount"] (cO K)) (cj : Cal K mg "_law_stream" bz bw ["_law_cell", "_law_amount"]) (j4 : mg "list" = none) (jj : mg "range" = none) (iu : mg "sorted" = none) : FnOk P w K mg base CX0 2 f fd ["_law_cell"] (m9 K) := by
 refine F.ok sc__law_hands (fun vs H Q E h => ?_) (fun cdv A outer s H vs Q E hr h => ?_)
 ·obtain ⟨c, rfl, _⟩ := h
  rfl
 obtain ⟨c, rfl, h⟩ := h
 have hu64 := hr.units
 have hu0 := hr.units0
 have hu := bH hr
 refine ⟨_, (aq (jD (bI vf (aV cH (pv 0) aA) aA (bM _)) (aD (aW (bR (FZ rfl) (by rfl) j4 PyProof.Rows.boot_list (aa (bR BL (by rfl) jj PyProof.Rows.boot_range (aa (aV fJ aA (aV cH (aV wC (pv 0) aA) aA)) ak)) ak)))) cV)
   (aq (aO (i := 1) sc__law_hands.nd rfl (Or.inl rfl) (j7 ak))
   (aq (iD PassesOwn.never rfl (bx (K := K) rfl (bc cu cj hr (aa (pv 0) (aa (aV fJ aA (aV cH (aV wC (pv 0) aA) aA)) ak)))) (aZ (i := 2) sc__law_hands.nd rfl (Or.inl rfl))
   (aD (jD (bI (HW (K := K) rfl hu64) (aV cH (pv 2) aA) (pv 1) (by rfl)) (aD (pA (lN (K := K) rfl (wY PySem.F.plainAttrs_list PySem.F.slot_list_append PySem.F.type_list_append lF (pv 1) (aa (aV cH (pv 2) aA) ak))))) cV)))
   (aD (aW (bF Bb (by rfl) iu PyProof.Rows.boot_sorted (aa (pv 1) ak))))))), ?_⟩
 have r0 := Int.emod_nonneg (c / 3) (show (5 : Int) ≠ 0 by decide)
 have r1 := Int.emod_lt_of_pos (c / 3) (show (0 : Int) < 5 by decide)
 clean_wf
 refine jr (fun _ => ?_) fun _ => ?_
 ·clean_wf
  refine ⟨_, rfl, fun r hr => ?_⟩
  clean_wf
  have er : (1 + c / 3 % 5) = (((1 + c / 3 % 5).toNat : Nat) : Int) := by omega
  refine ⟨r, (1 + c / 3 % 5).toNat, rfl, by rw [aB, ← er], by omega, fun l hl => ?_⟩
  exact h _ l _ ((aH hr).trans (aH hl)) ((aH hr).free hl) aB (Li (by omega)) (by
   intro z
   have := congrArg List.length z
   rw [List.length_map, List.length_range, List.length_nil] at this
   omega) (by rw [List.length_map, List.length_range]; omega)
 ·clean_wf
  intro l H1 hl s1 g1
  clean_wf
  refine ⟨c, _, rfl, by omega, by omega, fun H2 q xs s2 hq g2 lx hm => ?_⟩
  have nlq : q ≠ l := fun z => by rw [z] at hq; rw [hq] at g1; cases g1
  have g12 := s2 _ _ g1
  clean_wf
  refine jZ (xs := xs.map V.int) (fun i σ H' => ∃ v ns, σ = [some (.int c), some (.ref l), v] /\ Same H H' /\ H' q = some (.lst (xs.map V.int)) /\ H' l = some (.lst ((ns : List Int).map V.int)) /\ ns.Nodup /\ (∀ x ∈ ns, 0 <= x /\ x < 63) /\ ns.length <= i /\ (0 < i -> ns ≠ []))
   ⟨none, [], rfl, s1.trans s2, g2, g12, .nil, (fun _ z => nomatch z), Nat.le_refl _, fun z => absurd z (Nat.lt_irrefl _)⟩ (fun i σ H' _ z => by obtain ⟨_, _, _, _, z, _⟩ := z; exact SqL.of z) ?_ ?_
  ·rintro i x σ H' hx ⟨v, ns, rfl, sm, hq', hl', nd, rg, ln, ne⟩
   obtain ⟨n, hn, rfl⟩ := iw hx
   have hi := (List.getElem?_eq_some_iff.mp hn).1
   have b0 := Int.emod_nonneg n (show (63 : Int) ≠ 0 by decide)
   have b1 := Int.emod_lt_of_pos n (show (0 : Int) < 63 by decide)
   have le : (ns.map V.int).length <= 1000 := by rw [List.length_map]; omega
   have ls := aJ le
   clean_wf
   refine RG (SqL.of hl') ?_
   clean_wf
   refine jr (fun h1 => ?_) fun h1 => ?_
   ·have h1 : n % 63 ∉ ns := by
     intro z
     rw [decide_eq_true z] at h1
     cases h1
    clean_wf
    intro H3 b3 g3
    refine ⟨_, ns ++ [n % 63], rfl, b3.same sm hl, b3.at nlq hq', by rw [g3, List.map_append]; rfl, ?_, fun x hx => ?_, by rw [List.length_append]; exact Nat.succ_le_succ ln, fun _ z => by simp at z⟩
    ·rw [List.nodup_append]
     refine ⟨nd, by simp, fun a ha b hb => ?_⟩
     rw [List.mem_singleton.mp hb]
     intro z
     exact h1 (z ▸ ha)
    ·rcases List.mem_append.mp hx with z | z
     ·exact rg x z
     ·rw [List.mem_singleton.mp z]
      exact ⟨b0, b1⟩
   ·have h1 : n % 63 ∈ ns := by
     by_cases z : n % 63 ∈ ns
     ·exact z
     ·rw [decide_eq_false z] at h1
      exact absurd rfl h1
    exact ⟨_, ns, rfl, sm, hq', hl', nd, rg, by omega, fun _ z => by rw [z] at h1; cases h1⟩
  rintro σ H' ⟨v, ns, rfl, sm, hq', hl', nd, rg, ln, ne⟩
  rw [List.length_map, lx] at ln ne
  clean_wf
  refine ⟨l, ns, rfl, SqL.of hl', by omega, fun p ms hp pm so => ?_⟩
  exact h _ p ms (sm.trans (aH hp)) (sm.free hp) aB (Jh pm so nd rg) (fun z => ne (by omega) (by rw [z] at pm; exact pm.symm.eq_nil)) (by rw [pm.length_eq]; omega)
theorem Ud {hs : List Int} (o : Hs hs) : hs.length < 64 := qJ (o.up.imp fun h => by omega) o.rg
theorem Pq {hs : List Int} (c : Hs hs) : (hs.map fun h => 1 * (2 : Int) ^ h.toNat).sum = ((orN hs : Nat) : Int) := by
 obtain ⟨l, rfl, up, rg⟩ := c.nat
 have e : ((l.map fun (h : Nat) => (h : Int)).map fun h => 1 * (2 : Int) ^ h.toNat).sum = ((GB.Pj l : Nat) : Int) := by
  rw [← sum_set l up, ← Dc, List.map_map, List.map_map]
  congr 1
  refine List.map_congr_left fun h _ => ?_
  show 1 * (2 : Int) ^ ((h : Int)).toNat = ((2 ^ h : Nat) : Int)
  rw [Int.toNat_natCast, Int.one_mul, p2c]
 rw [e]
 unfold orN GB.Pj
 rw [List.foldl_map]
 rfl
def qN (K : PySem.W.Frag) : Sp := fun vs H Q _ => ∃ a : Addr, vs = [.ref a] /\ ∃ hs : List Int, SqL K H a (hs.map V.int) /\ Hs hs /\ ∀ H', Same H H' -> Q (.int (orN hs : Nat)) H'
theorem CZ : FnScope ["_law_hands_here"] ["_law_hands_here"] (ao jR) := ⟨rfl, rfl, rfl, by decide +kernel, rfl, by decide +kernel, by decide +kernel⟩
theorem Cw {f  : Addr} {fd  : FuncData} (F : Fun K "_law_set" "_law_set" jR f fd) (Wi : mg "sum" = none) : FnOk P w K mg base CX0 1 f fd ["_law_hands_here"] (qN K) := by
 refine F.ok CZ (fun vs H Q E h => ?_) (fun cdv A outer s H vs Q E hr h => ?_)
 ·obtain ⟨a, rfl, _⟩ := h
  rfl
 obtain ⟨a, rfl, h⟩ := h
 have hu64 := hr.units
 have hu0 := hr.units0
 have hu := bH hr
 refine ⟨_, (aD (aW (bF (Jg rfl) (by rfl) Wi PyProof.Rows.boot_sum (aa (cI ["_law_hand"] [none] rfl rfl (by kernel_rfl) (bx (K := K) rfl (pv 0)) (fun _ _ _ _ _ nd => aZ (i := 0) nd rfl (Or.inl rfl)) (fun _ _ _ _ _ => fM) (fun _ _ _ _ _ => (aV An aA (pv 0)))) ak)))), ?_⟩
 obtain ⟨hs, hS, ho, kk⟩ := h
 have l64 := Ud ho
 clean_wf
 intro E hE
 refine bJ (K := K) (a := a) (xs := hs.map V.int) (fun i σ A => ∃ v, σ = [v] /\ Same H A /\ A E = some (.lst (((hs.take i).map fun h => 1 * (2 : Int) ^ h.toNat).map V.int))) ⟨none, rfl, aH hE, aB⟩ ?_ ?_ ?_
 ·rintro i σ A _ ⟨_, _, z, _⟩
  exact z.seq hS
 ·rintro i x σ A hx ⟨v, rfl, sA, gE⟩
  obtain ⟨n, hn, rfl⟩ := iw hx
  obtain ⟨n0, n1⟩ := ho.rg n (List.mem_of_getElem? hn)
  have hi := (List.getElem?_eq_some_iff.mp hn).1
  have cp : Kz 1 n := ⟨n0, by omega, by decide⟩
  clean_wf
  refine ⟨_, gE, aJ (by simp; omega), _, rfl, fun b o z => ?_, ?_⟩
  ·rw [aL (aC z hE)]
   exact sA b o z
  ·rw [aB, bf hn, List.map_append, List.map_append]
   rfl
 rintro σ A ⟨v, rfl, sA, gE⟩
 rw [List.length_map, List.take_length] at gE
 clean_wf
 refine ⟨E, _, rfl, SqL.of gE, ?_⟩
 rw [Pq ho]
 exact kk A sA
def oA (K : PySem.W.Frag) : Sp := fun vs H Q _ => ∃ (v : V), vs = [v] /\ ∃ x, TldA H v x /\ ∀ H' t, Same H H' -> H' t = some (.tup [.int x.c, .int x.k]) -> Q (.ref t) H'
theorem Ao : FnScope ["_law_call"] ["_law_call"] (ao iR) := ⟨rfl, rfl, rfl, by decide +kernel, rfl, by decide +kernel, by decide +kernel⟩
theorem Bu {f  : Addr} {fd  : FuncData} (F : Fun K "_law_rank" "_law_rank" iR f fd) : FnOk P w K mg base CX0 1 f fd ["_law_call"] (oA K) := by
 refine F.ok Ao (fun vs H Q E h => ?_) (fun cdv A outer s H vs Q E hr h => ?_)
 ·obtain ⟨v, rfl, _⟩ := h
  rfl
 obtain ⟨v, rfl, h⟩ := h
 have hu64 := hr.units
 have hu0 := hr.units0
 have hu := bH hr
 refine ⟨_, (aD (aW (dF (aa (aX (aY (K := K) rfl) (pv 0) aA (fun _ _ => rfl)) (aa (aX (aY (K := K) rfl) (pv 0) aA (fun _ _ => rfl)) ak))))), ?_⟩
 obtain ⟨x, ⟨a, t, xs, rfl, h1, h2, h3⟩, kk⟩ := h
 have st : SqT K H a [.int x.n, .int x.c, .int x.k, .str x.kd, .int x.w, .ref t] := SqT.of h1
 clean_wf
 intro u H1 hu s1 g1
 exact kk H1 u s1 g1
def mY (K : PySem.W.Frag) : Sp := fun vs H Q _ => ∃ (i : Int), vs = [.int i] /\ Q (.bl true) H
theorem yP : FnScope ["_law_found"] ["_law_found"] (ao gU) := ⟨rfl, rfl, rfl, by decide +kernel, rfl, by decide +kernel, by decide +kernel⟩
theorem yD {f  : Addr} {fd  : FuncData} (F : Fun K "_law_whole" "_law_whole" gU f fd) (Ff : mg "bool" = none) (Kc : mg "int" = none) (dj : mg "isinstance" = none) : FnOk P w K mg base CX0 1 f fd ["_law_found"] (mY K) := by
 refine F.ok yP (fun vs H Q E h => ?_) (fun cdv A outer s H vs Q E hr h => ?_)
 ·obtain ⟨i, rfl, _⟩ := h
  rfl
 obtain ⟨i, rfl, h⟩ := h
 have hu64 := hr.units
 have hu0 := hr.units0
 have hu := bH hr
 refine ⟨_, (aD (aW (wW (bF (lK (K := K) rfl) (by rfl) dj PyProof.Rows.boot_isinstance (aa (pv 0) (aa (qO Kc PyProof.Rows.boot_int) ak))) (uM (Gn (bF (lK (K := K) rfl) (by rfl) dj PyProof.Rows.boot_isinstance (aa (pv 0) (aa (qO Ff PyProof.Rows.boot_bool) ak)))))))), ?_⟩
 clean_wf
 refine ⟨_, _, _, true, rfl, .int _, (by kernel_rfl), ?_⟩
 clean_wf
 refine ⟨_, _, _, false, rfl, .int _, (by kernel_rfl), ?_⟩
 clean_wf
 exact h
end
end K52
namespace K52
open PySem L2
abbrev gP : Stmt := top 45
section
variable {P : Program} {w : World} {K : PySem.W.Frag} {mg : Str -> Option Value} {base : Heap}
def prs (S : List Int) (g : Int -> Int) : List (Int × Int) := S.map fun k => (k, g k)
theorem prs_td {m : List (Int × Int)} {S : List Int} (t : Td m) (pm : S.Perm (m.map (·.1))) : Td (prs S (ct m)) := by
 have ek : (prs S (ct m)).map (·.1) = S := by unfold prs; rw [List.map_map]; exact List.map_id' _
 refine ⟨⟨by rw [ek]; exact pm.nodup_iff.mpr t.nd, fun p hp => ?_, fun p hp => ?_⟩, fun p hp => ?_⟩
 all_goals
  unfold prs at hp
  obtain ⟨k, hk, rfl⟩ := List.mem_map.mp hp
  have hm := pm.mem_iff.mp hk
 ·exact Int.le_of_lt (t.pos hm)
 ·obtain ⟨q, hq, e⟩ := List.mem_map.mp hm
  have := t.toCk.rg q hq
  rw [e] at this
  exact this
 ·exact t.pos hm
theorem gC {xs : List Int} {i : Nat} (h : i < xs.length) : atI (xs.map V.int) (i : Int) = some (V.int xs[i]) := jh (by rw [List.getElem?_map, List.getElem?_eq_getElem h]; rfl)
def Sn (H A : Hp) (M T : Addr) (mm : List (Int × Int)) (v : V) : Prop := ∃ r s, v = .ref r /\ r ≠ M /\ r ≠ T /\ H r = none /\ A r = some (.dK (dI s)) /\ Td s /\ ∀ k, ct s k <= ct mm k
theorem Sn.up {H A A' : Hp} {M T : Addr} {mm : List (Int × Int)} {v : V} (h : Sn H A M T mm v) (k : ∀ r s, r ≠ M -> r ≠ T -> A r = some (.dK (dI s)) -> A' r = some (.dK (dI s))) : Sn H A' M T mm v := by
 obtain ⟨r, s, e, h1, h2, h3, h4, h5⟩ := h
 exact ⟨r, s, e, h1, h2, h3, k r s h1 h2 h4, h5⟩
structure Cst (H A : Hp) (l M T : Addr) (i : Nat) (ws : List V) (cs : List Cll) (mm : List (Int × Int)) (tm : List (Int × V)) : Prop where
 sm : Same H A
 gl : A l = some (.lst ws)
 gM : A M = some (.dK (dI mm))
 gT : A T = some (.dK (dG tm))
 ck : Ck mm
 nd : (tm.map (·.1)).Nodup
 tl : tm.length <= i
 sn : ∀ p ∈ tm, Sn H A M T mm p.2
 tls : Tls A ws cs
 lc : cs.length <= i
 ic : Inc cs
 rk : ∀ x ∈ cs, (Wf x /\ 0 < x.k) /\ x.k <= ct mm x.c
theorem Ia : ∀ {m : List (Int × V)} {k : Int} {v : V}, lkG m k = some v -> ∃ p ∈ m, p.2 = v
 | [], _, _, h => nomatch h
 | p :: m, k, v, h => by
  have h : (if p.1 = k then some p.2 else lkG m k) = some v := h
  by_cases e : p.1 = k
  ·rw [if_pos e] at h
   exact ⟨p, List.mem_cons_self, Option.some.inj h⟩
  ·rw [if_neg e] at h
   obtain ⟨q, hq, e2⟩ := Ia h
   exact ⟨q, List.mem_cons_of_mem _ hq, e2⟩
theorem putg_new : ∀ {m : List (Int × V)} {k : Int} {v : V}, lkG m k = none -> vP m k v = m ++ [(k, v)] /\ k ∉ m.map (·.1)
 | [], _, _, _ => ⟨rfl, by simp⟩
 | p :: m, k, v, h => by
  have h : (if p.1 = k then some p.2 else lkG m k) = none := h
  by_cases e : p.1 = k
  ·rw [if_pos e] at h; cases h
  ·rw [if_neg e] at h
   obtain ⟨a, b⟩ := putg_new (v := v) h
   refine ⟨?_, ?_⟩
   ·show (if p.1 = k then (p.1, v) :: m else p :: vP m k v) = _
    rw [if_neg e, a]
    rfl
   ·rw [List.map_cons, List.mem_cons]
    rintro (z | z)
    ·exact e z.symm
    ·exact b z
def mX (K : PySem.W.Frag) : Sp := fun vs H Q _ => ∃ (b a : Addr) (n : Int), vs = [.ref b, .ref a, .int n] /\ ∃ (ns hs : List Int), SqL K H b (ns.map V.int) /\ ns.length <= 16 /\ SqL K H a (hs.map V.int) /\ Hs hs /\ hs ≠ [] /\ hs.length <= 5 /\
 ∀ H' l ws cs, Same H H' -> H l = none -> H' l = some (.lst ws) -> Tls H' ws cs -> Inc cs -> (∀ x ∈ cs, Wf x /\ 0 < x.k) -> cs.length <= 16 -> Q (.ref l) H'
theorem sc__law_calls : FnScope ["_law_cells", "_law_hands_here", "_law_number", "_law_calls_here", "_law_made", "_law_taken", "_law_cell", "_law_xs", "_law_caller", "_law_seen", "_law_k", "_law_most", "_law_more", "_law_kind", "_law_causes", "_law_word"] ["_law_cells", "_law_hands_here", "_law_number"] (ao gP) := ⟨rfl, rfl, rfl, by decide +kernel, rfl, by decide +kernel, by decide +kernel⟩
theorem yI {f bz : Addr} {fd bw : FuncData} (F : Fun K "_law_calls" "_law_calls" gP f fd)
  (cu : FnOk P w K mg base CX0 1 bz bw ["_law_cell", "_law_amount"] (cO K)) (cj : Cal K mg "_law_stream" bz bw ["_law_cell", "_law_amount"]) (jC : mg "len" = none) (jj : mg "range" = none) (iu : mg "sorted" = none) (iC : mg "tuple" = none) : FnOk P w K mg base CX0 2 f fd ["_law_cells", "_law_hands_here", "_law_number"] (mX K) := by
 refine F.ok sc__law_calls (fun vs H Q E h => ?_) (fun cdv A outer s H vs Q E hr h => ?_)
 ·obtain ⟨b, a, n, rfl, _⟩ := h
  rfl
 obtain ⟨b, a, n, rfl, h⟩ := h
 have hu64 := hr.units
 have hu0 := hr.units0
 have hu := bH hr
 refine ⟨_, (aq (aO (i := 3) sc__law_calls.nd rfl (Or.inl rfl) (j7 ak))
   (aq (aO (i := 4) sc__law_calls.nd rfl (Or.inl rfl) nu)
   (aq (aO (i := 5) sc__law_calls.nd rfl (Or.inl rfl) nu)
   (aq (iD PassesOwn.never rfl (bx (K := K) rfl (pv 0)) (aZ (i := 6) sc__law_calls.nd rfl (Or.inl rfl))
   (aq (aO (i := 7) sc__law_calls.nd rfl (Or.inl rfl) (bc cu cj hr (aa (pv 6) (aa aA ak))))
   (aq (aO (i := 8) sc__law_calls.nd rfl (Or.inl rfl) (aX (bu (K := K) rfl) (pv 1) (aV cH (aX (bu (K := K) rfl) (pv 7) aA (fun _ _ => rfl)) (bF (fG (K := K) rfl) (by rfl) jC PySem.boot_len (aa (pv 1) ak))) (fun _ _ => rfl)))
   (aq (aO (i := 9) sc__law_calls.nd rfl (Or.inr rfl) (wY PySem.F.plainAttrs_dict PySem.F.slot_dict_setdefault PySem.F.type_dict_setdefault G4 (pv 5) (aa (pv 8) (aa nu ak))))
   (aq (iD PassesOwn.never rfl (nZ rfl jj (aa (bF (fG (K := K) rfl) (by rfl) jC PySem.boot_len (aa (pv 1) ak)) ak)) (aZ (i := 10) sc__law_calls.nd rfl (Or.inl rfl))
   (aq (aO (i := 11) sc__law_calls.nd rfl (Or.inl rfl) (aV Fl (lY hu (pv 4) (aX (bu (K := K) rfl) (pv 1) (pv 10) (fun _ _ => rfl)) aA ⟨rfl, rfl, rfl, rfl⟩) (lY hu (pv 9) (aX (bu (K := K) rfl) (pv 1) (pv 10) (fun _ _ => rfl)) aA ⟨rfl, rfl, rfl, rfl⟩)))
   (aq (aO (i := 12) sc__law_calls.nd rfl (Or.inl rfl) (aV fJ (lY hu (pv 9) (aX (bu (K := K) rfl) (pv 1) (pv 10) (fun _ _ => rfl)) aA ⟨rfl, rfl, rfl, rfl⟩) (aV cH (aX (bu (K := K) rfl) (pv 7) (aV fJ aA (pv 10)) (fun _ _ => rfl)) (aV fJ (pv 11) aA))))
   (aD (jD (bI zJ (pv 12) aA (bM _)) (aD (q9 hu (pv 9) (aX (bu (K := K) rfl) (pv 1) (pv 10) (fun _ _ => rfl)) (pv 12) rfl)) cV)))))
   (aq (q9 hu (pv 4) (pv 8) (aV fJ (lY hu (pv 4) (pv 8) aA ⟨rfl, rfl, rfl, rfl⟩) aA) rfl)
   (aq (aO (i := 13) sc__law_calls.nd rfl (Or.inl rfl) (aX (bu (K := K) rfl) (j7 (aa lO (aa lO (aa lO (aa lO ak))))) (aV cH (aX (bu (K := K) rfl) (pv 7) aA (fun _ _ => rfl)) aA) (fun _ _ => rfl)))
   (aq (aO (i := 14) sc__law_calls.nd rfl (Or.inl rfl) (dF ak))
   (aq (jD (bI QL (pv 13) lO (bM _)) (aD (aO (i := 14) sc__law_calls.nd rfl (Or.inl rfl) (bR (iZ (K := K) rfl) (by rfl) iC PyProof.Rows.boot_tuple (aa (cI ["_law_seen", "_law_hand"] [some 9, none] rfl rfl (by kernel_rfl) (bx (K := K) rfl (bF (tV rfl) (by rfl) iu PyProof.Rows.boot_sorted (aa (pv 9) ak))) (fun _ _ _ _ _ nd => aZ (i := 1) nd rfl (Or.inl rfl)) (fun _ _ _ _ _ => fM) (fun _ _ _ _ _ => (dF (aa (pv 1) (aa (Aq hu (pv 0) (pv 1) (fun _ _ => rfl)) ak))))) ak)))) cV)
   (aq (aO (i := 15) sc__law_calls.nd rfl (Or.inl rfl) (aV Fl (aV cH (pv 6) (aV zQ aA aA)) (aV uD (aV zQ aA aA) (aV cH (aX (bu (K := K) rfl) (pv 7) aA (fun _ _ => rfl)) aA))))
   (aD (pA (lN (K := K) rfl (wY PySem.F.plainAttrs_list PySem.F.slot_list_append PySem.F.type_list_append lF (pv 3) (aa (dF (aa (pv 2) (aa (pv 8) (aa (Aq hu (pv 4) (pv 8) (fun _ _ => rfl)) (aa (pv 13) (aa (pv 15) (aa (pv 14) ak))))))) ak)))))))))))))))
   (aD (aW (pv 3))))))), ?_⟩
 obtain ⟨ns, hs, hN, ln, hS, ho, hne, lh, kk⟩ := h
 have lh0 : 0 < hs.length := List.length_pos_iff.mpr hne
 clean_wf
 intro l H1 hl s1 g1
 clean_wf
 intro M H2 hM s2 g2
 clean_wf
 intro T H3 hT s3 g3
 have s02 := s1.trans s2
 have s03 := s02.trans s3
 have hM0 : H M = none := s1.free hM
 have hT0 : H T = none := s02.free hT
 have nlM : l ≠ M := aC g1 hM
 have nlT : l ≠ T := aC (s2 _ _ g1) hT
 have nMT : M ≠ T := aC g2 hT
 have hN3 := s03.seq hN
 clean_wf
 refine jZ (xs := ns.map V.int) (fun i σ A => ∃ v6 v7 v8 v9 v10 v11 v12 v13 v14 v15 ws cs mm tm, σ = [some (.ref b), some (.ref a), some (.int n), some (.ref l), some (.ref M), some (.ref T), v6, v7, v8, v9, v10, v11, v12, v13, v14, v15] /\ Cst H A l M T i ws cs mm tm)
  ⟨none, none, none, none, none, none, none, none, none, none, [], [], [], [], rfl, s03, s3 _ _ (s2 _ _ g1), s3 _ _ g2, g3, Ck.nil, List.nodup_nil, Nat.le_refl _, (fun _ z => nomatch z), .nil, Nat.le_refl _, List.Pairwise.nil, (fun _ z => nomatch z)⟩ (fun i σ A _ z => by obtain ⟨_, _, _, _, _, _, _, _, _, _, _, _, _, _, _, z⟩ := z; exact z.sm.seq hN) ?_ ?_
 ·rintro i x σ A hx ⟨v6, v7, v8, v9, v10, v11, v12, v13, v14, v15, ws, cs, mm, tm, rfl, C⟩
  obtain ⟨c, hh, rfl⟩ := iw hx
  have hi := (List.getElem?_eq_some_iff.mp hh).1
  clean_wf
  refine ⟨c, 8, rfl, by decide, by decide, fun A1 q xs t1 hq gq lx hm => ?_⟩
  have lx8 : xs.length = 8 := lx
  have at0 := gC (xs := xs) (i := 0) (by omega)
  have at6 := gC (xs := xs) (i := 6) (by omega)
  have at7 := gC (xs := xs) (i := 7) (by omega)
  have sq : SqL K A1 q (xs.map V.int) := SqL.of gq
  have hS1 := (C.sm.trans t1).seq hS
  have ml : (0 : Int) < (((hs.map V.int).length : Nat) : Int) := by rw [List.length_map]; omega
  have j0 := Int.emod_nonneg xs[0] (show (((hs.map V.int).length : Nat) : Int) ≠ 0 by omega)
  have j1 := Int.emod_lt_of_pos xs[0] ml
  have jl : (xs[0] % (((hs.map V.int).length : Nat) : Int)).toNat < hs.length := by rw [List.length_map] at j1 j0 ⊢; omega
  obtain ⟨h, hhs⟩ : ∃ h, hs[(xs[0] % (((hs.map V.int).length : Nat) : Int)).toNat]? = some h := ⟨_, List.getElem?_eq_getElem jl⟩
  have hr := ho.rg h (List.mem_of_getElem? hhs)
  have hat : atI (hs.map V.int) (xs[0] % (((hs.map V.int).length : Nat) : Int)) = some (V.int h) := wu j0 (by rw [List.getElem?_map, hhs]; rfl)
  clean_wf
  have gT1 := t1 _ _ C.gT
  have tl0 := C.tl
  refine ⟨.inr (.inr (.inl ⟨rfl, .inl ⟨_, gT1⟩⟩)), ?_⟩
  clean_wf
  intro e A2 he t2 ge
  have t12 := t1.trans t2
  refine Rq (t2 _ _ gT1) C.nd (by omega) fun v A3 hv => ?_
  have key : ∃ tm3, A3 T = some (.dK (dG tm3)) /\ (tm3.map (·.1)).Nodup /\ tm3.length <= i + 1 /\ (∀ p ∈ tm3, Sn H A3 M T mm p.2) /\ Sn H A3 M T mm v /\ Same H A3 /\ SmB T A2 A3 := by
   have sn2 : ∀ p ∈ tm, Sn H A2 M T mm p.2 := fun p hp => (C.sn p hp).up fun r s _ _ z => t12 _ _ z
   rcases hv with ⟨e1, rfl⟩ | ⟨e1, rfl, rfl⟩
   ·obtain ⟨p, hp, rfl⟩ := Ia e1
    exact ⟨tm, t2 _ _ gT1, C.nd, by omega, sn2, sn2 p hp, C.sm.trans t12, SmB.refl _ _⟩
   ·obtain ⟨p1, p2⟩ := putg_new (v := V.ref e) e1
    have neT : e ≠ T := fun z => by rw [z, gT1] at he; cases he
    have neM : e ≠ M := fun z => by rw [z, t1 _ _ C.gM] at he; cases he
    have k3 : ∀ b o, b ≠ T -> A2 b = some o -> (upd A2 T (.dK (dG (vP tm h (.ref e))))) b = some o := fun b o nb z => by rw [aL nb]; exact z
    have snE : Sn H (upd A2 T (.dK (dG (vP tm h (.ref e))))) M T mm (.ref e) := ⟨e, [], rfl, neM, neT, (C.sm.trans t1).free he, k3 e _ neT ge, Td.nil, fun k => C.ck.ct k⟩
    refine ⟨vP tm h (.ref e), aB, ?_, ?_, ?_, snE, fun b o z => k3 b o (aC z hT0) ((C.sm.trans t12) b o z), fun b o nb z => k3 b o nb z⟩
    ·rw [p1, List.map_append, List.nodup_append]
     refine ⟨C.nd, by simp, fun x hx y hy => ?_⟩
     have : y = h := by simpa using hy
     rw [this]
     intro z
     exact p2 (z ▸ hx)
    ·rw [p1, List.length_append]
     exact Nat.succ_le_succ tl0
    ·intro p hp
     rw [p1] at hp
     rcases List.mem_append.mp hp with z | z
     ·exact (sn2 p z).up fun r s _ nT g => k3 r _ nT g
     ·rw [List.mem_singleton.mp z]
      exact snE
  obtain ⟨tm3, gT3, nd3, tl3, sn3, ⟨r, s0, rfl, rM, rT, hr0, gr, ts, les⟩, sm3, sb3⟩ := key
  have gs0 := gr
  clear hv
  have nqT : q ≠ T := fun z => by rw [z, C.gT] at hq; cases hq
  have gl3 := sb3 _ _ nlT (t12 _ _ C.gl)
  have gM3 := sb3 _ _ nMT (t12 _ _ C.gM)
  have gq3 := sb3 _ _ nqT (t2 _ _ gq)
  have mh3 : SmH A A3 := fun b ys z => sb3 b _ (fun w => by rw [w, C.gT] at z; cases z) (t12 _ _ z)
  have nqr : q ≠ r := nP gq3 gr (by intro z; cases z)
  have nlr : l ≠ r := nP gl3 gr (by intro z; cases z)
  have hS3 := sm3.seq hS
  clean_wf
  refine ⟨_, rfl, by omega, by rw [List.length_map]; omega, ?_⟩
  refine qW (fun k σ B => ∃ v10 v11 v12 s, σ = [some (.ref b), some (.ref a), some (.int n), some (.ref l), some (.ref M), some (.ref T), some (.int c), some (.ref q), some (.int h), some (.ref r), v10, v11, v12, v13, v14, v15] /\ SmB r A3 B /\ B r = some (.dK (dI s)) /\ Td s /\ ∀ k, ct s k <= ct mm k) ⟨v10, v11, v12, s0, rfl, SmB.refl _ _, gr, ts, les⟩ ?_ ?_
  ·clear ts les gr
   rintro k σ B hk ⟨v10, v11, v12, s, rfl, sB, gs, tss, le⟩
   have hk5 : k < hs.length := by rw [Int.toNat_natCast, List.length_map] at hk; exact hk
   have smB : Same H B := fun b o z => sB b o (aC z hr0) (sm3 b o z)
   have hSB := smB.seq hS
   have gMB := sB _ _ rM.symm gM3
   have sqB : SqL K B q (xs.map V.int) := SqL.of (sB _ _ nqr gq3)
   have hk' : atI (hs.map V.int) (0 + (k : Int)) = some (V.int hs[k]) := by rw [Int.zero_add]; exact gC hk5
   have xk : atI (xs.map V.int) (1 + (0 + (k : Int))) = some (V.int xs[1 + k]) := by rw [show (1 + (0 + (k : Int))) = ((1 + k : Nat) : Int) by omega]; exact gC (by omega)
   have lek := le hs[k]
   have md : 0 < (lkI mm hs[k]).getD 0 - (lkI s hs[k]).getD 0 + 1 := by unfold ct at lek; omega
   have kr := ho.rg hs[k] (List.getElem_mem _)
   have nds := tss.nd
   have lss := tss.toCk.len
   clean_wf
   refine jr (fun h1 => ?_) fun h1 => ?_
   ·have h1 : 0 < (lkI s hs[k]).getD 0 + xs[1 + k] % ((lkI mm hs[k]).getD 0 - (lkI s hs[k]).getD 0 + 1) := by simpa using h1
    clean_wf
    intro B4 b4 g4
    refine ⟨_, _, _, _, rfl, sB.but b4, g4, Ep tss kr.1 kr.2 h1, fun j => ?_⟩
    rw [qD]
    by_cases z : j = hs[k]
    ·rw [if_pos z, z]
     have := Int.emod_lt_of_pos xs[1 + k] md
     unfold ct
     omega
    ·rw [if_neg z]
     exact le j
   ·exact ⟨_, _, _, s, rfl, sB, gs, tss, le⟩
  clear ts les gr
  rintro σ B ⟨v10, v11, v12, s, rfl, sB, gs, tss, le⟩
  have smB : Same H B := fun b o z => sB b o (aC z hr0) (sm3 b o z)
  have gMB := sB _ _ rM.symm gM3
  have gTB := sB _ _ rT.symm gT3
  have glB := sB _ _ nlr gl3
  have gqB := sB _ _ nqr gq3
  have mhB : SmH A3 B := fun b ys z => sB b _ (fun w => by rw [w, gs0] at z; cases z) z
  have ndm := C.ck.nd
  have lm := C.ck.len
  clean_wf
  intro B1 b1 g1'
  have nqM : q ≠ M := fun z => by rw [z, C.gM] at hq; cases hq
  have glB1 := b1.at nlM glB
  have gTB1 := b1.at nMT.symm gTB
  have gs1 := b1.at rM gs
  have gqB1 := b1.at nqM gqB
  have sm1 : Same H B1 := b1.same smB hM0
  have mh1 : SmH A B1 := mh3.trans (mhB.trans (SmH.but b1 gMB (by intro _ z; cases z)))
  obtain ⟨kd, hkd, ekd⟩ : ∃ kd, atI [V.str "own", V.str "heard", V.str "one", V.str "one"] (xs[6] % 4) = some (V.str kd) /\ (kd = "own" ∨ kd = "heard" ∨ kd = "one") := by
   have k0 := Int.emod_nonneg xs[6] (show (4 : Int) ≠ 0 by decide)
   have k1 := Int.emod_lt_of_pos xs[6] (show (0 : Int) < 4 by decide)
   generalize xs[6] % 4 = j at k0 k1 ⊢
   rcases (by omega : j = 0 ∨ j = 1 ∨ j = 2 ∨ j = 3) with rfl | rfl | rfl | rfl
   ·exact ⟨_, rfl, .inl rfl⟩
   ·exact ⟨_, rfl, .inr (.inl rfl)⟩
   ·exact ⟨_, rfl, .inr (.inr rfl)⟩
   ·exact ⟨_, rfl, .inr (.inr rfl)⟩
  clean_wf
  intro k0 B2 hk0 t4 gk
  have sk : SqL K B2 k0 [V.str "own", V.str "heard", V.str "one", V.str "one"] := SqL.of gk
  have sq2 : SqL K B2 q (xs.map V.int) := SqL.of (t4 _ _ gqB1)
  clean_wf
  intro t0 B3 ht0 t5 gt0
  have t45 := t4.trans t5
  refine K3 (fun σ' D => ∃ t ys ps, σ' = [some (.ref b), some (.ref a), some (.int n), some (.ref l), some (.ref M), some (.ref T), some (.int c), some (.ref q), some (.int h), some (.ref r), v10, v11, v12, some (.str kd), some (.ref t), v15] /\ Same B1 D /\ D t = some (.tup ys) /\ Prs D ys ps /\ Ck ps /\ (kd = "own" -> ps = [])) ?_ fun N rest => ?_
  ·rintro σ' D ⟨t, ys, ps, rfl, t6, gt, pr, ck, ow⟩
   have sqD : SqL K D q (xs.map V.int) := SqL.of (t6 _ _ gqB1)
   have gMD := t6 _ _ g1'
   have glD := t6 _ _ glB1
   have hg4 : lkI (eV mm h ((lkI mm h).getD 0 + 1)) h = some ((lkI mm h).getD 0 + 1) := Dw _ _ _
   have x70 := Int.emod_nonneg xs[7] (show (2 : Int) ≠ 0 by decide)
   have x71 := Int.emod_lt_of_pos xs[7] (show (0 : Int) < 2 by decide)
   have cmu : CMul (10 ^ (59 : Int).toNat) (xs[7] % 2) := .inr ⟨by omega, by omega⟩
   have p60 := Lq
   have lw : ws.length = cs.length := Paired.length C.tls
   have lc0 := C.lc
   have ls : ws.length < sizeLine := aJ (by omega)
   clean_wf
   intro u D2 hu t7 gu
   have glD2 := t7 _ _ glD
   clean_wf
   intro D3 b8 g8
   have m23 : SmH D2 D3 := SmH.but b8 glD2 (by intro _ z; cases z)
   have mAD : SmH A D3 := mh1.trans ((SmH.same (t6.trans t7)).trans m23)
   have toD3 : ∀ b o, b ≠ M -> b ≠ l -> B b = some o -> D3 b = some o := fun b o n1 n2 z => b8.at n2 (t7 _ _ (t6 _ _ (b1.at n1 z)))
   have mono : ∀ j, ct mm j <= ct (eV mm h (ct mm h + 1)) j := fun j => by
    rw [qD]
    by_cases z : j = h
    ·rw [if_pos z, z]; omega
    ·rw [if_neg z]; exact Int.le_refl _
   have c0h := C.ck.ct h
   have w0 := Int.emod_nonneg c (Int.ne_of_gt p60)
   have w1 := Int.emod_lt_of_pos c p60
   have e59 : (10 : Int) ^ (60 : Int).toNat = 10 * 10 ^ (59 : Int).toNat := by decide +kernel
   have wb : (if c % 10 ^ (60 : Int).toNat - 10 ^ (59 : Int).toNat * (xs[7] % 2) < 0 then -(c % 10 ^ (60 : Int).toNat - 10 ^ (59 : Int).toNat * (xs[7] % 2)) else c % 10 ^ (60 : Int).toNat - 10 ^ (59 : Int).toNat * (xs[7] % 2)) < (10 : Int) ^ (60 : Int).toNat := by
    generalize c % 10 ^ (60 : Int).toNat = y at w0 w1 ⊢
    rw [e59] at w1 p60 ⊢
    generalize (10 : Int) ^ (59 : Int).toNat = z at w1 p60 ⊢
    rcases (by omega : xs[7] % 2 = 0 ∨ xs[7] % 2 = 1) with e | e <;> rw [e] <;> (try rw [Int.mul_zero]) <;> (try rw [Int.mul_one]) <;> split <;> omega
   refine ⟨_, _, _, _, _, _, _, _, _, _, ws ++ [.ref u], cs ++ [⟨kd, n, h, ct mm h + 1, c % 10 ^ (60 : Int).toNat - 10 ^ (59 : Int).toNat * (xs[7] % 2), ps⟩], eV mm h (ct mm h + 1), tm3, rfl, ?_⟩
   refine ⟨b8.same (sm1.trans (t6.trans t7)) hl, g8, b8.at nlM.symm (t7 _ _ gMD), b8.at nlT.symm (t7 _ _ (t6 _ _ gTB1)), C.ck.put hr.1 hr.2 (by omega), nd3, tl3, fun p hp => ?_, cJ (fY mAD C.tls) ⟨u, t, ys, rfl, m23 _ _ gu, m23 _ _ (t7 _ _ gt), pr.mono ((SmH.same t7).trans m23)⟩, by rw [List.length_append]; exact Nat.succ_le_succ lc0, KZ C.ic fun y hy e => ?_, fun x hx => ?_⟩
   ·obtain ⟨r', s', e, h1, h2, h3, h4, h5, h6⟩ := sn3 p hp
    by_cases z : r' = r
    ·exact ⟨r, s, by rw [e, z], rM, rT, hr0, toD3 r _ rM nlr.symm gs, tss, fun j => Int.le_trans (le j) (mono j)⟩
    ·exact ⟨r', s', e, h1, h2, h3, toD3 r' _ h1 (nP h4 gl3 (by intro z; cases z)) (sB _ _ z h4), h5, fun j => Int.le_trans (h6 j) (mono j)⟩
   ·have e : y.c = h := e
    have := (C.rk y hy).2
    rw [e] at this
    show y.k < ct mm h + 1
    omega
   ·rcases List.mem_append.mp hx with z | z
    ·exact ⟨(C.rk x z).1, Int.le_trans (C.rk x z).2 (mono _)⟩
    ·rw [List.mem_singleton.mp z]
     refine ⟨⟨⟨ekd, wb, ck, ow, hr.1, hr.2⟩, by show 0 < ct mm h + 1; omega⟩, ?_⟩
     show ct mm h + 1 <= ct (eV mm h (ct mm h + 1)) h
     rw [qD, if_pos rfl]
     exact Int.le_refl _
  ·clean_wf
   refine jr (fun h1 => ?_) fun h1 => ?_
   ·have gs3 := t45 _ _ gs1
    clean_wf
    refine ⟨r, s, rfl, .inl gs3, qG tss.toCk, fun p Tt hp pT sT => ?_⟩
    have s3' := aH (o := .lst (Tt.map V.int)) hp
    have g3' : (upd B3 p (.lst (Tt.map V.int))) p = some (.lst (Tt.map V.int)) := aB
    generalize upd B3 p (.lst (Tt.map V.int)) = B4 at s3' g3' ⊢
    have lT : Tt.length < 64 := by rw [pT.length_eq, List.length_map]; exact qG tss.toCk
    refine ⟨p, rfl, ⟨_, SqL.of g3'⟩, fun E1 hE1 => ?_⟩
    refine bJ (K := K) (a := p) (xs := Tt.map V.int) (fun i' σ A => ∃ v zs, σ = [some (.ref r), v] /\ Same B4 A /\ A E1 = some (.lst zs) /\ zs.length <= i' /\ Prs A zs (prs (Tt.take i') (ct s))) ⟨none, [], rfl, aH hE1, aB, Nat.le_refl _, .nil⟩ ?_ ?_ ?_
    ·rintro i' σ A _ ⟨_, _, _, z, _⟩
     exact SqL.of (z _ _ g3')
    ·rintro i' x σ A hx' ⟨v, zs, rfl, sA, hEx, lz, pz⟩
     obtain ⟨cl, hc, rfl⟩ := iw hx'
     have hi' := (List.getElem?_eq_some_iff.mp hc).1
     have hrA := sA _ _ (s3' _ _ gs3)
     have hlc : lkI s cl = some (ct s cl) := Rh (pT.mem_iff.mp (List.mem_of_getElem? hc))
     clean_wf
     intro u A1' hu' sA1 gA1
     have hE1' := sA1 _ _ hEx
     refine ⟨zs, hE1', aJ (by omega), _, _, rfl, fun b o z => ?_, aB, by rw [List.length_append]; exact Nat.succ_le_succ lz, ?_⟩
     ·rw [aL (aC z hE1)]
      exact sA1 _ _ (sA b o z)
     ·have kp : ∀ a xs, A1' a = some (.tup xs) -> (upd A1' E1 (.lst (zs ++ [V.ref u]))) a = some (.tup xs) := fun a xs z => by
       rw [aL (nP z hE1' (by intro z; cases z))]
       exact z
      have e : prs (Tt.take (i' + 1)) (ct s) = prs (Tt.take i') (ct s) ++ [(cl, ct s cl)] := by
       unfold prs
       rw [bf hc, List.map_append]
       rfl
      rw [e]
      exact Prs.snoc (pz.mono fun a xs z => kp _ _ (sA1 _ _ z)) ⟨u, rfl, kp _ _ gA1⟩
    rintro σ A ⟨v, zs, rfl, sA, hEx, lz, pz⟩
    rw [show Tt.take (Tt.map V.int).length = Tt by rw [List.length_map, List.take_length]] at pz
    clean_wf
    intro u H4 hu4 s4 g4
    refine rest _ _ ⟨u, zs, _, rfl, t45.trans (s3'.trans (sA.trans s4)), g4, pz.mono fun a xs z => s4 _ _ z, (prs_td tss pT).toCk, fun z => ?_⟩
    rw [z] at h1
    simp at h1
   ·exact rest _ _ ⟨t0, [], [], rfl, t45, gt0, .nil, Ck.nil, fun _ => rfl⟩
 rintro σ A ⟨v6, v7, v8, v9, v10, v11, v12, v13, v14, v15, ws, cs, mm, tm, rfl, C⟩
 clean_wf
 have lc := C.lc
 rw [List.length_map] at lc
 exact kk A l ws cs C.sm hl C.gl C.tls C.ic (fun x hx => (C.rk x hx).1) (by omega)
end
end K52
namespace K52
open PySem L2
abbrev fj : Stmt := top 46
section
variable {P : Program} {w : World} {K : PySem.W.Frag} {mg : Str -> Option Value} {base : Heap}
theorem Ly {xs : List V} {a b : Option Int} {x : V} (h : x ∈ jB xs a b) : x ∈ xs := by
 unfold jB at h
 exact List.mem_of_mem_drop (List.mem_of_mem_take h)
theorem MN (xs : List V) (a b : Option Int) : (jB xs a b).length <= xs.length := by
 unfold jB
 rw [List.length_take, List.length_drop]
 omega
theorem GJ {α β : Type} {F : α -> β -> Prop} {l : List α} {m : List β} (h : Paired F l m) {a : α} (ha : a ∈ l) : ∃ b ∈ m, F a b := by
 obtain ⟨i, hi⟩ := List.getElem?_of_mem ha
 obtain ⟨b, hb, f⟩ := bC h hi
 exact ⟨b, List.mem_of_getElem? hb, f⟩
theorem KD {H : Hp} {xs ws : List V} {cs : List Cll} (h : Tls H xs cs) (p : ws.Perm xs) : ∃ ds, Tls H ws ds /\ ds.length = cs.length /\ ∀ x ∈ ds, x ∈ cs := by
 induction p generalizing cs with
 | nil => exact ⟨cs, h, rfl, fun _ z => z⟩
 | cons x p ih =>
  cases h with
  | cons r t =>
   obtain ⟨ds, a, b, c⟩ := ih t
   refine ⟨_ :: ds, .cons r a, by rw [List.length_cons, List.length_cons, b], fun y hy => ?_⟩
   rcases List.mem_cons.mp hy with z | z
   ·rw [z]; exact List.mem_cons_self
   ·exact List.mem_cons_of_mem _ (c y z)
 | swap x y l =>
  cases h with
  | cons r t =>
   cases t with
   | cons r2 t2 =>
    refine ⟨_, .cons r2 (.cons r t2), rfl, fun z hz => ?_⟩
    simp only [List.mem_cons] at hz ⊢
    rcases hz with a | a | a
    ·exact .inr (.inl a)
    ·exact .inl a
    ·exact .inr (.inr a)
 | trans p q ih1 ih2 =>
  obtain ⟨d1, a, b, c⟩ := ih2 h
  obtain ⟨d2, a2, b2, c2⟩ := ih1 a
  exact ⟨d2, a2, b2.trans b, fun x hx => c x (c2 x hx)⟩
def my (K : PySem.W.Frag) : Sp := fun vs H Q _ => ∃ (h : Int) (l p : Addr) (c : Int), vs = [.int h, .ref l, .ref p, .int c] /\ ∃ ws cs ys ns, SqL K H l ws /\ Tls H ws cs /\ cs.length <= 16 /\ (∀ x ∈ cs, Wf x /\ 0 < x.k) /\ SqL K H p ys /\ Nms H ys ns /\ ns.length <= 16 /\
 ∀ H' t r, Same H H' -> H t = none -> RpA H' (.ref t) r -> r.1 = h -> Td r.2.1 -> r.2.2.1.length <= 16 -> (∀ x ∈ r.2.2.2.2, x ∈ cs) -> Q (.ref t) H'
theorem sc__law_report : FnScope ["_law_hand", "_law_calls_here", "_law_places", "_law_cell", "_law_xs", "_law_floor", "_law_call", "_law_kept", "_law_k", "_law_bound", "_law_some"] ["_law_hand", "_law_calls_here", "_law_places", "_law_cell"] (ao fj) := ⟨rfl, rfl, rfl, by decide +kernel, rfl, by decide +kernel, by decide +kernel⟩
theorem yo {f bz vG : Addr} {fd bw ut : FuncData} (F : Fun K "_law_report" "_law_report" fj f fd)
  (cu : FnOk P w K mg base CX0 2 bz bw ["_law_cell", "_law_amount"] (cO K)) (cj : Cal K mg "_law_stream" bz bw ["_law_cell", "_law_amount"])
  (Dj : FnOk P w K mg base CX0 1 vG ut ["_law_call"] (oA K)) (vC : Cal K mg "_law_rank" vG ut ["_law_call"]) (jC : mg "len" = none) (jj : mg "range" = none) (iu : mg "sorted" = none) (iC : mg "tuple" = none) : FnOk P w K mg base CX0 3 f fd ["_law_hand", "_law_calls_here", "_law_places", "_law_cell"] (my K) := by
 refine F.ok sc__law_report (fun vs H Q E h => ?_) (fun cdv A outer s H vs Q E hr h => ?_)
 ·obtain ⟨h, l, p, c, rfl, _⟩ := h
  rfl
 obtain ⟨h, l, p, c, rfl, h⟩ := h
 have hu64 := hr.units
 have hu0 := hr.units0
 have hu := bH hr
 refine ⟨_, (aq (aO (i := 4) sc__law_report.nd rfl (Or.inl rfl) (bc cu cj hr (aa (pv 3) (aa aA ak))))
   (aq (aO (i := 5) sc__law_report.nd rfl (Or.inr rfl) nu)
   (aq (iD PassesOwn.never rfl (bx (K := K) rfl (jY (qF (K := K) rfl) (pv 1) ph (lA (aV cH (aX (bu (K := K) rfl) (pv 4) aA (fun _ _ => rfl)) (aV fJ aA (aV uD (aV cH (aX (bu (K := K) rfl) (pv 4) aA (fun _ _ => rfl)) aA) aA)))))) (aZ (i := 6) sc__law_report.nd rfl (Or.inl rfl))
   (aD (q9 hu (pv 5) (aX (aY (K := K) rfl) (pv 6) aA (fun _ _ => rfl)) (aX (aY (K := K) rfl) (pv 6) aA (fun _ _ => rfl)) rfl)))
   (aq (aO (i := 7) sc__law_report.nd rfl (Or.inl rfl) (j7 ak))
   (aq (iD PassesOwn.never rfl (nZ rfl jj (aa (bF (fG (K := K) rfl) (by rfl) jC PySem.boot_len (aa (pv 1) ak)) ak)) (aZ (i := 8) sc__law_report.nd rfl (Or.inl rfl))
   (aD (jD (PW.pt (xP (bI zJ (aV cH (aV N8 (aX (bu (K := K) rfl) (pv 4) (aV fJ aA (aV cH (pv 8) aA)) (fun _ _ => rfl)) (aV fJ aA (aV uD (aV wC (pv 8) aA) aA))) aA) aA (bM _)) (tX (bI zJ (aX (aY (K := K) rfl) (aX (bu (K := K) rfl) (pv 1) (pv 8) (fun _ _ => rfl)) aA (fun _ _ => rfl)) (lY hu (pv 5) (aX (aY (K := K) rfl) (aX (bu (K := K) rfl) (pv 1) (pv 8) (fun _ _ => rfl)) aA (fun _ _ => rfl)) aA ⟨rfl, rfl, rfl, rfl⟩) (bM _))))) (aD (pA (lN (K := K) rfl (wY PySem.F.plainAttrs_list PySem.F.slot_list_append PySem.F.type_list_append lF (pv 7) (aa (aX (bu (K := K) rfl) (pv 1) (pv 8) (fun _ _ => rfl)) ak))))) cV)))
   (aq (aO (i := 7) sc__law_report.nd rfl (Or.inl rfl) (Ew (K := K) rfl (aa (pv 7) ak) (by rfl) iu Dj vC.mg vC.bd (by rfl) hr))
   (aq (aO (i := 9) sc__law_report.nd rfl (Or.inl rfl) (bR (iZ (K := K) rfl) (by rfl) iC PyProof.Rows.boot_tuple (aa (cI ["_law_floor", "_law_caller"] [some 5, none] rfl rfl (by kernel_rfl) (bx (K := K) rfl (bF (tV rfl) (by rfl) iu PyProof.Rows.boot_sorted (aa (pv 5) ak))) (fun _ _ _ _ _ nd => aZ (i := 1) nd rfl (Or.inl rfl)) (fun _ _ _ _ _ => fM) (fun _ _ _ _ _ => (dF (aa (pv 1) (aa (Aq hu (pv 0) (pv 1) (fun _ _ => rfl)) ak))))) ak)))
   (aq (aO (i := 10) sc__law_report.nd rfl (Or.inl rfl) (bR (iZ (K := K) rfl) (by rfl) iC PyProof.Rows.boot_tuple (aa (jY (qF (K := K) rfl) (pv 2) ph (lA (aV cH (aX (bu (K := K) rfl) (pv 4) aA (fun _ _ => rfl)) (aV fJ (bF (fG (K := K) rfl) (by rfl) jC PySem.boot_len (aa (pv 2) ak)) aA)))) ak)))
   (aD (aW (dF (aa (pv 0) (aa (pv 9) (aa (bR (iZ (K := K) rfl) (by rfl) iC PyProof.Rows.boot_tuple (aa (pv 7) ak)) (aa (pv 10) (aa (oR vf (aV cH (aX (bu (K := K) rfl) (pv 4) aA (fun _ _ => rfl)) aA) aA (bM _)) ak)))))))))))))))), ?_⟩
 obtain ⟨ws, cs, ys, ns, hl, hc, lc, wf, hp, hn, ln, kk⟩ := h
 have lw : ws.length = cs.length := Paired.length hc
 have ly := hn.len
 clean_wf
 refine ⟨c, 12, rfl, by decide, by decide, fun A1 q xs t1 hq gq lx hm => ?_⟩
 have lx12 : xs.length = 12 := lx
 clean_wf
 intro F A2 hF t2 gF
 have t12 := t1.trans t2
 have hF0 : H F = none := t1.free hF
 have at0 := gC (xs := xs) (i := 0) (by omega)
 have at1 := gC (xs := xs) (i := 1) (by omega)
 have at10 := gC (xs := xs) (i := 10) (by omega)
 have at11 := gC (xs := xs) (i := 11) (by omega)
 have sq2 : SqL K A2 q (xs.map V.int) := SqL.of (t2 _ _ gq)
 have hl2 := t12.seq hl
 have x10 := Int.emod_nonneg xs[1] (show (4 : Int) ≠ 0 by decide)
 have x11 := Int.emod_lt_of_pos xs[1] (show (0 : Int) < 4 by decide)
 have c2 : CMul (xs[1] % 4) 2 := .inr ⟨by decide, by decide⟩
 have md : 0 < 1 + xs[1] % 4 * 2 := by omega
 have nqF : q ≠ F := aC gq hF
 clean_wf
 intro L A3 hL t3 gL
 have t13 := t12.trans t3
 have ll := MN ws none (some (xs[0] % (1 + xs[1] % 4 * 2)))
 refine ⟨_, rfl, ⟨_, SqL.of gL⟩, ?_⟩
 refine jZ (xs := jB ws none (some (xs[0] % (1 + xs[1] % 4 * 2)))) (fun i σ A => ∃ v6 m, σ = [some (.int h), some (.ref l), some (.ref p), some (.int c), some (.ref q), some (.ref F), v6, none, none, none, none] /\ SmB F A3 A /\ A F = some (.dK (dI m)) /\ Td m) ⟨none, [], rfl, SmB.refl _ _, t3 _ _ gF, Td.nil⟩ (fun i σ A _ z => by obtain ⟨_, _, _, z, _⟩ := z; exact SqL.of (z _ _ (nP gL (t3 _ _ gF) (by intro z; cases z)) gL)) ?_ ?_
 ·rintro i x σ A hx ⟨v6, m, rfl, sA, gA, tm⟩
  obtain ⟨y, hy, ta, tt, us, rfl, h1, h2, h3⟩ := GJ hc (Ly (List.mem_of_getElem? hx))
  have ta3 := t13 _ _ h1
  have st : SqT K A ta [.int y.n, .int y.c, .int y.k, .str y.kd, .int y.w, .ref tt] := SqT.of (sA _ _ (nP ta3 (t3 _ _ gF) (by intro z; cases z)) ta3)
  have nd := tm.nd
  have lm := tm.toCk.len
  obtain ⟨wy, ky⟩ := wf y hy
  clean_wf
  intro A4 b4 g4
  exact ⟨_, _, rfl, sA.but b4, g4, Ep tm wy.c0 wy.c1 ky⟩
 rintro σ A ⟨v6, m, rfl, sA, gA, tm⟩
 have smA : Same H A := fun b o z => sA b o (aC z hF0) (t13 b o z)
 have gqA := sA _ _ nqF (t3 _ _ (t2 _ _ gq))
 clean_wf
 intro G A5 hG t5 gG
 have sm5 := smA.trans t5
 have hG0 : H G = none := smA.free hG
 have nqG : q ≠ G := aC gqA hG
 have nFG : F ≠ G := aC gA hG
 have hl5 := sm5.seq hl
 clean_wf
 refine ⟨_, rfl, by omega, by omega, ?_⟩
 refine qW (fun k σ B => ∃ v8 zs ks, σ = [some (.int h), some (.ref l), some (.ref p), some (.int c), some (.ref q), some (.ref F), v6, some (.ref G), v8, none, none] /\ SmB G A5 B /\ B G = some (.lst zs) /\ Tls B zs ks /\ ks.length <= k /\ ∀ x ∈ ks, x ∈ cs) ⟨none, [], [], rfl, SmB.refl _ _, gG, .nil, Nat.le_refl _, (fun _ z => nomatch z)⟩ ?_ ?_
 ·rintro k σ B hk ⟨v8, zs, ks, rfl, sB, gB, tz, lk, sub⟩
  have hkw : k < ws.length := by rw [Int.toNat_natCast] at hk; exact hk
  have smB : Same H B := fun b o z => sB b o (aC z hG0) (sm5 b o z)
  have hlB := smB.seq hl
  have sqB : SqL K B q (xs.map V.int) := SqL.of (sB _ _ nqG (t5 _ _ gqA))
  have gFB := sB _ _ nFG (t5 _ _ gA)
  obtain ⟨y, hy, ta, tt, us, ew, h1, h2, h3⟩ := bC hc (List.getElem?_eq_getElem hkw)
  have hat : atI ws (0 + (k : Int)) = some (.ref ta) := by rw [Int.zero_add, ← ew]; exact jh (List.getElem?_eq_getElem hkw)
  have st : SqT K B ta [.int y.n, .int y.c, .int y.k, .str y.kd, .int y.w, .ref tt] := SqT.of (smB _ _ h1)
  have k10 := Int.emod_nonneg (0 + (k : Int)) (show (10 : Int) ≠ 0 by decide)
  have k11 := Int.emod_lt_of_pos (0 + (k : Int)) (show (0 : Int) < 10 by decide)
  have xk : atI (xs.map V.int) (2 + (0 + (k : Int)) % 10) = some (V.int xs[2 + ((0 + (k : Int)) % 10).toNat]) := by
   rw [show (2 + (0 + (k : Int)) % 10) = ((2 + ((0 + (k : Int)) % 10).toNat : Nat) : Int) by omega]
   exact gC (by omega)
  have kd0 : 0 <= (0 + (k : Int)) / 10 /\ (0 + (k : Int)) / 10 <= 1 := by omega
  have cm : CMul ((0 + (k : Int)) / 10) 48271 := .inr ⟨by decide, by decide⟩
  have cd : QF xs[2 + ((0 + (k : Int)) % 10).toNat] (1 + (0 + (k : Int)) / 10 * 48271) := ⟨by omega, by omega⟩
  have lz : zs.length = ks.length := Paired.length tz
  have ls : zs.length < sizeLine := aJ (by omega)
  clean_wf
  refine jr (fun c1 => ?_) fun c1 => ?_
  ·clean_wf
   refine jr (fun c2 => ?_) fun c2 => ?_
   ·clean_wf
    intro B4 b4 g4
    have m4 : SmH B B4 := SmH.but b4 gB (by intro _ z; cases z)
    refine ⟨_, zs ++ [.ref ta], ks ++ [y], rfl, sB.but b4, g4, cJ (fY m4 tz) ⟨ta, tt, us, rfl, m4 _ _ (smB _ _ h1), m4 _ _ (smB _ _ h2), h3.mono ((SmH.same smB).trans m4)⟩, by rw [List.length_append]; exact Nat.succ_le_succ lk, fun x hx => ?_⟩
    rcases List.mem_append.mp hx with z | z
    ·exact sub x z
    ·rw [List.mem_singleton.mp z]
     exact List.mem_of_getElem? hy
   ·exact ⟨_, zs, ks, rfl, sB, gB, tz, by omega, sub⟩
  ·clean_wf
   exact ⟨_, zs, ks, rfl, sB, gB, tz, by omega, sub⟩
 rintro σ B ⟨v8, zs, ks, rfl, sB, gB, tz, lk, sub⟩
 have smB : Same H B := fun b o z => sB b o (aC z hG0) (sm5 b o z)
 have gFB := sB _ _ nFG (t5 _ _ gA)
 have gqB := sB _ _ nqG (t5 _ _ gqA)
 have lz : zs.length = ks.length := Paired.length tz
 rw [Int.toNat_natCast] at lk
 clean_wf
 refine ⟨G, zs, ks.map fun x => [x.c, x.k], rfl, SqL.of gB, by omega, by rw [List.length_map]; exact lz, fun k hk => ?_, fun i x k H3 Q' hx hk sm3 hq => ?_, fun D zs2 B2 h0 wp t6 gD => ?_⟩
 ·obtain ⟨q, _, rfl⟩ := List.mem_map.mp hk
  simp
 ·obtain ⟨y, hy, ty⟩ := bC tz hx
  rw [List.getElem?_map, hy] at hk
  cases hk
  exact ⟨x, rfl, y, ty.up (.same sm3), fun H4 t s4 g4 => hq H4 t s4 (SqT.of g4)⟩
 obtain ⟨ks2, tz2, lk2, sub2⟩ := KD tz wp
 have tz2 := fY (.same t6) tz2
 have gF2 := t6 _ _ gFB
 have lz2 : zs2.length = ks2.length := Paired.length tz2
 clean_wf
 refine ⟨F, m, rfl, .inl gF2, qG tm.toCk, fun p' Tt hp' pT sT => ?_⟩
 have s3' := aH (o := .lst (Tt.map V.int)) hp'
 have g3' : (upd B2 p' (.lst (Tt.map V.int))) p' = some (.lst (Tt.map V.int)) := aB
 generalize upd B2 p' (.lst (Tt.map V.int)) = B4 at s3' g3' ⊢
 have lT : Tt.length < 64 := by rw [pT.length_eq, List.length_map]; exact qG tm.toCk
 refine ⟨p', rfl, ⟨_, SqL.of g3'⟩, fun E1 hE1 => ?_⟩
 refine bJ (K := K) (a := p') (xs := Tt.map V.int) (fun i' σ A => ∃ v zs, σ = [some (.ref F), v] /\ Same B4 A /\ A E1 = some (.lst zs) /\ zs.length <= i' /\ Prs A zs (prs (Tt.take i') (ct m))) ⟨none, [], rfl, aH hE1, aB, Nat.le_refl _, .nil⟩ ?_ ?_ ?_
 ·rintro i' σ A _ ⟨_, _, _, z, _⟩
  exact SqL.of (z _ _ g3')
 ·rintro i' x σ A hx' ⟨v, zs, rfl, sA, hEx, lz, pz⟩
  obtain ⟨cl, hc, rfl⟩ := iw hx'
  have hi' := (List.getElem?_eq_some_iff.mp hc).1
  have hrA := sA _ _ (s3' _ _ gF2)
  have hlc : lkI m cl = some (ct m cl) := Rh (pT.mem_iff.mp (List.mem_of_getElem? hc))
  clean_wf
  intro u A1' hu' sA1 gA1
  have hE1' := sA1 _ _ hEx
  refine ⟨zs, hE1', aJ (by omega), _, _, rfl, fun b o z => ?_, aB, by rw [List.length_append]; exact Nat.succ_le_succ lz, ?_⟩
  ·rw [aL (aC z hE1)]
   exact sA1 _ _ (sA b o z)
  ·have kp : ∀ a xs, A1' a = some (.tup xs) -> (upd A1' E1 (.lst (zs ++ [V.ref u]))) a = some (.tup xs) := fun a xs z => by
    rw [aL (nP z hE1' (by intro z; cases z))]
    exact z
   have e : prs (Tt.take (i' + 1)) (ct m) = prs (Tt.take i') (ct m) ++ [(cl, ct m cl)] := by
    unfold prs
    rw [bf hc, List.map_append]
    rfl
   rw [e]
   exact Prs.snoc (pz.mono fun a xs z => kp _ _ (sA1 _ _ z)) ⟨u, rfl, kp _ _ gA1⟩
 rintro σ C ⟨v, us3, rfl, sC, hEx, lus, pz⟩
 rw [show Tt.take (Tt.map V.int).length = Tt by rw [List.length_map, List.take_length]] at pz
 rw [List.length_map] at lus
 have t4C := s3'.trans sC
 clean_wf
 intro u C2 hu t7 gu
 have t6C := t6.trans (t4C.trans t7)
 have smC := smB.trans t6C
 have hpC := smC.seq hp
 have sqC : SqL K C2 q (xs.map V.int) := SqL.of (t6C _ _ gqB)
 have mly : (0 : Int) < (ys.length : Int) + 1 := by omega
 have y0 := Int.emod_nonneg xs[11] (Int.ne_of_gt mly)
 have y1 := Int.emod_lt_of_pos xs[11] mly
 clean_wf
 intro L2' C3 hL2 t8 gL2
 obtain ⟨j, ej⟩ : ∃ j : Nat, xs[11] % ((ys.length : Int) + 1) = (j : Int) := ⟨_, (Int.toNat_of_nonneg y0).symm⟩
 rw [ej] at gL2 y1
 rw [Cu _ _ (by omega)] at gL2
 clean_wf
 intro w C4 hw t9 gw
 have gD4 := t9 _ _ (t8 _ _ (t7 _ _ (t4C _ _ gD)))
 have sq4 : SqL K C4 q (xs.map V.int) := SqL.of (t9 _ _ (t8 _ _ (t6C _ _ gqB)))
 clean_wf
 intro cc C5 hcc t10 gcc
 have sq5 : SqL K C5 q (xs.map V.int) := SqL.of (t10 _ _ (t9 _ _ (t8 _ _ (t6C _ _ gqB))))
 clean_wf
 intro tt' C6 htt t11 gtt
 have t7E := t8.trans (t9.trans (t10.trans t11))
 have tCE := t7.trans t7E
 have tBE := t6C.trans t7E
 refine kk C6 tt' (h, prs Tt (ct m), ns.take j, decide (xs[10] % 3 = 0), ks2) (smC.trans t7E) ((smC.trans (t8.trans (t9.trans t10))).free htt) ⟨tt', u, cc, w, us3, _, rfl, ?_, t7E _ _ gu, pz.mono (SmH.same tCE), ⟨zs2, t11 _ _ gcc, fY (.same (t4C.trans tCE)) tz2⟩, t11 _ _ (t10 _ _ gw), yw j (hn.up (.same (smC.trans t7E)))⟩ rfl (prs_td tm pT) ?_ fun x hx => sub x (sub2 x hx)
 ·rw [gtt]
 ·show (ns.take j).length <= 16
  rw [List.length_take]
  omega
end
end K52
namespace K52
open PySem L2
abbrev iV : Stmt := top 48
section
variable {P : Program} {w : World} {K : PySem.W.Frag} {mg : Str -> Option Value} {base : Heap}
theorem S6 (ns : List Int) (i j : Nat) : ∃ ms : List Int, jB (ns.map V.int) (some (i : Int)) (some (j : Int)) = ms.map V.int /\ ms.length <= j - i := by
 obtain ⟨ms, e, _⟩ := Kr ns (some (i : Int)) (some (j : Int))
 refine ⟨ms, e, ?_⟩
 have := congrArg List.length e
 rw [List.length_map] at this
 rw [← this]
 unfold jB
 rw [List.length_take, List.length_drop]
 have e1 : HT.sIx (ns.map V.int).length 0 (some (i : Int)) = min i (ns.map V.int).length := by
  show (if (i : Int) < 0 then ((i : Int) + ((ns.map V.int).length : Nat)).toNat else min (i : Int).toNat (ns.map V.int).length) = _
  rw [if_neg (by omega), Int.toNat_natCast]
 have e2 : HT.sIx (ns.map V.int).length (ns.map V.int).length (some (j : Int)) = min j (ns.map V.int).length := by
  show (if (j : Int) < 0 then ((j : Int) + ((ns.map V.int).length : Nat)).toNat else min (j : Int).toNat (ns.map V.int).length) = _
  rw [if_neg (by omega), Int.toNat_natCast]
 rw [e1, e2]
 omega
theorem Ko {ks hs : List Int} (o : Hs hs) (s : ks.Sublist hs) : Hs ks := ⟨o.up.sublist s, fun h hh => o.rg h (s.mem hh)⟩
def oG (K : PySem.W.Frag) : Sp := fun vs H Q _ => ∃ (a : Addr), vs = [.ref a] /\ ∃ ns : List Int, SqL K H a (ns.map V.int) /\
 ∀ H' t lh lr hs me xs rs C0, Same H H' -> H' t = some (.tup [.ref lh, .int me, .ref lr]) -> H' lh = some (.lst (hs.map V.int)) -> Hs hs -> hs ≠ [] -> H' lr = some (.lst xs) -> RpV H' xs rs -> Rok rs C0 -> Hs (rs.map (·.1)) -> me ∈ rs.map (·.1) -> Q (.ref t) H'
theorem sc__law_case : FnScope ["_law_script", "_law_cell", "_law_hands_here", "_law_calls_here", "_law_places", "_law_xs", "_law_some", "_law_reports"] ["_law_script"] (ao iV) := ⟨rfl, rfl, rfl, by decide +kernel, rfl, by decide +kernel, by decide +kernel⟩
theorem Bh {f fV bz ud uv rE : Addr} {fd eY bw rD rB qM : FuncData} (F : Fun K "_law_case" "_law_case" iV f fd)
  (jz : FnOk P w K mg base CX0 3 fV eY ["_law_script", "_law_k"] (iB K)) (jA : Cal K mg "_law_cell_at" fV eY ["_law_script", "_law_k"])
  (cu : FnOk P w K mg base CX0 3 bz bw ["_law_cell", "_law_amount"] (cO K)) (cj : Cal K mg "_law_stream" bz bw ["_law_cell", "_law_amount"])
  (Al : FnOk P w K mg base CX0 3 ud rD ["_law_cell"] (m9 K)) (Bm : Cal K mg "_law_hands" ud rD ["_law_cell"])
  (zZ : FnOk P w K mg base CX0 3 uv rB ["_law_cells", "_law_hands_here", "_law_number"] (mX K)) (Bx : Cal K mg "_law_calls" uv rB ["_law_cells", "_law_hands_here", "_law_number"])
  (yG : FnOk P w K mg base CX0 3 rE qM ["_law_hand", "_law_calls_here", "_law_places", "_law_cell"] (my K)) (yQ : Cal K mg "_law_report" rE qM ["_law_hand", "_law_calls_here", "_law_places", "_law_cell"]) (jC : mg "len" = none) (jj : mg "range" = none) : FnOk P w K mg base CX0 4 f fd ["_law_script"] (oG K) := by
 refine F.ok sc__law_case (fun vs H Q E h => ?_) (fun cdv A outer s H vs Q E hr h => ?_)
 ·obtain ⟨a, rfl, _⟩ := h
  rfl
 obtain ⟨a, rfl, h⟩ := h
 have hu64 := hr.units
 have hu0 := hr.units0
 have hu := bH hr
 refine ⟨_, (aq (aO (i := 1) sc__law_case.nd rfl (Or.inl rfl) (bc jz jA hr (aa (pv 0) (aa aA ak))))
   (aq (aO (i := 2) sc__law_case.nd rfl (Or.inr rfl) (bc Al Bm hr (aa (pv 1) ak)))
   (aq (aO (i := 3) sc__law_case.nd rfl (Or.inr rfl) (bc zZ Bx hr (aa (jY (qF (K := K) rfl) (pv 0) (lA aA) (lA aA)) (aa (pv 2) (aa (aV cH (pv 1) (aV fJ (aV zQ aA aA) aA)) ak)))))
   (aq (aO (i := 4) sc__law_case.nd rfl (Or.inr rfl) (cI ["_law_call"] [none] rfl rfl (by kernel_rfl) (bx (K := K) rfl (pv 3)) (fun _ _ _ _ _ nd => aZ (i := 0) nd rfl (Or.inl rfl)) (fun _ _ _ _ _ => (mH (bI vf (aX (aY (K := K) rfl) (pv 0) aA (fun _ _ => rfl)) lO (bM _)))) (fun _ _ _ _ _ => (jY (zW (K := K) rfl) (pv 0) ph (lA aA)))))
   (aq (aO (i := 5) sc__law_case.nd rfl (Or.inr rfl) (bc cu cj hr (aa (bc jz jA hr (aa (pv 0) (aa aA ak))) (aa aA ak))))
   (aq (zY (i := 6) ["_law_hands_here", "_law_xs", "_law_k"] [some 2, some 5, none] sc__law_case.nd rfl (Or.inl rfl) rfl rfl (by kernel_rfl) (nZ rfl jj (aa (bF (fG (K := K) rfl) (by rfl) jC PySem.boot_len (aa (pv 2) ak)) ak)) (fun _ _ _ _ _ nd => aZ (i := 2) nd rfl (Or.inl rfl)) (fun _ _ _ _ _ => (mH (bI zJ (aV cH (aX (bu (K := K) rfl) (pv 1) (pv 2) (fun _ _ => rfl)) aA) aA (bM _)))) (fun _ _ _ _ _ => (aX (bu (K := K) rfl) (pv 0) (pv 2) (fun _ _ => rfl))))
   (aq (jD (bI (Eo (K := K) rfl hu64) (pv 6) (j7 ak) (bM _)) (aD (aO (i := 6) sc__law_case.nd rfl (Or.inl rfl) (j7 (aa (aX (bu (K := K) rfl) (pv 2) (Lj TV aA) (fun _ _ => rfl)) ak)))) cV)
   (aq (zY (i := 7) ["_law_calls_here", "_law_places", "_law_xs", "_law_hand"] [some 3, some 4, some 5, none] sc__law_case.nd rfl (Or.inl rfl) rfl rfl (by kernel_rfl) (bx (K := K) rfl (pv 6)) (fun _ _ _ _ _ nd => aZ (i := 3) nd rfl (Or.inl rfl)) (fun _ _ _ _ _ => fM) (fun _ _ _ _ _ => (bc yG yQ hr (aa (pv 3) (aa (pv 0) (aa (pv 1) (aa (aV fJ (aX (bu (K := K) rfl) (pv 2) aA (fun _ _ => rfl)) (aV uD aA (pv 3))) ak)))))))
   (aD (aW (dF (aa (pv 2) (aa (aX (bu (K := K) rfl) (pv 6) (aV cH (aX (bu (K := K) rfl) (pv 5) aA (fun _ _ => rfl)) (bF (fG (K := K) rfl) (by rfl) jC PySem.boot_len (aa (pv 6) ak))) (fun _ _ => rfl)) (aa (pv 7) ak)))))))))))))), ?_⟩
 obtain ⟨ns, hS, kk⟩ := h
 clean_wf
 refine ⟨a, 0, rfl, ns, hS, by decide, fun c => ?_⟩
 clean_wf
 refine ⟨c, rfl, fun H1 lh hs s1 hlh gh ho hne lh5 => ?_⟩
 have hS1 := s1.seq hS
 clean_wf
 intro L H2 hL s2 gL
 obtain ⟨ms, ems, lms⟩ := S6 ns 2 18
 have ems : jB (ns.map V.int) (some 2) (some 18) = ms.map V.int := ems
 rw [ems] at gL
 have p18 := NZ
 have p19 : (0 : Int) < 10 ^ Int.toNat 18 + 1 := by omega
 clean_wf
 refine ⟨L, lh, _, rfl, ms, hs, SqL.of gL, by omega, SqL.of (s2 _ _ gh), ho, hne, lh5, fun H3 lc ws cs s3 hlc gc tc ic wf lcs => ?_⟩
 have lw : ws.length = cs.length := Paired.length tc
 have s03 := s1.trans (s2.trans s3)
 have gh3 := s3 _ _ (s2 _ _ gh)
 clean_wf
 intro E hE
 refine bJ (K := K) (a := lc) (xs := ws) (fun i σ A => ∃ v ys qs, σ = [v] /\ Same H3 A /\ A E = some (.lst ys) /\ Nms A ys qs /\ qs.length <= i) ⟨none, [], [], rfl, aH hE, aB, .nil, Nat.le_refl _⟩ ?_ ?_ ?_
 ·rintro i σ A _ ⟨_, _, _, _, z, _⟩
  exact SqL.of (z _ _ gc)
 ·rintro i w σ A hx ⟨v, ys, qs, rfl, sA, gE, ny, lq⟩
  obtain ⟨y, hy, ta, tt, us, rfl, h1, h2, h3⟩ := bC tc hx
  have hi := (List.getElem?_eq_some_iff.mp hy).1
  have ln := ny.len
  have st : SqT K A ta [.int y.n, .int y.c, .int y.k, .str y.kd, .int y.w, .ref tt] := SqT.of (sA _ _ h1)
  clean_wf
  refine jr (fun z => ?_) fun z => ?_
  ·clean_wf
   refine ⟨ta, _, rfl, st, NK, fun u2 hu2 => ?_⟩
   have s4 := aH (o := .tup (jB [.int y.n, .int y.c, .int y.k, .str y.kd, .int y.w, .ref tt] none (some 3))) hu2
   have g4 : (upd A u2 (.tup (jB [.int y.n, .int y.c, .int y.k, .str y.kd, .int y.w, .ref tt] none (some 3)))) u2 = some (.tup [.int y.n, .int y.c, .int y.k]) := aB
   generalize upd A u2 (.tup (jB [.int y.n, .int y.c, .int y.k, .str y.kd, .int y.w, .ref tt] none (some 3))) = A4 at s4 g4 ⊢
   have gE4 := s4 _ _ gE
   have kp : SmH A4 (upd A4 E (.lst (ys ++ [.ref u2]))) := SmH.lst gE4
   refine ⟨ys, gE4, aJ (by omega), _, ys ++ [.ref u2], qs ++ [(y.n, y.c, y.k)], rfl, fun b o z => ?_, aB, Nms.snoc ((ny.up (.same s4)).up kp) ⟨u2, rfl, kp _ _ g4⟩, by rw [List.length_append]; exact Nat.succ_le_succ lq⟩
   rw [aL (aC z hE)]
   exact s4 _ _ (sA b o z)
  ·exact ⟨_, ys, qs, rfl, sA, gE, ny, by omega⟩
 rintro σ A ⟨v, ys, qs, rfl, sA, gE, ny, lq⟩
 rw [lw] at lq
 have s0A := s03.trans sA
 clean_wf
 refine ⟨a, 1, rfl, ns, s0A.seq hS, by decide, fun c1 => ?_⟩
 clean_wf
 refine ⟨c1, 8, rfl, by decide, by decide, fun A1 q xs t1 hq gq lx hm => ?_⟩
 have lx8 : xs.length = 8 := lx
 have ghA1 := t1 _ _ (sA _ _ gh3)
 have gcA1 := t1 _ _ (sA _ _ gc)
 have gEA1 := t1 _ _ gE
 have sh1 : SqL K A1 lh (hs.map V.int) := SqL.of ghA1
 clean_wf
 refine ⟨_, rfl, by omega, by rw [List.length_map]; omega, fun E2 hE2 => ?_⟩
 refine FP (fun i σ B => ∃ v ks, σ = [some (.ref lh), some (.ref q), v] /\ Same A1 B /\ B E2 = some (.lst ((ks : List Int).map V.int)) /\ ks.Sublist (hs.take i)) ⟨none, [], rfl, aH hE2, aB, List.Sublist.refl _⟩ ?_ ?_
 ·rintro i σ B hi ⟨v, ks, rfl, sB, gB, su⟩
  have hi' : i < hs.length := by rw [Int.toNat_natCast, List.length_map] at hi; exact hi
  have shB : SqL K B lh (hs.map V.int) := SqL.of (sB _ _ ghA1)
  have sqB : SqL K B q (xs.map V.int) := SqL.of (sB _ _ gq)
  have ha : atI (hs.map V.int) (0 + (i : Int)) = some (V.int hs[i]) := by rw [Int.zero_add]; exact gC hi'
  have hb : atI (xs.map V.int) (0 + (i : Int)) = some (V.int xs[i]) := by rw [Int.zero_add]; exact gC (by omega)
  have lk := su.length_le
  rw [List.length_take] at lk
  clean_wf
  refine jr (fun z => ?_) fun z => ?_
  ·clean_wf
   refine ⟨_, gB, aJ (by rw [List.length_map]; omega), _, ks ++ [hs[i]], rfl, fun b o z => ?_, ?_, ?_⟩
   ·rw [aL (aC z hE2)]
    exact sB b o z
   ·rw [aB, List.map_append]
    rfl
   ·rw [bf (List.getElem?_eq_getElem hi')]
    exact su.append (List.Sublist.refl _)
  ·refine ⟨_, ks, rfl, sB, gB, ?_⟩
   rw [bf (List.getElem?_eq_getElem hi')]
   exact su.trans (List.sublist_append_left _ _)
 rintro σ B ⟨v, ks, rfl, sB, gB, su⟩
 rw [Int.toNat_natCast, List.length_map, List.take_length] at su
 have hat : atI (hs.map V.int) (-1) = some (V.int (hs.getLast hne)) := by
  have e := List.dropLast_concat_getLast hne
  conv => lhs; rw [← e, List.map_append]
  exact Nr _ _
 refine K3 (fun σ' D => ∃ S ks, σ' = [some (.ref a), some (.int c), some (.ref lh), some (.ref lc), some (.ref E), some (.ref q), some (.ref S), none] /\ Same A1 D /\ D S = some (.lst ((ks : List Int).map V.int)) /\ ks ≠ [] /\ ks.Sublist hs) ?_ fun N rest => ?_
 rotate_left
 ·clean_wf
  intro n1 B1 hn1 s5 gn1
  refine Qi (SqL.of (s5 _ _ gB)) (yj ks) (lay_ints ks) (SqL.of gn1) ?_
  clean_wf
  refine jr (fun z => ?_) fun z => ?_
  ·have shB1 : SqL K B1 lh (hs.map V.int) := SqL.of (s5 _ _ (sB _ _ ghA1))
   clean_wf
   intro S B2 hS2 s6 gS2
   exact rest _ _ ⟨S, [hs.getLast hne], rfl, sB.trans (s5.trans s6), gS2, by simp, List.singleton_sublist.mpr (List.getLast_mem hne)⟩
  ·exact rest _ _ ⟨E2, ks, rfl, sB.trans s5, s5 _ _ gB, fun w => z (by rw [w]; rfl), su⟩
 clear su gB sB ks B
 rintro σ' D ⟨S, ks, rfl, sD, gS, kne, su⟩
 have lks := su.length_le
 clean_wf
 intro E3 hE3
 refine bJ (K := K) (a := S) (xs := ks.map V.int) (fun i σ B => ∃ v vs rs, σ = [some (.ref lc), some (.ref E), some (.ref q), v] /\ Same D B /\ B E3 = some (.lst vs) /\ RpV B vs rs /\ rs.map (·.1) = ks.take i /\ (∀ r ∈ rs, Td r.2.1 /\ r.2.2.1.length <= 16 /\ ∀ x ∈ r.2.2.2.2, x ∈ cs)) ⟨none, [], [], rfl, aH hE3, aB, .nil, rfl, (fun _ z => nomatch z)⟩ ?_ ?_ ?_
 ·rintro i σ B _ ⟨_, _, _, _, z, _⟩
  exact SqL.of (z _ _ gS)
 ·rintro i x σ B hx ⟨v, vs, rs, rfl, sB', gE3, rv, er, ok⟩
  obtain ⟨hd, hh, rfl⟩ := iw hx
  have hi := (List.getElem?_eq_some_iff.mp hh).1
  have dB : Same A1 B := sD.trans sB'
  have sqB : SqL K B q (xs.map V.int) := SqL.of (dB _ _ gq)
  have at5 := gC (xs := xs) (i := 5) (by omega)
  have cm : CMul 7919 hd := .inl ⟨by decide, by decide⟩
  have lr : vs.length = rs.length := Paired.length rv
  have lrs : rs.length <= i := by have := congrArg List.length er; rw [List.length_map, List.length_take] at this; omega
  have h3B : Same H3 B := sA.trans (t1.trans dB)
  clean_wf
  refine ⟨hd, lc, E, _, rfl, ws, cs, ys, qs, SqL.of (dB _ _ gcA1), fY (.same h3B) tc, lcs, wf, SqL.of (dB _ _ gEA1), ny.up (.same (t1.trans dB)), by omega, fun B2 t r s7 ht ra e1 e2 e3 e4 => ?_⟩
  have gE4 := s7 _ _ gE3
  have kp : SmH B2 (upd B2 E3 (.lst (vs ++ [.ref t]))) := SmH.lst gE4
  refine ⟨vs, gE4, aJ (by omega), _, vs ++ [.ref t], rs ++ [r], rfl, fun b o z => ?_, aB, cJ (iG kp (iG (.same s7) rv)) (ra.up kp), ?_, fun r' hr' => ?_⟩
  ·rw [aL (aC z hE3)]
   exact s7 _ _ (sB' b o z)
  ·rw [List.map_append, er, bf hh, ← e1]
   rfl
  ·rcases List.mem_append.mp hr' with z | z
   ·exact ok r' z
   ·rw [List.mem_singleton.mp z]
    exact ⟨e2, e3, e4⟩
 rintro σ B ⟨v, vs, rs, rfl, sB', gE3, rv, er, ok⟩
 rw [List.length_map, List.take_length] at er
 have lk0 : 0 < ks.length := List.length_pos_iff.mpr kne
 have dB : Same A1 B := sD.trans sB'
 have sqB : SqL K B q (xs.map V.int) := SqL.of (dB _ _ gq)
 have sSB : SqL K B S (ks.map V.int) := SqL.of (sB' _ _ gS)
 have at6 := gC (xs := xs) (i := 6) (by omega)
 have ml : (0 : Int) < (((ks.map V.int).length : Nat) : Int) := by rw [List.length_map]; omega
 have j0 := Int.emod_nonneg xs[6] (show (((ks.map V.int).length : Nat) : Int) ≠ 0 by omega)
 have j1 := Int.emod_lt_of_pos xs[6] ml
 have jl : (xs[6] % (((ks.map V.int).length : Nat) : Int)).toNat < ks.length := by rw [List.length_map] at j1 j0 ⊢; omega
 obtain ⟨me, hme⟩ : ∃ me, ks[(xs[6] % (((ks.map V.int).length : Nat) : Int)).toNat]? = some me := ⟨_, List.getElem?_eq_getElem jl⟩
 have hat6 : atI (ks.map V.int) (xs[6] % (((ks.map V.int).length : Nat) : Int)) = some (V.int me) := wu j0 (by rw [List.getElem?_map, hme]; rfl)
 have lr : rs.length = ks.length := by have := congrArg List.length er; rw [List.length_map] at this; exact this
 clean_wf
 intro t B5 ht s8 g8
 have hk := Ko ho su
 refine kk B5 t lh E3 hs me vs rs cs (s0A.trans (t1.trans (dB.trans s8))) g8 (s8 _ _ (dB _ _ ghA1)) ho hne (s8 _ _ gE3) (iG (.same s8) rv) ⟨by omega, fun r hr => (ok r hr).1, fun r hr => hk.rg r.1 (by rw [← er]; exact List.mem_map.mpr ⟨r, hr, rfl⟩), fun r hr => (ok r hr).2.1, fun x hx => ?_, ic, lcs, fun x hx => (wf x hx).1⟩ (by rw [er]; exact hk) (by rw [er]; exact List.mem_of_getElem? hme)
 obtain ⟨r, hr, hx⟩ := List.mem_flatMap.mp hx
 exact (ok r hr).2.2 x hx
end
end K52
namespace K52
open PySem L2
abbrev jE : Stmt := top 49
section
variable {P : Program} {w : World} {K : PySem.W.Frag} {mg : Str -> Option Value} {base : Heap}
theorem put_old {A : Hp} {C0 : List Cll} (u : Inc C0) {x : Cll} (hx : x ∈ C0) {v : V} (hv : TldA A v x) : ∀ {kvs : List (List Key × V)} {cs : List Cll}, kvs.map (·.1) = cs.map jc -> Tls A (kvs.map (·.2)) cs -> (∀ y ∈ cs, y ∈ C0) ->
  (kvs.map fun kv => if kv.1 = jc x then (kv.1, v) else kv).map (·.1) = cs.map jc /\ Tls A ((kvs.map fun kv => if kv.1 = jc x then (kv.1, v) else kv).map (·.2)) cs
 | [], cs, ks, tl, _ => ⟨ks, tl⟩
 | kv :: kvs, [], ks, _, _ => by simp at ks
 | kv :: kvs, y :: cs, ks, tl, sub => by
  rw [List.map_cons, List.map_cons] at ks
  injection ks with k1 k2
  rw [List.map_cons] at tl
  cases tl with
  | cons r t =>
   obtain ⟨a, b⟩ := put_old u hx hv k2 t fun z hz => sub z (List.mem_cons_of_mem _ hz)
   by_cases e : kv.1 = jc x
   ·have ey : y = x := by
     rw [k1] at e
     simp only [jc, List.cons.injEq, Sum.inl.injEq, and_true] at e
     exact Av u (sub y List.mem_cons_self) hx e.2.1 e.2.2
    refine ⟨?_, ?_⟩
    ·rw [List.map_cons, List.map_cons, a, if_pos e, List.map_cons, k1]
    ·rw [List.map_cons, List.map_cons, if_pos e]
     exact .cons (ey ▸ hv) b
   ·refine ⟨?_, ?_⟩
    ·rw [List.map_cons, List.map_cons, a, if_neg e, List.map_cons, k1]
    ·rw [List.map_cons, List.map_cons, if_neg e]
     exact .cons r b
structure Fst (H A : Hp) (D : Addr) (m : List (Int × Int)) (C0 : List Cll) (kvs : List (List Key × V)) (cs pr : List Cll) : Prop where
 sm : Same H A
 gD : A D = some (.dT kvs)
 ks : kvs.map (·.1) = cs.map jc
 tl : Tls A (kvs.map (·.2)) cs
 ic : Inc cs
 sub : ∀ x ∈ cs, x ∈ C0
 mem : ∀ x, x ∈ cs ↔ x ∈ pr /\ ct m x.c < x.k
def qL (K : PySem.W.Frag) (mg : Str -> Option Value) : Sp := fun vs H Q _ => ∃ (a : Addr), vs = [.ref a] /\ ∃ xs rs C0, H a = some (.lst xs) /\ RpV H xs rs /\ Rok rs C0 /\
 ∀ H' l ys cs, Same H H' -> H' l = some (.lst ys) -> Tls H' ys cs -> PlR rs cs -> (∀ x ∈ cs, x ∈ C0) -> Q (.ref l) H'
theorem sc__law_row : FnScope ["_law_reports", "_law_base", "_law_found", "_law_report_here", "_law_told", "_law_calls_here"] ["_law_reports"] (ao jE) := ⟨rfl, rfl, rfl, by decide +kernel, rfl, by decide +kernel, by decide +kernel⟩
theorem BV {f pR dq nY nq jX aj au az : Addr} {fd ni jd lQ lU jf : FuncData} (F : Fun K "_law_row" "_law_row" jE f fd)
  (yt : FnOk P w K mg base CX0 7 pR ni ["counts", "calls", "places"] (qU K mg)) (yg : Cal K mg "placed" pR ni ["counts", "calls", "places"])
  (gb : FnOk P w K mg base CX0 7 dq jd ["self"] (lE K mg)) (fU : Binds K jd ["self"] [])
  (uF : FnOk P w K mg base CX0 7 nY lQ ["told"] (oO K mg)) (uE : Cal K mg "call_of" nY lQ ["told"])
  (uU : FnOk P w K mg base CX0 7 nq lU ["reports"] (oH K)) (uV : Cal K mg "base_of" nq lU ["reports"])
  (qg : FnOk P w K mg base CX0 7 jX jf ["reports"] (lg K)) (qw : Cal K mg "places_of" jX jf ["reports"]) (j4 : mg "list" = none) (Gd : mg "reversed" = none) (aF : TCall K aj) (aN : TCall K au) (aM : TCall K az) (aG : mg "HeardCall" = some (.ref aj)) (aP : mg "OneCall" = some (.ref au)) (aU : mg "OwnCall" = some (.ref az)) (cD : Meth K aj "told" dq) (cZ : Meth K au "told" dq) (cW : Meth K az "told" dq) : FnOk P w K mg base CX0 8 f fd ["_law_reports"] (qL K mg) := by
 refine F.ok sc__law_row (fun vs H Q E h => ?_) (fun cdv A outer s H vs Q E hr h => ?_)
 ·obtain ⟨a, rfl, _⟩ := h
  rfl
 obtain ⟨a, rfl, h⟩ := h
 have hu64 := hr.units
 have hu0 := hr.units0
 have hu := bH hr
 refine ⟨_, (aq (aO (i := 1) sc__law_row.nd rfl (Or.inl rfl) (bc uU uV hr (aa (pv 0) ak)))
   (aq (aO (i := 2) sc__law_row.nd rfl (Or.inl rfl) Cq)
   (aq (iD PassesOwn.never rfl (R1 rfl Gd (aa (pv 0) ak)) (aZ (i := 3) sc__law_row.nd rfl (Or.inl rfl))
   (aD (iD PassesOwn.never rfl (Hn (K := K) rfl (aX (aY (K := K) rfl) (pv 3) aA (fun _ _ => rfl))) (aZ (i := 4) sc__law_row.nd rfl (Or.inl rfl))
   (aD (jD (bI zJ (aX (aY (K := K) rfl) (pv 4) aA (fun _ _ => rfl)) (lY hu (pv 1) (aX (aY (K := K) rfl) (pv 4) aA (fun _ _ => rfl)) aA ⟨rfl, rfl, rfl, rfl⟩) (bM _)) (aD (q9 hu (pv 2) (jY (zW (K := K) rfl) (pv 4) ph (lA aA)) (pv 4) rfl)) cV)))))
   (aq (zY (i := 5) ["_law_told"] [none] sc__law_row.nd rfl (Or.inl rfl) rfl rfl (by kernel_rfl) (Ld (pv 2)) (fun _ _ _ _ _ nd => aZ (i := 0) nd rfl (Or.inl rfl)) (fun _ _ _ _ _ => fM) (fun _ _ _ _ _ => (bc uF uE hr (aa (pv 0) ak))))
   (aD (aW (cI ["_law_call"] [none] rfl rfl (by kernel_rfl) (bx (K := K) rfl (aX (aY (K := K) rfl) (bc yt yg hr (aa (pv 1) (aa (pv 5) (aa (bR (o4 (K := K) rfl) (by rfl) j4 PyProof.Rows.boot_list (aa (bc qg qw hr (aa (pv 0) ak)) ak)) ak)))) aA (fun _ _ => rfl))) (fun _ _ _ _ _ nd => aZ (i := 0) nd rfl (Or.inl rfl)) (fun _ _ _ _ _ => fM) (fun _ _ _ _ _ => (d7 (MOk.cons aM.cl cW gb fU (MOk.cons aF.cl cD gb fU (MOk.cons aN.cl cZ gb fU MOk.nil))) (pv 0) hr))))))))), ?_⟩
 obtain ⟨xs, rs, C0, ha, hx, R, kk⟩ := h
 have lx : xs.length = rs.length := Paired.length hx
 have lr := R.len
 have hS : SqL K H a xs := SqL.of ha
 clean_wf
 refine ⟨a, rfl, xs, rs, hS, hx, R.td, fun H1 d m s1 hd gd tm cm => ?_⟩
 clean_wf
 intro D hD
 have s2 := aH (o := .dT []) hD
 have g2 : (upd H1 D (.dT [])) D = some (.dT []) := aB
 generalize upd H1 D (.dT []) = H2 at s2 g2 ⊢
 have s12 := s1.trans s2
 have hD0 : H D = none := s1.free hD
 have ndD : d ≠ D := aC gd hD
 have ha2 := s12 _ _ ha
 clean_wf
 refine ⟨a, xs, rfl, ha2, ?_⟩
 refine Qh (K := K) (a := a) (xs := xs) (fun i σ A => ∃ v3 v4 kvs cs, σ = [some (.ref a), some (.ref d), some (.ref D), v3, v4, none] /\ A d = some (.dK (dI m)) /\ Fst H A D m C0 kvs cs (rcs (rs.reverse.take i))) ⟨none, none, [], [], rfl, s2 _ _ gd, s12, g2, rfl, .nil, List.Pairwise.nil, (fun _ z => nomatch z), fun x => ⟨(fun z => nomatch z), (fun z => nomatch z.1)⟩⟩ (fun i σ A _ z => by obtain ⟨_, _, _, _, _, _, z⟩ := z; exact z.sm _ _ ha) ?_ ?_
 ·rintro i x σ A hi hxi ⟨v3, v4, kvs, cs, rfl, gdA, B⟩
  obtain ⟨r, hr, t, u, c, w, ps, ys, rfl, e1, e2, e3, ⟨zs, z1, z2⟩, e5, e6⟩ := bC hx hxi
  have hrr : rs.reverse[i]? = some r := by rw [List.getElem?_reverse (by omega), ← lx]; exact hr
  have f1 := SqT.of (K := K) (B.sm _ _ e1)
  have a1 : atI [V.int r.1, .ref u, .ref c, .ref w, .bl r.2.2.2.1] 2 = some (.ref c) := by kernel_rfl
  have lz : zs.length = r.2.2.2.2.length := Paired.length z2
  have f2 := SqT.of (K := K) (B.sm _ _ z1)
  have rsub : ∀ x ∈ r.2.2.2.2, x ∈ C0 := fun x hx => R.sub x (List.mem_flatMap.mpr ⟨r, List.mem_of_getElem? hr, hx⟩)
  clean_wf
  refine Hi (xs := zs) (fun j σ A => ∃ v4 kvs cs, σ = [some (.ref a), some (.ref d), some (.ref D), some (.ref t), v4, none] /\ A d = some (.dK (dI m)) /\ Fst H A D m C0 kvs cs (rcs (rs.reverse.take i) ++ r.2.2.2.2.take j)) ⟨v4, kvs, cs, rfl, gdA, by rw [List.take_zero, List.append_nil]; exact B⟩ (fun j σ A _ z => by obtain ⟨_, _, _, _, _, z⟩ := z; exact SqT.of (z.sm _ _ z1)) ?_ ?_
  ·clear B f1 f2 kvs cs v4 gdA
   rintro j y σ A hyj ⟨v4, kvs, cs, rfl, gdA, B⟩
   obtain ⟨x, hx2, tx⟩ := bC z2 hyj
   have xC := rsub x (List.mem_of_getElem? hx2)
   have lcs := qQ B.ic B.sub
   have lC := R.lc
   have lk : kvs.length = cs.length := by have := congrArg List.length B.ks; rw [List.length_map, List.length_map] at this; exact this
   have txA := tx.up (.same B.sm)
   obtain ⟨ta, tt, us, rfl, h1, h2, h3⟩ := id txA
   have st : SqT K A ta [.int x.n, .int x.c, .int x.k, .str x.kd, .int x.w, .ref tt] := SqT.of h1
   rw [bf hx2, ← List.append_assoc]
   have vk := Hr B.ks R.ic B.sub xC
   clean_wf
   refine jr (fun z => ?_) fun z => ?_
   ·have z : (lkI m x.c).getD 0 < x.k := by simpa using z
    clean_wf
    refine ⟨ta, _, rfl, st, NK, fun u2 hu2 => ?_⟩
    have s4 := aH (o := .tup (jB [.int x.n, .int x.c, .int x.k, .str x.kd, .int x.w, .ref tt] none (some 3))) hu2
    have g4 : (upd A u2 (.tup (jB [.int x.n, .int x.c, .int x.k, .str x.kd, .int x.w, .ref tt] none (some 3)))) u2 = some (.tup [.int x.n, .int x.c, .int x.k]) := aB
    generalize upd A u2 (.tup (jB [.int x.n, .int x.c, .int x.k, .str x.kd, .int x.w, .ref tt] none (some 3))) = A4 at s4 g4 ⊢
    have gD4 := s4 _ _ B.gD
    refine ⟨D, _, rfl, DPut.t (k := jc x) gD4 g4 (aJ (by omega)), ?_⟩
    have b5 : But D A4 (upd A4 D (.dT (putK kvs (jc x) (.ref ta)))) := fun b hb => aL hb
    have g5 : (upd A4 D (.dT (putK kvs (jc x) (.ref ta)))) D = some (.dT (putK kvs (jc x) (.ref ta))) := aB
    generalize upd A4 D (.dT (putK kvs (jc x) (V.ref ta))) = A5 at b5 g5 ⊢
    have m45 : SmH A4 A5 := SmH.but b5 gD4 (by intro _ z; cases z)
    have mA5 : SmH A A5 := (SmH.same s4).trans m45
    have sm5 : Same H A5 := b5.same (B.sm.trans s4) hD0
    have gd5 := b5.at ndD (s4 _ _ gdA)
    have tl5 := fY mA5 B.tl
    have tx5 := txA.up mA5
    rcases vk with ⟨zi, zv⟩ | ⟨zi, zv⟩
    ·have ep : putK kvs (jc x) (.ref ta) = kvs.map fun kv => if kv.1 = jc x then (kv.1, .ref ta) else kv := by
      unfold putK
      rw [nQ, if_pos zv]
     rw [ep] at g5
     obtain ⟨q1, q2⟩ := put_old R.ic xC tx5 B.ks tl5 B.sub
     refine ⟨_, _, cs, rfl, gd5, sm5, g5, q1, q2, B.ic, B.sub, fun y => ?_⟩
     rw [B.mem y]
     constructor
     ·rintro ⟨w1, w2⟩
      exact ⟨List.mem_append_left _ w1, w2⟩
     ·rintro ⟨w1, w2⟩
      rcases List.mem_append.mp w1 with w1 | w1
      ·exact ⟨w1, w2⟩
      ·rw [List.mem_singleton.mp w1]; exact (B.mem x).mp zi
    ·rw [put_new zv] at g5
     refine ⟨_, _, cs ++ [x], rfl, gd5, sm5, g5, ?_, ?_, Hk B.ic R.ic B.sub xC zi, fun y hy => ?_, fun y => ?_⟩
     ·rw [List.map_append, List.map_append, B.ks]
      rfl
     ·rw [List.map_append]
      exact cJ tl5 tx5
     ·rcases List.mem_append.mp hy with w | w
      ·exact B.sub y w
      ·rw [List.mem_singleton.mp w]; exact xC
     ·rw [List.mem_append, List.mem_append, B.mem y, List.mem_singleton]
      constructor
      ·rintro (⟨w1, w2⟩ | w)
       ·exact ⟨.inl w1, w2⟩
       ·exact ⟨.inr w, by rw [w]; exact z⟩
      ·rintro ⟨w1 | w1, w2⟩
       ·exact .inl ⟨w1, w2⟩
       ·exact .inr w1
   ·have z : ¬ (lkI m x.c).getD 0 < x.k := fun w => z (by simpa using w)
    refine ⟨_, kvs, cs, rfl, gdA, B.sm, B.gD, B.ks, B.tl, B.ic, B.sub, fun y => ?_⟩
    rw [B.mem y]
    constructor
    ·rintro ⟨w1, w2⟩
     exact ⟨List.mem_append_left _ w1, w2⟩
    ·rintro ⟨w1, w2⟩
     rcases List.mem_append.mp w1 with w1 | w1
     ·exact ⟨w1, w2⟩
     ·rw [List.mem_singleton.mp w1] at w2; exact absurd w2 z
  ·rintro σ A2 ⟨v4, kvs, cs, rfl, gdA, B⟩
   rw [lz, List.take_length] at B
   refine ⟨_, v4, kvs, cs, rfl, gdA, ?_⟩
   rw [bf hrr, show rcs (rs.reverse.take i ++ [r]) = rcs (rs.reverse.take i) ++ r.2.2.2.2 by unfold rcs; rw [List.flatMap_append]; simp]
   exact B
 rintro σ A ⟨v3, v4, kvs, cs, rfl, gdA, B⟩
 have em : ∀ x, x ∈ cs ↔ x ∈ rcs rs /\ ct m x.c < x.k := fun x => by
  rw [B.mem x]
  have : rs.reverse.take xs.length = rs.reverse := List.take_of_length_le (by rw [List.length_reverse]; omega)
  rw [this]
  unfold rcs
  rw [List.mem_flatMap, List.mem_flatMap]
  simp only [List.mem_reverse]
 have lcs := qQ B.ic B.sub
 have lC := R.lc
 have lk : kvs.length = cs.length := by have := congrArg List.length B.ks; rw [List.length_map, List.length_map] at this; exact this
 have gDA := B.gD
 clean_wf
 refine VH gDA fun o A3 hA3 sb => ?_
 intro E hE
 have sm3 : Same H A3 := fun b o z => sb b o (aC z hD0) (B.sm b o z)
 have m3 : SmH A A3 := fun b ys z => sb b _ (fun w => by rw [w, gDA] at z; cases z) z
 have gd3 := sb _ _ ndD gdA
 have tl3 := fY m3 B.tl
 refine GC (fun i σ B' => ∃ v ws, σ = [v] /\ Same A3 B' /\ B' E = some (.lst ws) /\ CT K mg B' ws (cs.take i)) ⟨none, [], rfl, aH hE, aB, .nil⟩ ?_ ?_ ?_
 ·rintro i σ B' _ ⟨_, _, _, z, _⟩
  exact z _ _ hA3
 ·rintro i k v σ B' hkv ⟨v0, ws, rfl, sB, gE, hc⟩
  have hv : (kvs.map (·.2))[i]? = some v := by rw [List.getElem?_map, hkv]; rfl
  obtain ⟨x, hx2, tx⟩ := bC tl3 hv
  have hi := (List.getElem?_eq_some_iff.mp hx2).1
  have lw : ws.length = (cs.take i).length := Paired.length hc
  rw [List.length_take] at lw
  clean_wf
  refine ⟨v, rfl, x, tx.up (.same sB), R.wf x (B.sub x (List.mem_of_getElem? hx2)), fun B2 p t1 hp cA => ?_⟩
  have gE2 := t1 _ _ gE
  have kp : KpC B2 (upd B2 E (.lst (ws ++ [.ref p]))) := ⟨fun q C dx fs e => by rw [aL (nP e gE2 (by intro z; cases z))]; exact e, SmH.lst gE2⟩
  refine ⟨ws, gE2, aJ (by omega), _, ws ++ [.ref p], rfl, fun b o z => ?_, aB, ?_⟩
  ·rw [aL (aC z hE)]
   exact t1 _ _ (sB b o z)
  ·rw [bf hx2]
   exact cJ (dW kp (dW (.same t1) hc)) (cA.up kp)
 rintro σ B' ⟨v0, ws, rfl, sB, gE, hc⟩
 rw [lk, List.take_length] at hc
 have smB := sm3.trans sB
 have gdB := sB _ _ gd3
 have pl16 : (fl1 (rs.map (·.2.2.1))).length <= 16 := z6 fun x hx => by
  obtain ⟨r, hr, rfl⟩ := List.mem_map.mp hx
  exact R.pl r hr
 clean_wf
 refine ⟨a, rfl, xs, rs, smB.seq hS, iG (.same smB) hx, by omega, fun H3 pw ys s3 gp hn3 => ?_⟩
 clean_wf
 intro g H4 hg s4 g4
 have s34 := s3.trans s4
 clean_wf
 refine ⟨d, E, g, rfl, m, ws, cs, ys, _, .inl (s34 _ _ gdB), tm.toCk, SqL.of (s34 _ _ gE), dW (.same s34) hc, by omega, rW B.ic, fun x hx => ⟨(R.wf x (B.sub x hx)).c0, (R.wf x (B.sub x hx)).c1⟩, .inl (SqL.of g4), hn3.up (.same s4), by omega, fun H5 t0 l0 g0 rw zs gs m' s5 hl0 hg0 gt0 gl0 gg0 nm pww la => ?_⟩
 have gT0 : SqT K H5 t0 [.ref l0, .ref g0] := SqT.of gt0
 have lw : ws.length = cs.length := Paired.length hc
 obtain ⟨wk, _, _⟩ := HF (rW B.ic) lw pww
 have rz := QM wk
 have rlen : rw.length <= cs.length := by have := Lg wk; omega
 have hc5 := dW (.same (s34.trans s5)) hc
 clean_wf
 intro E3 hE3
 refine bJ (K := K) (a := l0) (xs := rw.map (·.1)) (fun i σ A' => ∃ v ys, σ = [v] /\ Same H5 A' /\ A' E3 = some (.lst ys) /\ Tls A' ys ((rw.take i).map (·.2))) ⟨none, [], rfl, aH hE3, aB, .nil⟩ ?_ ?_ ?_
 ·rintro i σ A' _ ⟨_, _, _, z, _⟩
  exact SqL.of (z _ _ gl0)
 ·rintro i v σ A' hxi ⟨v0, ys3, rfl, sC, gE, py⟩
  rw [List.getElem?_map] at hxi
  cases eq : rw[i]? with
  | none => rw [eq] at hxi; cases hxi
  | some q =>
   rw [eq] at hxi
   cases hxi
   obtain ⟨qv, qx⟩ := q
   have hi := (List.getElem?_eq_some_iff.mp eq).1
   have cA : CllA K mg A' qv qx := o8 (dW (.same sC) hc5) (rz _ (List.mem_of_getElem? eq))
   obtain ⟨p, C, dx, tt, qs, ep, hk, hT, gp, gt, hq, hcs⟩ := id cA
   subst ep
   have ly := Paired.length py
   rw [List.length_map, List.length_take] at ly
   rw [bf eq, List.map_append]
   have hC : C = az ∨ C = aj ∨ C = au := by
    rcases hk with ⟨_, e⟩ | ⟨_, e⟩ | ⟨_, e⟩
    ·rw [aU] at e; cases e; exact .inl rfl
    ·rw [aG] at e; cases e; exact .inr (.inl rfl)
    ·rw [aP] at e; cases e; exact .inr (.inr rfl)
   rcases hC with rfl | rfl | rfl
   all_goals
    clean_wf
    refine ⟨.ref p, rfl, qx, cA, fun A2 t2 s2 ht2 tl => ?_⟩
    have gE2 := s2 _ _ gE
    have kp : SmH A2 (upd A2 E3 (.lst (ys3 ++ [.ref t2]))) := SmH.lst gE2
    refine ⟨ys3, gE2, aJ (by omega), _, ys3 ++ [.ref t2], rfl, fun b o z => ?_, aB, cJ (fY kp (fY (.same s2) py)) (tl.up kp)⟩
    rw [aL (aC z hE3)]
    exact s2 _ _ (sC b o z)
 rintro σ A' ⟨v0, ys3, rfl, sC, gE3, py⟩
 rw [List.length_map, List.take_length] at py
 clean_wf
 exact kk A' E3 ys3 _ (smB.trans (s34.trans (s5.trans sC))) gE3 py ⟨m, ws, cs, rw, gs, m', cm, lw, B.ic, em, pww, la, rfl⟩ fun x hx => by
  obtain ⟨q, hq, rfl⟩ := List.mem_map.mp hx
  exact B.sub _ (List.of_mem_zip (rz q hq)).2
end
end K52
namespace K52
open PySem L2
abbrev tH : Stmt := top 51
section
variable {P : Program} {w : World} {K : PySem.W.Frag} {mg : Str -> Option Value} {base : Heap}
theorem Hh (hs : List Int) (j : Nat) : (orN hs).testBit j = true ↔ ∃ h ∈ hs, h.toNat = j := by
 refine snoc_ind (P := fun hs => (orN hs).testBit j = true ↔ ∃ h ∈ hs, h.toNat = j) ?_ ?_ hs
 ·constructor
  ·intro h
   rw [show orN [] = 0 from rfl, Nat.zero_testBit] at h
   cases h
  ·rintro ⟨_, h, _⟩
   cases h
 ·intro l a ih
  rw [BW, Nat.testBit_or, Bool.or_eq_true, ih, Nat.testBit_two_pow, decide_eq_true_iff]
  constructor
  ·rintro (⟨h, hh, e⟩ | e)
   ·exact ⟨h, List.mem_append_left _ hh, e⟩
   ·exact ⟨a, by simp, e⟩
  ·rintro ⟨h, hh, e⟩
   rcases List.mem_append.mp hh with z | z
   ·exact .inl ⟨h, z, e⟩
   ·rw [List.mem_singleton.mp z] at e
    exact .inr e
theorem Qf {rs : List Rp} {me : Int} (h : me ∈ rs.map (·.1)) : orN ((rs.filter fun r => !r.2.2.2.1 || decide (r.1 = me)).map (·.1)) = orN ((rs.filter fun r => !r.2.2.2.1).map (·.1)) ||| 2 ^ me.toNat := by
 apply Nat.eq_of_testBit_eq
 intro j
 rw [Bool.eq_iff_iff, Hh, Nat.testBit_or, Bool.or_eq_true, Hh, Nat.testBit_two_pow, decide_eq_true_iff]
 constructor
 ·rintro ⟨x, hx, e⟩
  obtain ⟨r, hr, rfl⟩ := List.mem_map.mp hx
  obtain ⟨h1, h2⟩ := List.mem_filter.mp hr
  rw [Bool.or_eq_true] at h2
  rcases h2 with z | z
  ·exact .inl ⟨r.1, List.mem_map.mpr ⟨r, List.mem_filter.mpr ⟨h1, z⟩, rfl⟩, e⟩
  ·rw [← of_decide_eq_true z]; exact .inr e
 ·rintro (⟨x, hx, e⟩ | e)
  ·obtain ⟨r, hr, rfl⟩ := List.mem_map.mp hx
   obtain ⟨h1, h2⟩ := List.mem_filter.mp hr
   exact ⟨r.1, List.mem_map.mpr ⟨r, List.mem_filter.mpr ⟨h1, by rw [h2]; rfl⟩, rfl⟩, e⟩
  ·obtain ⟨r, hr, e2⟩ := List.mem_map.mp h
   exact ⟨r.1, List.mem_map.mpr ⟨r, List.mem_filter.mpr ⟨hr, by rw [decide_eq_true e2, Bool.or_true]⟩, rfl⟩, by rw [e2]; exact e⟩
theorem and_int (a b : Nat) : Builtin.bitAnd (a : Int) (b : Int) = ((a &&& b : Nat) : Int) := by
 rw [PyProof.Rows.bitAnd_pp (Int.natCast_nonneg _) (Int.natCast_nonneg _), Int.toNat_natCast, Int.toNat_natCast]
theorem V9 (w h : Nat) : ∃ k : Nat, G5 (w : Int) (h : Int) = (k : Int) := by
 have e : G5 (w : Int) (h : Int) = (w : Int) - ((w &&& h : Nat) : Int) := by
  unfold G5 Builtin.bitAnd
  rw [decide_eq_true (show (0 : Int) <= (w : Int) by omega), decide_eq_false (show ¬ (0 : Int) <= Builtin.bitNot (h : Int) by unfold Builtin.bitNot; omega)]
  show (w : Int) - (((w : Int).toNat &&& (Builtin.bitNot (Builtin.bitNot (h : Int))).toNat : Nat) : Int) = _
  rw [show Builtin.bitNot (Builtin.bitNot (h : Int)) = (h : Int) by unfold Builtin.bitNot; omega, Int.toNat_natCast, Int.toNat_natCast]
 have le : w &&& h <= w := Nat.and_le_left
 exact ⟨w - (w &&& h), by rw [e]; omega⟩
theorem LR (w h : Nat) : G5 (Builtin.bitAnd (w : Int) (h : Int)) (h : Int) = 0 := by
 rw [and_int]
 unfold G5 Builtin.bitAnd
 rw [decide_eq_true (show (0 : Int) <= ((w &&& h : Nat) : Int) by omega), decide_eq_false (show ¬ (0 : Int) <= Builtin.bitNot (h : Int) by unfold Builtin.bitNot; omega)]
 show ((w &&& h : Nat) : Int) - ((((w &&& h : Nat) : Int).toNat &&& (Builtin.bitNot (Builtin.bitNot (h : Int))).toNat : Nat) : Int) = 0
 rw [show Builtin.bitNot (Builtin.bitNot (h : Int)) = (h : Int) by unfold Builtin.bitNot; omega, Int.toNat_natCast, Int.toNat_natCast, Nat.and_assoc, Nat.and_self]
 omega
def rpD (r : Rp) : PyData := .tuple [.int r.1, .tuple (r.2.1.map prD), .tuple (r.2.2.2.2.map tlD), .tuple (r.2.2.1.map nmD), .bool r.2.2.2.1]
theorem RpA.dp {K : PySem.W.Frag} {H : Hp} {v : V} {r : Rp} (h : RpA H v r) : Dp K H v (rpD r) := by
 obtain ⟨t, u, c, w, xs, ys, rfl, e2, e3, e4, ⟨zs, z1, z2⟩, e6, e7⟩ := h
 exact .tup (SqT.of e2) (.cons (.int _) (.cons (.tup (SqT.of e3) e4.dps) (.cons (.tup (SqT.of z1) (Tls.dps z2)) (.cons (.tup (SqT.of e6) e7.dps) (.cons (.bool _) .nil)))))
theorem Bc {K : PySem.W.Frag} {H : Hp} : ∀ {vs : List V} {rs : List Rp}, RpV H vs rs -> Dps K H vs (rs.map rpD)
 | _, _, .nil => .nil
 | _, _, .cons r t => .cons r.dp (Bc t)
theorem Uj {r : Rp} (h : ∀ x ∈ r.2.2.2.2, Wf x) : (rpD r).canLay0 = true := by
 simp [rpD, PyData.canLay0, PyData.canLayAll0, Bs, wz h, HY]
theorem Ie : ∀ {rs : List Rp}, (∀ r ∈ rs, ∀ x ∈ r.2.2.2.2, Wf x) -> PyData.canLayAll0 (rs.map rpD) = true
 | [], _ => rfl
 | r :: rs, h => by rw [List.map_cons, PyData.canLayAll0.eq_2, Uj (h r List.mem_cons_self), Ie fun z hz => h z (List.mem_cons_of_mem _ hz)]; rfl
theorem Ti (r : Rp) : (rpD r).depth <= 52 := by
 have e : (rpD r).depth = PyData.depthAll [.int r.1, .tuple (r.2.1.map prD), .tuple (r.2.2.2.2.map tlD), .tuple (r.2.2.1.map nmD), .bool r.2.2.2.1] + 1 := rfl
 have e2 : PyData.depthAll [.int r.1, .tuple (r.2.1.map prD), .tuple (r.2.2.2.2.map tlD), .tuple (r.2.2.1.map nmD), .bool r.2.2.2.1] = max 0 (max (PyData.depthAll (r.2.1.map prD) + 1) (max (PyData.depthAll (r.2.2.2.2.map tlD) + 1) (max (PyData.depthAll (r.2.2.1.map nmD) + 1) (max 0 0)))) := rfl
 have := Ad r.2.1
 have := wD r.2.2.2.2
 have := Ij r.2.2.1
 rw [e, e2]
 omega
theorem Ih : ∀ rs : List Rp, PyData.depthAll (rs.map rpD) <= 52
 | [] => by rw [List.map_nil, PyData.depthAll.eq_1]; omega
 | p :: ps => by
  have e : PyData.depthAll ((p :: ps).map rpD) = max (rpD p).depth (PyData.depthAll (ps.map rpD)) := rfl
  rw [e]
  have := Ih ps
  have := Ti p
  omega
theorem SX {a b c d : V} : ¬ (HT.sIx [a, b, c, d].length 0 none = 0 /\ HT.sIx [a, b, c, d].length [a, b, c, d].length (some 3) = [a, b, c, d].length) := by
 show ¬ (HT.sIx 4 0 none = 0 /\ HT.sIx 4 4 (some 3) = 4)
 decide
theorem Wt {a b c d : V} : jB [a, b, c, d] none (some 3) = [a, b, c] := rfl
theorem or_zero (x : Nat) : Builtin.bitOr (x : Int) (0 : Int) = (x : Int) := by
 have := or_int x 0
 rw [Nat.or_zero] at this
 exact this
def Bq (K : PySem.W.Frag) : Sp := fun vs H Q _ => ∃ (a : Addr) (ns : List Int), vs = [.ref a] /\ SqL K H a (ns.map V.int) /\ ns.length <= 63 /\ ∀ H', Q (.bl true) H'
theorem sc_law : FnScope ["_law_script", "_law_hands_here", "_law_me", "_law_reports", "_law_xs", "_law_wishes", "_law_k", "_law_handed", "_law_whole_here", "_law_found", "_law_on", "_law_stay", "_law_new", "_law_again"] ["_law_script"] (ao tH) := ⟨rfl, rfl, rfl, by decide +kernel, rfl, by decide +kernel, by decide +kernel⟩
theorem RX {f tK fV bz wU uh vy xX : Addr} {fd rG eY bw vD rF tY vB : FuncData} (F : Fun K "law" "law" tH f fd)
  (tU : FnOk P w K mg base CX0 8 tK rG ["me", "hands", "reports", "wishes"] (m7 K mg)) (tZ : Cal K mg "first_plan" tK rG ["me", "hands", "reports", "wishes"])
  (jz : FnOk P w K mg base CX0 8 fV eY ["_law_script", "_law_k"] (iB K)) (jA : Cal K mg "_law_cell_at" fV eY ["_law_script", "_law_k"])
  (cu : FnOk P w K mg base CX0 8 bz bw ["_law_cell", "_law_amount"] (cO K)) (cj : Cal K mg "_law_stream" bz bw ["_law_cell", "_law_amount"])
  (rJ : FnOk P w K mg base CX0 8 wU vD ["_law_hands_here"] (qN K)) (tD : Cal K mg "_law_set" wU vD ["_law_hands_here"])
  (ou : FnOk P w K mg base CX0 8 uh rF ["_law_found"] (mY K)) (pB : Cal K mg "_law_whole" uh rF ["_law_found"])
  (DW : FnOk P w K mg base CX0 8 vy tY ["_law_script"] (oG K)) (Cg : Cal K mg "_law_case" vy tY ["_law_script"])
  (Gu : FnOk P w K mg base CX0 8 xX vB ["_law_reports"] (qL K mg)) (Ex : Cal K mg "_law_row" xX vB ["_law_reports"]) (dj : mg "isinstance" = none) (jC : mg "len" = none) (j4 : mg "list" = none) (jj : mg "range" = none) (iC : mg "tuple" = none) : FnOk P w K mg base CX0 9 f fd ["_law_script"] (Bq K) := by
 refine F.ok sc_law (fun vs H Q E h => ?_) (fun cdv A outer s H vs Q E hr h => ?_)
 ·obtain ⟨a, ns, rfl, _⟩ := h
  rfl
 obtain ⟨a, ns, rfl, h⟩ := h
 have hu64 := hr.units
 have hu0 := hr.units0
 have hu := bH hr
 refine ⟨_, (aq (S8 (bc DW Cg hr (aa (pv 0) ak)) (HD (K := K) (n := 3) rfl rfl (ql (aZ (i := 1) sc_law.nd rfl (Or.inl rfl)) (ql (aZ (i := 2) sc_law.nd rfl (Or.inr rfl)) (ql (aZ (i := 3) sc_law.nd rfl (Or.inl rfl)) Hc)))))
   (aq (aO (i := 4) sc_law.nd rfl (Or.inl rfl) (bc cu cj hr (aa (aV wC (bc jz jA hr (aa (pv 0) (aa aA ak))) aA) (aa aA ak))))
   (aq (aO (i := 5) sc_law.nd rfl (Or.inl rfl) aA)
   (aq (iD PassesOwn.never rfl (nZ rfl jj (aa (aV cH (aX (bu (K := K) rfl) (pv 4) aA (fun _ _ => rfl)) aA) ak)) (aZ (i := 6) sc_law.nd rfl (Or.inl rfl))
   (aD (aO (i := 5) sc_law.nd rfl (Or.inl rfl) (aV zy (pv 5) (aV An aA (aV cH (aX (bu (K := K) rfl) (pv 4) (pv 6) (fun _ _ => rfl)) aA))))))
   (aq (jD (bI vf (aV cH (aX (bu (K := K) rfl) (pv 4) aA (fun _ _ => rfl)) aA) aA (bM _)) (aD (aO (i := 5) sc_law.nd rfl (Or.inl rfl) (aV zy (pv 5) (aV An aA (aX (bu (K := K) rfl) (pv 1) aA (fun _ _ => rfl)))))) cV)
   (aq (aO (i := 7) sc_law.nd rfl (Or.inl rfl) (bR (o4 (K := K) rfl) (by rfl) j4 PyProof.Rows.boot_list (aa (pv 3) ak)))
   (aq (aO (i := 8) sc_law.nd rfl (Or.inl rfl) (bc rJ tD hr (aa (pv 1) ak)))
   (aq (aO (i := 9) sc_law.nd rfl (Or.inl rfl) (bc tU tZ hr (aa (pv 2) (aa (pv 8) (aa (pv 7) (aa (pv 5) ak))))))
   (aq (jD (PW.pt (yu (pq (fP K rfl (bF (lK (K := K) rfl) (by rfl) dj PyProof.Rows.boot_isinstance (aa (pv 9) (aa (qO iC PyProof.Rows.boot_tuple) ak))))) (yu (bI QL (bF (fG (K := K) rfl) (by rfl) jC PySem.boot_len (aa (pv 9) ak)) aA (bM _)) (yu (bI (Es (K := K) rfl hu64) (pv 7) (pv 3) (bM _)) (zP (pq (fP K rfl (bF (lK (K := K) rfl) (by rfl) dj PyProof.Rows.boot_isinstance (aa (aX (aY (K := K) rfl) (pv 9) aA (fun _ _ => rfl)) (aa (qO iC PyProof.Rows.boot_tuple) ak)))))))))) (aD (aW DX)) cV)
   (aq (jD (PW.pt (yu (pq (fP K rfl (bc ou pB hr (aa (aX (aY (K := K) rfl) (pv 9) aA (fun _ _ => rfl)) ak)))) (yu (pq (fP K rfl (bc ou pB hr (aa (aX (aY (K := K) rfl) (pv 9) aA (fun _ _ => rfl)) ak)))) (zP (pq (fP K rfl (bc ou pB hr (aa (aX (aY (K := K) rfl) (pv 9) aA (fun _ _ => rfl)) ak)))))))) (aD (aW DX)) cV)
   (aq (aO (i := 10) sc_law.nd rfl (Or.inl rfl) (bc rJ tD hr (aa (cI ["_law_report_here"] [none] rfl rfl (by kernel_rfl) (bx (K := K) rfl (pv 3)) (fun _ _ _ _ _ nd => aZ (i := 0) nd rfl (Or.inl rfl)) (fun _ _ _ _ _ => fM) (fun _ _ _ _ _ => (aX (aY (K := K) rfl) (pv 0) aA (fun _ _ => rfl)))) ak)))
   (aq (aO (i := 11) sc_law.nd rfl (Or.inl rfl) (bc rJ tD hr (aa (cI ["_law_me", "_law_report_here"] [some 2, none] rfl rfl (by kernel_rfl) (bx (K := K) rfl (pv 3)) (fun _ _ _ _ _ nd => aZ (i := 1) nd rfl (Or.inl rfl)) (fun _ _ _ _ _ => (mH (PW.pt (yu (pq (M9 (aX (aY (K := K) rfl) (pv 1) aA (fun _ _ => rfl)))) (zP (bI vf (aX (aY (K := K) rfl) (pv 1) aA (fun _ _ => rfl)) (pv 0) (bM _))))))) (fun _ _ _ _ _ => (aX (aY (K := K) rfl) (pv 1) aA (fun _ _ => rfl)))) ak)))
   (aq (aO (i := 12) sc_law.nd rfl (Or.inl rfl) (aV Gh (pv 5) (Lj KH (pv 8))))
   (aq (jD (PW.pt (yu (bI (Es (K := K) rfl hu64) (jY (zW (K := K) rfl) (pv 9) ph (lA aA)) (dF (aa (pv 10) (aa (aV zy (pv 11) (pv 12)) (aa (pv 12) ak)))) (bM _)) (zP (bI (Es (K := K) rfl hu64) (bR (o4 (K := K) rfl) (by rfl) j4 PyProof.Rows.boot_list (aa (aX (aY (K := K) rfl) (pv 9) aA (fun _ _ => rfl)) ak)) (bc Gu Ex hr (aa (pv 3) ak)) (bM _))))) (aD (aW DX)) cV)
   (aq (aO (i := 13) sc_law.nd rfl (Or.inl rfl) (bc tU tZ hr (aa (pv 2) (aa (pv 8) (aa (pv 3) (aa (aV Gh (pv 5) (pv 8)) ak))))))
   (aD (aW (oR (Eo (K := K) rfl hu64) (pv 13) (dF (aa (pv 10) (aa (pv 11) (aa aA (aa (aX (aY (K := K) rfl) (pv 9) aA (fun _ _ => rfl)) ak))))) (bM _))))))))))))))))))), ?_⟩
 obtain ⟨hS, ln, kk⟩ := h
 clean_wf
 refine ⟨a, rfl, ns, hS, fun H1 t lh lr hs me xs rs C0 s1 gt gh ho hne gr hx R hk hme => ?_⟩
 have lx : xs.length = rs.length := Paired.length hx
 have lr5 := R.len
 have st : SqT K H1 t [.ref lh, .int me, .ref lr] := SqT.of gt
 have mr := hk.rg me hme
 clean_wf
 refine ⟨a, 1, rfl, ns, s1.seq hS, by decide, fun c1 => ?_⟩
 clean_wf
 refine ⟨c1 / 3, 4, rfl, by decide, by decide, fun H2 q ys s2 hq gq ly hm => ?_⟩
 have ly4 : ys.length = 4 := ly
 have at2 := gC (xs := ys) (i := 2) (by omega)
 have at3 := gC (xs := ys) (i := 3) (by omega)
 have sq : SqL K H2 q (ys.map V.int) := SqL.of gq
 have y0 := Int.emod_nonneg ys[3] (show (3 : Int) ≠ 0 by decide)
 have y1 := Int.emod_lt_of_pos ys[3] (show (0 : Int) < 3 by decide)
 clean_wf
 refine ⟨_, rfl, by omega, by omega, ?_⟩
 refine qW (fun i σ A => A = H2 /\ ∃ v6, ∃ w : Nat, σ = [some (.ref a), some (.ref lh), some (.int me), some (.ref lr), some (.ref q), some (.int (w : Int)), v6, none, none, none, none, none, none, none]) ⟨rfl, none, 0, rfl⟩ ?_ ?_
 ·rintro i σ A hi ⟨rfl, v6, w, rfl⟩
  have hi3 : i < 4 := by omega
  have ai : atI (ys.map V.int) (0 + (i : Int)) = some (V.int ys[i]) := by rw [Int.zero_add]; exact gC (by omega)
  have b0 := Int.emod_nonneg ys[i] (show (63 : Int) ≠ 0 by decide)
  have b1 := Int.emod_lt_of_pos ys[i] (show (0 : Int) < 63 by decide)
  have cp : Kz 1 (ys[i] % 63) := ⟨b0, by omega, by decide⟩
  clean_wf
  refine ⟨rfl, some (.int (0 + (i : Int))), w ||| 2 ^ (ys[i] % 63).toNat, ?_⟩
  rw [Int.one_mul, p2c, or_int]
  rfl
 rintro σ A ⟨rfl, v6, w, rfl⟩
 obtain ⟨h0, hh0⟩ : ∃ h0, hs[0]? = some h0 := ⟨_, List.getElem?_eq_getElem (List.length_pos_iff.mpr hne)⟩
 have r0 := ho.rg h0 (List.mem_of_getElem? hh0)
 have ah0 : atI (hs.map V.int) 0 = some (V.int h0) := jh (j := 0) (by rw [List.getElem?_map, hh0]; rfl)
 have sh : SqL K A lh (hs.map V.int) := SqL.of (s2 _ _ gh)
 dsimp only
 refine K3 (fun σ' B => B = A /\ ∃ w : Nat, σ' = [some (.ref a), some (.ref lh), some (.int me), some (.ref lr), some (.ref q), some (.int (w : Int)), v6, none, none, none, none, none, none, none]) ?_ fun N rest => ?_
 rotate_left
 ·clean_wf
  refine jr (fun _ => ?_) fun _ => ?_
  ·have cp : Kz 1 h0 := ⟨r0.1, by omega, by decide⟩
   clean_wf
   refine rest _ _ ⟨rfl, w ||| 2 ^ h0.toNat, ?_⟩
   rw [Int.one_mul, p2c, or_int]
   rfl
  ·exact rest _ _ ⟨rfl, w, rfl⟩
 clear w
 rintro σ' B ⟨rfl, w, rfl⟩
 have gr2 := s2 _ _ gr
 have hx2 := iG (.same s2) hx
 have sr2 : SqL K B lr xs := SqL.of gr2
 clean_wf
 intro l2 A1 hl2 t1 g1
 have sh1 : SqL K A1 lh (hs.map V.int) := SqL.of (t1 _ _ (s2 _ _ gh))
 clean_wf
 refine ⟨lh, rfl, hs, sh1, ho, fun A2 t2 => ?_⟩
 have t12 := t1.trans t2
 clean_wf
 refine ⟨me, _, l2, _, rfl, xs, rs, C0, mr.1, mr.2, SqL.of (t2 _ _ g1), iG (.same t12) hx2, R, fun A3 f u zs cs t3 hf gf gu tz pl sub => ?_⟩
 have t13 := t12.trans t3
 have sf : SqT K A3 f _ := SqT.of gf
 have wfr : ∀ r ∈ rs, ∀ x ∈ r.2.2.2.2, Wf x := fun r hr x hx => R.wf x (R.sub x (List.mem_flatMap.mpr ⟨r, hr, hx⟩))
 have wfc : ∀ x ∈ cs, Wf x := fun x hx => R.wf x (sub x hx)
 clean_wf
 refine ⟨_, _, _, true, rfl, .tup gf, (by kernel_rfl), ?_⟩
 clean_wf
 refine jr (fun z => by simp at z) fun _ => ?_
 clean_wf
 refine uP (d := .list (rs.map rpD)) (.inr ⟨_, _, _, rfl, rfl, SqL.of (t3 _ _ (t2 _ _ g1)), Bc (iG (.same t13) hx2)⟩) (.inr ⟨_, _, _, rfl, rfl, SqL.of (t13 _ _ gr2), Bc (iG (.same t13) hx2)⟩) (by rw [PyData.canLay0.eq_5]; exact Ie wfr) (by have e : (PyData.list (rs.map rpD)).depth = PyData.depthAll (rs.map rpD) + 1 := rfl; have := Ih rs; rw [e]; omega) ?_
 clean_wf
 refine ⟨_, _, _, true, rfl, .tup gu, (by kernel_rfl), ?_⟩
 clean_wf
 refine ⟨_, rfl, ?_⟩
 clean_wf
 refine ⟨_, rfl, ?_⟩
 clean_wf
 refine ⟨_, rfl, ?_⟩
 have gr3 := t13 _ _ gr2
 have sr3 : SqL K A3 lr xs := SqL.of gr3
 have hx3 := iG (.same t13) hx2
 clean_wf
 intro E hE
 refine bJ (K := K) (a := lr) (xs := xs) (fun i σ A => ∃ v, σ = [v] /\ Same A3 A /\ A E = some (.lst (((rs.take i).map (·.1)).map V.int))) ⟨none, rfl, aH hE, aB⟩ ?_ ?_ ?_
 ·rintro i σ A _ ⟨_, _, z, _⟩
  exact z.seq sr3
 ·rintro i x σ A hxi ⟨v, rfl, sA, gE⟩
  obtain ⟨r, hr, t, u, c, w, ps, ys', rfl, e1, e2, e3, e4, e5, e6⟩ := bC hx3 hxi
  have f1 := SqT.of (K := K) (sA _ _ e1)
  have b1 : atI [V.int r.1, .ref u, .ref c, .ref w, .bl r.2.2.2.1] 0 = some (.int r.1) := by kernel_rfl
  have hi := (List.getElem?_eq_some_iff.mp hr).1
  clean_wf
  refine ⟨_, gE, aJ (by simp; omega), _, rfl, fun b o z => ?_, ?_⟩
  ·rw [aL (aC z hE)]
   exact sA b o z
  ·rw [aB, bf hr, List.map_append, List.map_append]
   rfl
 rintro σ A4 ⟨v, rfl, s4, gE⟩
 rw [lx, List.take_length] at gE
 clean_wf
 refine ⟨E, rfl, rs.map (·.1), SqL.of gE, hk, fun A5 t5 => ?_⟩
 have s5 := s4.trans t5
 have sr5 := s5.seq sr3
 have hx5 := iG (.same s5) hx3
 clear gE hE v
 clean_wf
 intro E2 hE2
 refine bJ (K := K) (a := lr) (xs := xs) (fun i σ B => ∃ v, σ = [some (.int me), v] /\ Same A5 B /\ B E2 = some (.lst ((((rs.take i).filter (fun r => !r.2.2.2.1 || decide (r.1 = me))).map (·.1)).map V.int))) ⟨none, rfl, aH hE2, aB⟩ ?_ ?_ ?_
 ·rintro i σ B _ ⟨_, _, z, _⟩
  exact z.seq sr5
 ·rintro i x σ B hxi ⟨v, rfl, sB, gE⟩
  obtain ⟨r, hr, t, u, c, w, ps, ys', rfl, e1, e2, e3, e4, e5, e6⟩ := bC hx5 hxi
  have f1 := SqT.of (K := K) (sB _ _ e1)
  have b1 : atI [V.int r.1, .ref u, .ref c, .ref w, .bl r.2.2.2.1] 0 = some (.int r.1) := by kernel_rfl
  have b4 : atI [V.int r.1, .ref u, .ref c, .ref w, .bl r.2.2.2.1] 4 = some (.bl r.2.2.2.1) := by kernel_rfl
  have hi := (List.getElem?_eq_some_iff.mp hr).1
  have lf := List.length_filter_le (fun r : Rp => !r.2.2.2.1 || decide (r.1 = me)) (rs.take i)
  rw [List.length_take] at lf
  rw [bf hr, List.filter_append]
  have yes : (!r.2.2.2.1 || decide (r.1 = me)) = true -> ∃ v, [some (V.int me), some (V.ref t)] = [some (V.int me), v] /\ Same A5 (upd B E2 (.lst ((((rs.take i).filter (fun r => !r.2.2.2.1 || decide (r.1 = me))).map (·.1)).map V.int ++ [V.int r.1]))) /\ (upd B E2 (.lst ((((rs.take i).filter (fun r => !r.2.2.2.1 || decide (r.1 = me))).map (·.1)).map V.int ++ [V.int r.1]))) E2 = some (.lst ((((rs.take i).filter (fun r => !r.2.2.2.1 || decide (r.1 = me)) ++ [r].filter (fun r => !r.2.2.2.1 || decide (r.1 = me))).map (·.1)).map V.int)) := fun hy => by
   refine ⟨_, rfl, fun b o z => ?_, ?_⟩
   ·rw [aL (aC z hE2)]
    exact sB b o z
   ·rw [aB]
    simp [hy]
  cases hb : r.2.2.2.1 with
  | true =>
   rw [hb] at f1 b1 b4
   clean_wf
   refine jr (fun z => ?_) fun z => ?_
   ·have z : r.1 = me := by simpa using z
    clean_wf
    exact ⟨_, gE, aJ (by simp; omega), yes (by rw [decide_eq_true z, Bool.or_true])⟩
   ·have z : ¬ r.1 = me := fun w => z (by simpa using w)
    refine ⟨_, rfl, sB, ?_⟩
    rw [gE]
    simp [hb, z]
  | false =>
   rw [hb] at f1 b1 b4
   clean_wf
   exact ⟨_, gE, aJ (by simp; omega), yes (by rw [hb]; rfl)⟩
 rintro σ A6 ⟨v, rfl, s6, gE⟩
 rw [lx, List.take_length] at gE
 clean_wf
 refine ⟨E2, rfl, _, SqL.of gE, Ko hk (List.Sublist.map _ List.filter_sublist), fun A7 t7 => ?_⟩
 rw [Qf hme]
 have s7 := s6.trans t7
 have s37 := s5.trans s7
 have e1 : Builtin.bitOr ((orN ((rs.filter (fun r => !r.2.2.2.1)).map (·.1)) : Nat) : Int) (2 ^ me.toNat) = ((orN ((rs.filter (fun r => !r.2.2.2.1)).map (·.1)) ||| 2 ^ me.toNat : Nat) : Int) := by rw [p2c, or_int]
 have gf7 := s37 _ _ gf
 rw [e1] at gf7
 have gu7 := s37 _ _ gu
 have tz7 := fY (.same s37) tz
 have gr7 := s37 _ _ gr3
 have hx7 := iG (.same s37) hx3
 clear gE hE2 v
 clean_wf
 refine ⟨f, _, rfl, SqT.of gf7, SX, fun u2 hu2 => ?_⟩
 rw [Wt]
 generalize hA : upd A7 u2 _ = A8
 have s8 : Same A7 A8 := by rw [← hA]; exact aH hu2
 have g8 := congrFun hA u2
 rw [aB] at g8
 have g8 := g8.symm
 have gf8 := s8 _ _ gf7
 clean_wf
 intro u3 A9 hu3 s9 g9
 refine uP (.inl (.tup (SqT.of (s9 _ _ g8)) (.cons (.int _) (.cons (.int _) (.cons (.int _) .nil))))) (.inl (.tup (SqT.of g9) (.cons (.int _) (.cons (.int _) (.cons (.int _) .nil))))) rfl (by show 1 <= 60; decide) ?_
 have s79 := s8.trans s9
 have sf9 : SqT K A9 f _ := SqT.of (s9 _ _ gf8)
 have su9 : SqT K A9 u zs := SqT.of (s79 _ _ gu7)
 clean_wf
 intro l3 A10 hl3 s10 g10
 have s710 := s79.trans s10
 clean_wf
 refine ⟨lr, rfl, xs, rs, C0, s710 _ _ gr7, iG (.same s710) hx7, R, fun A11 l4 ys4 cs4 s11 g11 tz11 pl4 sub4 => ?_⟩
 have ec := Hf pl4 pl
 subst ec
 have s711 := s710.trans s11
 have tz' := fY (.same s711) tz7
 refine uP (K9 (s11 _ _ g10) tz') (K9 g11 tz11) (Kl wfc) (Nb _) ?_
 have sf11 : SqT K A11 f _ := SqT.of (s711 _ _ gf7)
 clean_wf
 refine ⟨me, _, lr, _, rfl, xs, rs, C0, mr.1, mr.2, SqL.of (s711 _ _ gr7), iG (.same s711) hx7, R, fun A12 f2 u5 zs5 cs5 s12 hf2 gf2 gu5 tz5 pl5 sub5 => ?_⟩
 have ec5 := Hf pl5 pl
 subst ec5
 rw [LR, e1, or_zero] at gf2
 have sf12 : SqT K A12 f _ := SqT.of (s12 _ _ (s711 _ _ gf7))
 clean_wf
 intro u6 A13 hu6 s13 g13
 have s713 := s711.trans (s12.trans s13)
 refine JN (.inl (.tup (SqT.of (s13 _ _ gf2)) (.cons (.int _) (.cons (.int _) (.cons (.int _) (.cons (.tup (SqT.of (s13 _ _ gu5)) (Tls.dps (fY (.same s13) tz5))) .nil)))))) (.inl (.tup (SqT.of g13) (.cons (.int _) (.cons (.int _) (.cons (.int _) (.cons (.tup (SqT.of (s713 _ _ gu7)) (Tls.dps (fY (.same s713) tz7))) .nil)))))) ?_ ?_ ?_
 ·simp [PyData.canLay0, PyData.canLayAll0, wz wfc]
 ·show max 0 (max 0 (max 0 (max (PyData.depthAll _ + 1) 0))) + 1 <= 60
  have := wD cs5
  omega
 clean_wf
 exact kk _
end
end K52
namespace K52
open PySem L2
theorem T4 {l : W.OpenLaw} {w : World} {K : W.Frag} {h : Heap} {mg : Str -> Option Value} {fa f_0 f_1 f_2 f_3 f_4 f_5 f_6 f_7 f_8 f_9 f_10 f_11 f_12 f_13 f_14 f_15 f_16 f_17 f_18 f_19 f_20 f_21 f_22 f_23 f_24 f_25 f_26 f_27 f_28 f_29 f_30 f_31 f_32 f_33 f_34 f_35 f_36 f_37 f_38 f_39 f_40 f_41 f_42 f_43 f_44 f_45 f_46 f_47 f_48 eU aj au az aK : Addr} (X : K.In h) (G : h.Ns mainGlobals mg) (hfa : mg "law" = some (.ref fa))
  {oc_0 kV_0 dc_0 pm_0 cd_0 ct_0 : Value} {od_0 an_0 : Option Addr} {sl_0 : Array (Option Value)} {oc_1 kV_1 dc_1 pm_1 cd_1 ct_1 : Value} {od_1 an_1 : Option Addr} {sl_1 : Array (Option Value)} {oc_2 kV_2 dc_2 pm_2 cd_2 ct_2 : Value} {od_2 an_2 : Option Addr} {sl_2 : Array (Option Value)} {oc_3 kV_3 dc_3 pm_3 cd_3 ct_3 : Value} {od_3 an_3 : Option Addr} {sl_3 : Array (Option Value)} {oc_4 kV_4 dc_4 pm_4 cd_4 ct_4 : Value} {od_4 an_4 : Option Addr} {sl_4 : Array (Option Value)} {oc_5 kV_5 dc_5 pm_5 cd_5 ct_5 : Value} {od_5 an_5 : Option Addr} {sl_5 : Array (Option Value)} {oc_6 kV_6 dc_6 pm_6 cd_6 ct_6 : Value} {od_6 an_6 : Option Addr} {sl_6 : Array (Option Value)} {oc_7 kV_7 dc_7 pm_7 cd_7 ct_7 : Value} {od_7 an_7 : Option Addr} {sl_7 : Array (Option Value)} {oc_8 kV_8 dc_8 pm_8 cd_8 ct_8 : Value} {od_8 an_8 : Option Addr} {sl_8 : Array (Option Value)} {oc_9 kV_9 dc_9 pm_9 cd_9 ct_9 : Value} {od_9 an_9 : Option Addr} {sl_9 : Array (Option Value)} {oc_10 kV_10 dc_10 pm_10 cd_10 ct_10 : Value} {od_10 an_10 : Option Addr} {sl_10 : Array (Option Value)} {oc_11 kV_11 dc_11 pm_11 cd_11 ct_11 : Value} {od_11 an_11 : Option Addr} {sl_11 : Array (Option Value)} {oc_12 kV_12 dc_12 pm_12 cd_12 ct_12 : Value} {od_12 an_12 : Option Addr} {sl_12 : Array (Option Value)} {oc_13 kV_13 dc_13 pm_13 cd_13 ct_13 : Value} {od_13 an_13 : Option Addr} {sl_13 : Array (Option Value)} {oc_14 kV_14 dc_14 pm_14 cd_14 ct_14 : Value} {od_14 an_14 : Option Addr} {sl_14 : Array (Option Value)} {oc_15 kV_15 dc_15 pm_15 cd_15 ct_15 : Value} {od_15 an_15 : Option Addr} {sl_15 : Array (Option Value)} {oc_16 kV_16 dc_16 pm_16 cd_16 ct_16 : Value} {od_16 an_16 : Option Addr} {sl_16 : Array (Option Value)} {oc_17 kV_17 dc_17 pm_17 cd_17 ct_17 : Value} {od_17 an_17 : Option Addr} {sl_17 : Array (Option Value)} {oc_18 kV_18 dc_18 pm_18 cd_18 ct_18 : Value} {od_18 an_18 : Option Addr} {sl_18 : Array (Option Value)} {oc_19 kV_19 dc_19 pm_19 cd_19 ct_19 : Value} {od_19 an_19 : Option Addr} {sl_19 : Array (Option Value)} {oc_20 kV_20 dc_20 pm_20 cd_20 ct_20 : Value} {od_20 an_20 : Option Addr} {sl_20 : Array (Option Value)} {oc_21 kV_21 dc_21 pm_21 cd_21 ct_21 : Value} {od_21 an_21 : Option Addr} {sl_21 : Array (Option Value)} {oc_22 kV_22 dc_22 pm_22 cd_22 ct_22 : Value} {od_22 an_22 : Option Addr} {sl_22 : Array (Option Value)} {oc_23 kV_23 dc_23 pm_23 cd_23 ct_23 : Value} {od_23 an_23 : Option Addr} {sl_23 : Array (Option Value)} {oc_24 kV_24 dc_24 pm_24 cd_24 ct_24 : Value} {od_24 an_24 : Option Addr} {sl_24 : Array (Option Value)} {oc_25 kV_25 dc_25 pm_25 cd_25 ct_25 : Value} {od_25 an_25 : Option Addr} {sl_25 : Array (Option Value)} {oc_26 kV_26 dc_26 pm_26 cd_26 ct_26 : Value} {od_26 an_26 : Option Addr} {sl_26 : Array (Option Value)} {oc_27 kV_27 dc_27 pm_27 cd_27 ct_27 : Value} {od_27 an_27 : Option Addr} {sl_27 : Array (Option Value)} {oc_28 kV_28 dc_28 pm_28 cd_28 ct_28 : Value} {od_28 an_28 : Option Addr} {sl_28 : Array (Option Value)} {oc_29 kV_29 dc_29 pm_29 cd_29 ct_29 : Value} {od_29 an_29 : Option Addr} {sl_29 : Array (Option Value)} {oc_30 kV_30 dc_30 pm_30 cd_30 ct_30 : Value} {od_30 an_30 : Option Addr} {sl_30 : Array (Option Value)} {oc_31 kV_31 dc_31 pm_31 cd_31 ct_31 : Value} {od_31 an_31 : Option Addr} {sl_31 : Array (Option Value)} {oc_32 kV_32 dc_32 pm_32 cd_32 ct_32 : Value} {od_32 an_32 : Option Addr} {sl_32 : Array (Option Value)} {oc_33 kV_33 dc_33 pm_33 cd_33 ct_33 : Value} {od_33 an_33 : Option Addr} {sl_33 : Array (Option Value)} {oc_34 kV_34 dc_34 pm_34 cd_34 ct_34 : Value} {od_34 an_34 : Option Addr} {sl_34 : Array (Option Value)} {oc_35 kV_35 dc_35 pm_35 cd_35 ct_35 : Value} {od_35 an_35 : Option Addr} {sl_35 : Array (Option Value)} {oc_36 kV_36 dc_36 pm_36 cd_36 ct_36 : Value} {od_36 an_36 : Option Addr} {sl_36 : Array (Option Value)} {oc_37 kV_37 dc_37 pm_37 cd_37 ct_37 : Value} {od_37 an_37 : Option Addr} {sl_37 : Array (Option Value)} {oc_38 kV_38 dc_38 pm_38 cd_38 ct_38 : Value} {od_38 an_38 : Option Addr} {sl_38 : Array (Option Value)} {oc_39 kV_39 dc_39 pm_39 cd_39 ct_39 : Value} {od_39 an_39 : Option Addr} {sl_39 : Array (Option Value)} {oc_40 kV_40 dc_40 pm_40 cd_40 ct_40 : Value} {od_40 an_40 : Option Addr} {sl_40 : Array (Option Value)} {oc_41 kV_41 dc_41 pm_41 cd_41 ct_41 : Value} {od_41 an_41 : Option Addr} {sl_41 : Array (Option Value)} {oc_42 kV_42 dc_42 pm_42 cd_42 ct_42 : Value} {od_42 an_42 : Option Addr} {sl_42 : Array (Option Value)} {oc_43 kV_43 dc_43 pm_43 cd_43 ct_43 : Value} {od_43 an_43 : Option Addr} {sl_43 : Array (Option Value)} {oc_44 kV_44 dc_44 pm_44 cd_44 ct_44 : Value} {od_44 an_44 : Option Addr} {sl_44 : Array (Option Value)} {oc_45 kV_45 dc_45 pm_45 cd_45 ct_45 : Value} {od_45 an_45 : Option Addr} {sl_45 : Array (Option Value)} {oc_46 kV_46 dc_46 pm_46 cd_46 ct_46 : Value} {od_46 an_46 : Option Addr} {sl_46 : Array (Option Value)} {oc_47 kV_47 dc_47 pm_47 cd_47 ct_47 : Value} {od_47 an_47 : Option Addr} {sl_47 : Array (Option Value)} {oc_48 kV_48 dc_48 pm_48 cd_48 ct_48 : Value} {od_48 an_48 : Option Addr} {sl_48 : Array (Option Value)} {nK : Nat} {t1K t2K t3K : Tok}
  (a_0 : W.nsIn K mainGlobals "count_of" = some (some (.ref f_0)))
  (a_1 : W.nsIn K mainGlobals "hands_among" = some (some (.ref f_1)))
  (a_2 : W.nsIn K mainGlobals "covers" = some (some (.ref f_2)))
  (a_3 : W.nsIn K mainGlobals "unpacked" = some (some (.ref f_3)))
  (a_4 : W.nsIn K mainGlobals "joined" = some (some (.ref f_4)))
  (a_5 : W.nsIn K mainGlobals "covers_name" = some (some (.ref f_5)))
  (a_8 : W.nsIn K mainGlobals "is_whole" = some (some (.ref f_8)))
  (a_9 : W.nsIn K mainGlobals "is_word" = some (some (.ref f_9)))
  (a_10 : W.nsIn K mainGlobals "make_call" = some (some (.ref f_10)))
  (a_14 : W.nsIn K mainGlobals "first_open" = some (some (.ref f_14)))
  (a_15 : W.nsIn K mainGlobals "name_at" = some (some (.ref f_15)))
  (a_20 : W.nsIn K mainGlobals "rank_of" = some (some (.ref f_20)))
  (a_21 : W.nsIn K mainGlobals "can_be_taken" = some (some (.ref f_21)))
  (a_22 : W.nsIn K mainGlobals "first_to_take" = some (some (.ref f_22)))
  (a_23 : W.nsIn K mainGlobals "callers_from" = some (some (.ref f_23)))
  (a_24 : W.nsIn K mainGlobals "run" = some (some (.ref f_24)))
  (a_25 : W.nsIn K mainGlobals "least_asking" = some (some (.ref f_25)))
  (a_26 : W.nsIn K mainGlobals "placed" = some (some (.ref f_26)))
  (a_31 : W.nsIn K mainGlobals "bit_of" = some (some (.ref f_31)))
  (a_32 : W.nsIn K mainGlobals "set_of" = some (some (.ref f_32)))
  (a_33 : W.nsIn K mainGlobals "call_of" = some (some (.ref f_33)))
  (a_34 : W.nsIn K mainGlobals "base_of" = some (some (.ref f_34)))
  (a_35 : W.nsIn K mainGlobals "places_of" = some (some (.ref f_35)))
  (a_36 : W.nsIn K mainGlobals "calls_beyond" = some (some (.ref f_36)))
  (a_37 : W.nsIn K mainGlobals "first_plan" = some (some (.ref f_37)))
  (a_38 : W.nsIn K mainGlobals "_law_cell_at" = some (some (.ref f_38)))
  (a_39 : W.nsIn K mainGlobals "_law_stream" = some (some (.ref f_39)))
  (a_40 : W.nsIn K mainGlobals "_law_hands" = some (some (.ref f_40)))
  (a_41 : W.nsIn K mainGlobals "_law_set" = some (some (.ref f_41)))
  (a_42 : W.nsIn K mainGlobals "_law_rank" = some (some (.ref f_42)))
  (a_43 : W.nsIn K mainGlobals "_law_whole" = some (some (.ref f_43)))
  (a_44 : W.nsIn K mainGlobals "_law_calls" = some (some (.ref f_44)))
  (a_45 : W.nsIn K mainGlobals "_law_report" = some (some (.ref f_45)))
  (a_46 : W.nsIn K mainGlobals "_law_case" = some (some (.ref f_46)))
  (a_47 : W.nsIn K mainGlobals "_law_row" = some (some (.ref f_47)))
  (a_48 : W.nsIn K mainGlobals "law" = some (some (.ref f_48)))
  (Fb : W.nsIn K mainGlobals "Call" = some (some (.ref eU)))
  (pX : W.nsIn K mainGlobals "HeardCall" = some (some (.ref aj)))
  (uN : W.nsIn K mainGlobals "OneCall" = some (some (.ref au)))
  (uR : W.nsIn K mainGlobals "OwnCall" = some (some (.ref az)))
  (uG : W.nsIn K mainGlobals "KINDS" = some (some (.ref aK)))
  (Lb : W.nsIn K mainGlobals "abs" = some none)
  (KC : W.nsIn K mainGlobals "all" = some none)
  (Fz : W.nsIn K mainGlobals "bool" = some none)
  (Fp : W.nsIn K mainGlobals "dict" = some none)
  (J8 : W.nsIn K mainGlobals "int" = some none)
  (oK : W.nsIn K mainGlobals "isinstance" = some none)
  (Ml : W.nsIn K mainGlobals "len" = some none)
  (GZ : W.nsIn K mainGlobals "list" = some none)
  (K8 : W.nsIn K mainGlobals "max" = some none)
  (Nf : W.nsIn K mainGlobals "min" = some none)
  (By : W.nsIn K mainGlobals "range" = some none)
  (tu : W.nsIn K mainGlobals "reversed" = some none)
  (M7 : W.nsIn K mainGlobals "set" = some none)
  (wZ : W.nsIn K mainGlobals "sorted" = some none)
  (Ms : W.nsIn K mainGlobals "sum" = some none)
  (Bl : W.nsIn K mainGlobals "tuple" = some none)
  (at_HeardCall___init__ : W.findIn K (.ref aj) "__init__" = some (some (.ref f_6)))
  (at_HeardCall_asks_place : W.findIn K (.ref aj) "asks_place" = some (some (.ref f_18)))
  (at_HeardCall_free : W.findIn K (.ref aj) "free" = some (some (.ref f_13)))
  (at_HeardCall_in_turn : W.findIn K (.ref aj) "in_turn" = some (some (.ref f_11)))
  (at_HeardCall_kind : W.findIn K (.ref aj) "kind" = some (some (.ref f_28)))
  (at_HeardCall_name : W.findIn K (.ref aj) "name" = some (some (.ref f_16)))
  (at_HeardCall_rank : W.findIn K (.ref aj) "rank" = some (some (.ref f_17)))
  (at_HeardCall_told : W.findIn K (.ref aj) "told" = some (some (.ref f_30)))
  (at_OneCall___init__ : W.findIn K (.ref au) "__init__" = some (some (.ref f_6)))
  (at_OneCall_asks_place : W.findIn K (.ref au) "asks_place" = some (some (.ref f_19)))
  (at_OneCall_free : W.findIn K (.ref au) "free" = some (some (.ref f_13)))
  (at_OneCall_in_turn : W.findIn K (.ref au) "in_turn" = some (some (.ref f_11)))
  (at_OneCall_kind : W.findIn K (.ref au) "kind" = some (some (.ref f_29)))
  (at_OneCall_name : W.findIn K (.ref au) "name" = some (some (.ref f_16)))
  (at_OneCall_rank : W.findIn K (.ref au) "rank" = some (some (.ref f_17)))
  (at_OneCall_told : W.findIn K (.ref au) "told" = some (some (.ref f_30)))
  (at_OwnCall___init__ : W.findIn K (.ref az) "__init__" = some (some (.ref f_7)))
  (at_OwnCall_asks_place : W.findIn K (.ref az) "asks_place" = some (some (.ref f_18)))
  (at_OwnCall_free : W.findIn K (.ref az) "free" = some (some (.ref f_12)))
  (at_OwnCall_in_turn : W.findIn K (.ref az) "in_turn" = some (some (.ref f_11)))
  (at_OwnCall_kind : W.findIn K (.ref az) "kind" = some (some (.ref f_27)))
  (at_OwnCall_name : W.findIn K (.ref az) "name" = some (some (.ref f_16)))
  (at_OwnCall_rank : W.findIn K (.ref az) "rank" = some (some (.ref f_17)))
  (at_OwnCall_told : W.findIn K (.ref az) "told" = some (some (.ref f_30)))
  (fc_Call___init__ : W.findCls K (.ref eU) (.type "type") "__init__" = some (.val (.ref f_6)))
  (l_0 : K.lookup f_0 = some ⟨oc_0, od_0, .func (W.fnOf "count_of" "count_of" (aR jP) (aQ jP) (ao jP) .none kV_0 dc_0 pm_0 an_0 cd_0 ct_0), sl_0⟩)
  (c_0 : W.codeIn K cd_0 "count_of" = true)
  (k_0 : W.keepIn K (.ref f_0) = true)
  (l_1 : K.lookup f_1 = some ⟨oc_1, od_1, .func (W.fnOf "hands_among" "hands_among" (aR fu) (aQ fu) (ao fu) .none kV_1 dc_1 pm_1 an_1 cd_1 ct_1), sl_1⟩)
  (c_1 : W.codeIn K cd_1 "hands_among" = true)
  (k_1 : W.keepIn K (.ref f_1) = true)
  (l_2 : K.lookup f_2 = some ⟨oc_2, od_2, .func (W.fnOf "covers" "covers" (aR nD) (aQ nD) (ao nD) .none kV_2 dc_2 pm_2 an_2 cd_2 ct_2), sl_2⟩)
  (c_2 : W.codeIn K cd_2 "covers" = true)
  (k_2 : W.keepIn K (.ref f_2) = true)
  (l_3 : K.lookup f_3 = some ⟨oc_3, od_3, .func (W.fnOf "unpacked" "unpacked" (aR jO) (aQ jO) (ao jO) .none kV_3 dc_3 pm_3 an_3 cd_3 ct_3), sl_3⟩)
  (c_3 : W.codeIn K cd_3 "unpacked" = true)
  (k_3 : W.keepIn K (.ref f_3) = true)
  (l_4 : K.lookup f_4 = some ⟨oc_4, od_4, .func (W.fnOf "joined" "joined" (aR nA) (aQ nA) (ao nA) .none kV_4 dc_4 pm_4 an_4 cd_4 ct_4), sl_4⟩)
  (c_4 : W.codeIn K cd_4 "joined" = true)
  (k_4 : W.keepIn K (.ref f_4) = true)
  (l_5 : K.lookup f_5 = some ⟨oc_5, od_5, .func (W.fnOf "covers_name" "covers_name" (aR fB) (aQ fB) (ao fB) .none kV_5 dc_5 pm_5 an_5 cd_5 ct_5), sl_5⟩)
  (c_5 : W.codeIn K cd_5 "covers_name" = true)
  (k_5 : W.keepIn K (.ref f_5) = true)
  (l_6 : K.lookup f_6 = some ⟨oc_6, od_6, .func (W.fnOf "__init__" "Call.__init__" (aR dg) (aQ dg) (ao dg) .none kV_6 dc_6 pm_6 an_6 cd_6 ct_6), sl_6⟩)
  (c_6 : W.codeIn K cd_6 "Call.__init__" = true)
  (k_6 : W.keepIn K (.ref f_6) = true)
  (l_7 : K.lookup f_7 = some ⟨oc_7, od_7, .func (W.fnOf "__init__" "OwnCall.__init__" (aR cg) (aQ cg) (ao cg) .none kV_7 dc_7 pm_7 an_7 cd_7 ct_7), sl_7⟩)
  (c_7 : W.codeIn K cd_7 "OwnCall.__init__" = true)
  (k_7 : W.keepIn K (.ref f_7) = true)
  (l_8 : K.lookup f_8 = some ⟨oc_8, od_8, .func (W.fnOf "is_whole" "is_whole" (aR jJ) (aQ jJ) (ao jJ) .none kV_8 dc_8 pm_8 an_8 cd_8 ct_8), sl_8⟩)
  (c_8 : W.codeIn K cd_8 "is_whole" = true)
  (k_8 : W.keepIn K (.ref f_8) = true)
  (l_9 : K.lookup f_9 = some ⟨oc_9, od_9, .func (W.fnOf "is_word" "is_word" (aR lG) (aQ lG) (ao lG) .none kV_9 dc_9 pm_9 an_9 cd_9 ct_9), sl_9⟩)
  (c_9 : W.codeIn K cd_9 "is_word" = true)
  (k_9 : W.keepIn K (.ref f_9) = true)
  (l_10 : K.lookup f_10 = some ⟨oc_10, od_10, .func (W.fnOf "make_call" "make_call" (aR jb) (aQ jb) (ao jb) .none kV_10 dc_10 pm_10 an_10 cd_10 ct_10), sl_10⟩)
  (c_10 : W.codeIn K cd_10 "make_call" = true)
  (k_10 : W.keepIn K (.ref f_10) = true)
  (l_11 : K.lookup f_11 = some ⟨oc_11, od_11, .func (W.fnOf "in_turn" "Call.in_turn" (aR d9) (aQ d9) (ao d9) .none kV_11 dc_11 pm_11 an_11 cd_11 ct_11), sl_11⟩)
  (c_11 : W.codeIn K cd_11 "Call.in_turn" = true)
  (k_11 : W.keepIn K (.ref f_11) = true)
  (l_12 : K.lookup f_12 = some ⟨oc_12, od_12, .func (W.fnOf "free" "Call.free" (aR iT) (aQ iT) (ao iT) .none kV_12 dc_12 pm_12 an_12 cd_12 ct_12), sl_12⟩)
  (c_12 : W.codeIn K cd_12 "Call.free" = true)
  (k_12 : W.keepIn K (.ref f_12) = true)
  (l_13 : K.lookup f_13 = some ⟨oc_13, od_13, .func (W.fnOf "free" "HeardCall.free" (aR cM) (aQ cM) (ao cM) .none kV_13 dc_13 pm_13 an_13 cd_13 ct_13), sl_13⟩)
  (c_13 : W.codeIn K cd_13 "HeardCall.free" = true)
  (k_13 : W.keepIn K (.ref f_13) = true)
  (l_14 : K.lookup f_14 = some ⟨oc_14, od_14, .func (W.fnOf "first_open" "first_open" (aR gR) (aQ gR) (ao gR) .none kV_14 dc_14 pm_14 an_14 cd_14 ct_14), sl_14⟩)
  (c_14 : W.codeIn K cd_14 "first_open" = true)
  (k_14 : W.keepIn K (.ref f_14) = true)
  (l_15 : K.lookup f_15 = some ⟨oc_15, od_15, .func (W.fnOf "name_at" "name_at" (aR lH) (aQ lH) (ao lH) .none kV_15 dc_15 pm_15 an_15 cd_15 ct_15), sl_15⟩)
  (c_15 : W.codeIn K cd_15 "name_at" = true)
  (k_15 : W.keepIn K (.ref f_15) = true)
  (l_16 : K.lookup f_16 = some ⟨oc_16, od_16, .func (W.fnOf "name" "Call.name" (aR iW) (aQ iW) (ao iW) .none kV_16 dc_16 pm_16 an_16 cd_16 ct_16), sl_16⟩)
  (c_16 : W.codeIn K cd_16 "Call.name" = true)
  (k_16 : W.keepIn K (.ref f_16) = true)
  (l_17 : K.lookup f_17 = some ⟨oc_17, od_17, .func (W.fnOf "rank" "Call.rank" (aR iQ) (aQ iQ) (ao iQ) .none kV_17 dc_17 pm_17 an_17 cd_17 ct_17), sl_17⟩)
  (c_17 : W.codeIn K cd_17 "Call.rank" = true)
  (k_17 : W.keepIn K (.ref f_17) = true)
  (l_18 : K.lookup f_18 = some ⟨oc_18, od_18, .func (W.fnOf "asks_place" "Call.asks_place" (aR cF) (aQ cF) (ao cF) .none kV_18 dc_18 pm_18 an_18 cd_18 ct_18), sl_18⟩)
  (c_18 : W.codeIn K cd_18 "Call.asks_place" = true)
  (k_18 : W.keepIn K (.ref f_18) = true)
  (l_19 : K.lookup f_19 = some ⟨oc_19, od_19, .func (W.fnOf "asks_place" "OneCall.asks_place" (aR bV) (aQ bV) (ao bV) .none kV_19 dc_19 pm_19 an_19 cd_19 ct_19), sl_19⟩)
  (c_19 : W.codeIn K cd_19 "OneCall.asks_place" = true)
  (k_19 : W.keepIn K (.ref f_19) = true)
  (l_20 : K.lookup f_20 = some ⟨oc_20, od_20, .func (W.fnOf "rank_of" "rank_of" (aR lJ) (aQ lJ) (ao lJ) .none kV_20 dc_20 pm_20 an_20 cd_20 ct_20), sl_20⟩)
  (c_20 : W.codeIn K cd_20 "rank_of" = true)
  (k_20 : W.keepIn K (.ref f_20) = true)
  (l_21 : K.lookup f_21 = some ⟨oc_21, od_21, .func (W.fnOf "can_be_taken" "can_be_taken" (aR dY) (aQ dY) (ao dY) .none kV_21 dc_21 pm_21 an_21 cd_21 ct_21), sl_21⟩)
  (c_21 : W.codeIn K cd_21 "can_be_taken" = true)
  (k_21 : W.keepIn K (.ref f_21) = true)
  (l_22 : K.lookup f_22 = some ⟨oc_22, od_22, .func (W.fnOf "first_to_take" "first_to_take" (aR cY) (aQ cY) (ao cY) .none kV_22 dc_22 pm_22 an_22 cd_22 ct_22), sl_22⟩)
  (c_22 : W.codeIn K cd_22 "first_to_take" = true)
  (k_22 : W.keepIn K (.ref f_22) = true)
  (l_23 : K.lookup f_23 = some ⟨oc_23, od_23, .func (W.fnOf "callers_from" "callers_from" (aR dM) (aQ dM) (ao dM) .none kV_23 dc_23 pm_23 an_23 cd_23 ct_23), sl_23⟩)
  (c_23 : W.codeIn K cd_23 "callers_from" = true)
  (k_23 : W.keepIn K (.ref f_23) = true)
  (l_24 : K.lookup f_24 = some ⟨oc_24, od_24, .func (W.fnOf "run" "run" (aR yV) (aQ yV) (ao yV) .none kV_24 dc_24 pm_24 an_24 cd_24 ct_24), sl_24⟩)
  (c_24 : W.codeIn K cd_24 "run" = true)
  (k_24 : W.keepIn K (.ref f_24) = true)
  (l_25 : K.lookup f_25 = some ⟨oc_25, od_25, .func (W.fnOf "least_asking" "least_asking" (aR dJ) (aQ dJ) (ao dJ) .none kV_25 dc_25 pm_25 an_25 cd_25 ct_25), sl_25⟩)
  (c_25 : W.codeIn K cd_25 "least_asking" = true)
  (k_25 : W.keepIn K (.ref f_25) = true)
  (l_26 : K.lookup f_26 = some ⟨oc_26, od_26, .func (W.fnOf "placed" "placed" (aR nR) (aQ nR) (ao nR) .none kV_26 dc_26 pm_26 an_26 cd_26 ct_26), sl_26⟩)
  (c_26 : W.codeIn K cd_26 "placed" = true)
  (k_26 : W.keepIn K (.ref f_26) = true)
  (l_27 : K.lookup f_27 = some ⟨oc_27, od_27, .func (W.fnOf "kind" "OwnCall.kind" (aR dU) (aQ dU) (ao dU) .none kV_27 dc_27 pm_27 an_27 cd_27 ct_27), sl_27⟩)
  (c_27 : W.codeIn K cd_27 "OwnCall.kind" = true)
  (k_27 : W.keepIn K (.ref f_27) = true)
  (l_28 : K.lookup f_28 = some ⟨oc_28, od_28, .func (W.fnOf "kind" "HeardCall.kind" (aR cN) (aQ cN) (ao cN) .none kV_28 dc_28 pm_28 an_28 cd_28 ct_28), sl_28⟩)
  (c_28 : W.codeIn K cd_28 "HeardCall.kind" = true)
  (k_28 : W.keepIn K (.ref f_28) = true)
  (l_29 : K.lookup f_29 = some ⟨oc_29, od_29, .func (W.fnOf "kind" "OneCall.kind" (aR eE) (aQ eE) (ao eE) .none kV_29 dc_29 pm_29 an_29 cd_29 ct_29), sl_29⟩)
  (c_29 : W.codeIn K cd_29 "OneCall.kind" = true)
  (k_29 : W.keepIn K (.ref f_29) = true)
  (l_30 : K.lookup f_30 = some ⟨oc_30, od_30, .func (W.fnOf "told" "Call.told" (aR iY) (aQ iY) (ao iY) .none kV_30 dc_30 pm_30 an_30 cd_30 ct_30), sl_30⟩)
  (c_30 : W.codeIn K cd_30 "Call.told" = true)
  (k_30 : W.keepIn K (.ref f_30) = true)
  (l_31 : K.lookup f_31 = some ⟨oc_31, od_31, .func (W.fnOf "bit_of" "bit_of" (aR nj) (aQ nj) (ao nj) .none kV_31 dc_31 pm_31 an_31 cd_31 ct_31), sl_31⟩)
  (c_31 : W.codeIn K cd_31 "bit_of" = true)
  (k_31 : W.keepIn K (.ref f_31) = true)
  (l_32 : K.lookup f_32 = some ⟨oc_32, od_32, .func (W.fnOf "set_of" "set_of" (aR nJ) (aQ nJ) (ao nJ) .none kV_32 dc_32 pm_32 an_32 cd_32 ct_32), sl_32⟩)
  (c_32 : W.codeIn K cd_32 "set_of" = true)
  (k_32 : W.keepIn K (.ref f_32) = true)
  (l_33 : K.lookup f_33 = some ⟨oc_33, od_33, .func (W.fnOf "call_of" "call_of" (aR lL) (aQ lL) (ao lL) .none kV_33 dc_33 pm_33 an_33 cd_33 ct_33), sl_33⟩)
  (c_33 : W.codeIn K cd_33 "call_of" = true)
  (k_33 : W.keepIn K (.ref f_33) = true)
  (l_34 : K.lookup f_34 = some ⟨oc_34, od_34, .func (W.fnOf "base_of" "base_of" (aR lM) (aQ lM) (ao lM) .none kV_34 dc_34 pm_34 an_34 cd_34 ct_34), sl_34⟩)
  (c_34 : W.codeIn K cd_34 "base_of" = true)
  (k_34 : W.keepIn K (.ref f_34) = true)
  (l_35 : K.lookup f_35 = some ⟨oc_35, od_35, .func (W.fnOf "places_of" "places_of" (aR iU) (aQ iU) (ao iU) .none kV_35 dc_35 pm_35 an_35 cd_35 ct_35), sl_35⟩)
  (c_35 : W.codeIn K cd_35 "places_of" = true)
  (k_35 : W.keepIn K (.ref f_35) = true)
  (l_36 : K.lookup f_36 = some ⟨oc_36, od_36, .func (W.fnOf "calls_beyond" "calls_beyond" (aR dX) (aQ dX) (ao dX) .none kV_36 dc_36 pm_36 an_36 cd_36 ct_36), sl_36⟩)
  (c_36 : W.codeIn K cd_36 "calls_beyond" = true)
  (k_36 : W.keepIn K (.ref f_36) = true)
  (l_37 : K.lookup f_37 = some ⟨oc_37, od_37, .func (W.fnOf "first_plan" "first_plan" (aR gQ) (aQ gQ) (ao gQ) .none kV_37 dc_37 pm_37 an_37 cd_37 ct_37), sl_37⟩)
  (c_37 : W.codeIn K cd_37 "first_plan" = true)
  (k_37 : W.keepIn K (.ref f_37) = true)
  (l_38 : K.lookup f_38 = some ⟨oc_38, od_38, .func (W.fnOf "_law_cell_at" "_law_cell_at" (aR d8) (aQ d8) (ao d8) .none kV_38 dc_38 pm_38 an_38 cd_38 ct_38), sl_38⟩)
  (c_38 : W.codeIn K cd_38 "_law_cell_at" = true)
  (k_38 : W.keepIn K (.ref f_38) = true)
  (l_39 : K.lookup f_39 = some ⟨oc_39, od_39, .func (W.fnOf "_law_stream" "_law_stream" (aR fH) (aQ fH) (ao fH) .none kV_39 dc_39 pm_39 an_39 cd_39 ct_39), sl_39⟩)
  (c_39 : W.codeIn K cd_39 "_law_stream" = true)
  (k_39 : W.keepIn K (.ref f_39) = true)
  (l_40 : K.lookup f_40 = some ⟨oc_40, od_40, .func (W.fnOf "_law_hands" "_law_hands" (aR gO) (aQ gO) (ao gO) .none kV_40 dc_40 pm_40 an_40 cd_40 ct_40), sl_40⟩)
  (c_40 : W.codeIn K cd_40 "_law_hands" = true)
  (k_40 : W.keepIn K (.ref f_40) = true)
  (l_41 : K.lookup f_41 = some ⟨oc_41, od_41, .func (W.fnOf "_law_set" "_law_set" (aR jR) (aQ jR) (ao jR) .none kV_41 dc_41 pm_41 an_41 cd_41 ct_41), sl_41⟩)
  (c_41 : W.codeIn K cd_41 "_law_set" = true)
  (k_41 : W.keepIn K (.ref f_41) = true)
  (l_42 : K.lookup f_42 = some ⟨oc_42, od_42, .func (W.fnOf "_law_rank" "_law_rank" (aR iR) (aQ iR) (ao iR) .none kV_42 dc_42 pm_42 an_42 cd_42 ct_42), sl_42⟩)
  (c_42 : W.codeIn K cd_42 "_law_rank" = true)
  (k_42 : W.keepIn K (.ref f_42) = true)
  (l_43 : K.lookup f_43 = some ⟨oc_43, od_43, .func (W.fnOf "_law_whole" "_law_whole" (aR gU) (aQ gU) (ao gU) .none kV_43 dc_43 pm_43 an_43 cd_43 ct_43), sl_43⟩)
  (c_43 : W.codeIn K cd_43 "_law_whole" = true)
  (k_43 : W.keepIn K (.ref f_43) = true)
  (l_44 : K.lookup f_44 = some ⟨oc_44, od_44, .func (W.fnOf "_law_calls" "_law_calls" (aR gP) (aQ gP) (ao gP) .none kV_44 dc_44 pm_44 an_44 cd_44 ct_44), sl_44⟩)
  (c_44 : W.codeIn K cd_44 "_law_calls" = true)
  (k_44 : W.keepIn K (.ref f_44) = true)
  (l_45 : K.lookup f_45 = some ⟨oc_45, od_45, .func (W.fnOf "_law_report" "_law_report" (aR fj) (aQ fj) (ao fj) .none kV_45 dc_45 pm_45 an_45 cd_45 ct_45), sl_45⟩)
  (c_45 : W.codeIn K cd_45 "_law_report" = true)
  (k_45 : W.keepIn K (.ref f_45) = true)
  (l_46 : K.lookup f_46 = some ⟨oc_46, od_46, .func (W.fnOf "_law_case" "_law_case" (aR iV) (aQ iV) (ao iV) .none kV_46 dc_46 pm_46 an_46 cd_46 ct_46), sl_46⟩)
  (c_46 : W.codeIn K cd_46 "_law_case" = true)
  (k_46 : W.keepIn K (.ref f_46) = true)
  (l_47 : K.lookup f_47 = some ⟨oc_47, od_47, .func (W.fnOf "_law_row" "_law_row" (aR jE) (aQ jE) (ao jE) .none kV_47 dc_47 pm_47 an_47 cd_47 ct_47), sl_47⟩)
  (c_47 : W.codeIn K cd_47 "_law_row" = true)
  (k_47 : W.keepIn K (.ref f_47) = true)
  (l_48 : K.lookup f_48 = some ⟨oc_48, od_48, .func (W.fnOf "law" "law" (aR tH) (aQ tH) (ao tH) .none kV_48 dc_48 pm_48 an_48 cd_48 ct_48), sl_48⟩)
  (c_48 : W.codeIn K cd_48 "law" = true)
  (k_48 : W.keepIn K (.ref f_48) = true)
  (i_6 : W.isFn K (.ref f_6) = true)
  (i_18 : W.isFn K (.ref f_18) = true)
  (i_12 : W.isFn K (.ref f_12) = true)
  (i_11 : W.isFn K (.ref f_11) = true)
  (i_16 : W.isFn K (.ref f_16) = true)
  (i_17 : W.isFn K (.ref f_17) = true)
  (i_30 : W.isFn K (.ref f_30) = true)
  (i_13 : W.isFn K (.ref f_13) = true)
  (i_28 : W.isFn K (.ref f_28) = true)
  (i_19 : W.isFn K (.ref f_19) = true)
  (i_29 : W.isFn K (.ref f_29) = true)
  (i_7 : W.isFn K (.ref f_7) = true)
  (i_27 : W.isFn K (.ref f_27) = true)
  (Bv : W.plainGet K eU Str.empty = true)
  (Bp : W.hasDictIn K eU = true)
  (Bj : W.plainOver K eU = true)
  (Ar : W.findIn K (.ref eU) "__setattr__" = some (some (.builtin "object.__setattr__")))
  (mR : W.findIn K (.ref eU) "number" = some none)
  (mQ : W.findIn K (.ref eU) "caller" = some none)
  (oX : W.findIn K (.ref eU) "count" = some none)
  (qK : W.findIn K (.ref eU) "word" = some none)
  (mV : W.findIn K (.ref eU) "causes" = some none)
  (oZ : W.plainGet K aj Str.empty = true)
  (oY : W.hasDictIn K aj = true)
  (oN : W.plainOver K aj = true)
  (n6 : W.findIn K (.ref aj) "__setattr__" = some (some (.builtin "object.__setattr__")))
  (iJ : W.findIn K (.ref aj) "number" = some none)
  (iK : W.findIn K (.ref aj) "caller" = some none)
  (jq : W.findIn K (.ref aj) "count" = some none)
  (jG : W.findIn K (.ref aj) "word" = some none)
  (iI : W.findIn K (.ref aj) "causes" = some none)
  (rY : W.plainGet K au Str.empty = true)
  (rZ : W.hasDictIn K au = true)
  (rP : W.plainOver K au = true)
  (sU : W.findIn K (.ref au) "__setattr__" = some (some (.builtin "object.__setattr__")))
  (jK : W.findIn K (.ref au) "number" = some none)
  (jQ : W.findIn K (.ref au) "caller" = some none)
  (kE : W.findIn K (.ref au) "count" = some none)
  (lV : W.findIn K (.ref au) "word" = some none)
  (jF : W.findIn K (.ref au) "causes" = some none)
  (rQ : W.plainGet K az Str.empty = true)
  (sH : W.hasDictIn K az = true)
  (tG : W.plainOver K az = true)
  (sV : W.findIn K (.ref az) "__setattr__" = some (some (.builtin "object.__setattr__")))
  (jH : W.findIn K (.ref az) "number" = some none)
  (jL : W.findIn K (.ref az) "caller" = some none)
  (kh : W.findIn K (.ref az) "count" = some none)
  (mC : W.findIn K (.ref az) "word" = some none)
  (jT : W.findIn K (.ref az) "causes" = some none)
  (o5 : W.makesIn K aj = true)
  (o6 : W.keepIn K (.ref aj) = true)
  (sO : W.makesIn K au = true)
  (sY : W.keepIn K (.ref au) = true)
  (sS : W.makesIn K az = true)
  (sy : W.keepIn K (.ref az) = true)
  (zX : W.specialIn K (.ref eU) "__getattribute__" = some (some (.builtin "type.__getattribute__")))
  (Ak : W.readsIn K eU (.type "type") = true)
  (xZ : K.lookup aK = some ⟨.type "tuple", none, .seq #[.str "own" t1K, .str "heard" t2K, .str "one" t3K] nK, #[]⟩)
  : ∃ fd : FuncData, (∀ (s : Shared) (v : Value), BindsTo s fd ⟨[v], []⟩ [("_law_script", v)]) /\ ∀ base : Heap, K.In base -> base.Ns mainGlobals mg -> FnOk l.prog w K mg base CX0 9 fa fd ["_law_script"] (Bq K) := by
 have e := hfa.symm.trans (W.mg_of X G a_48)
 cases e
 have F_0 := bh (st := jP) l_0 c_0 k_0
 have CA_0 : Cal K mg "count_of" f_0 _ ["counts", "hand"] := ⟨W.mg_of X G a_0, k_0, F_0.binds (ps := ["counts", "hand"]) fun _ _ _ _ _ _ us hl => match us, hl with | [_, _], _ => rfl⟩
 have F_1 := bh (st := fu) l_1 c_1 k_1
 have CA_1 : Cal K mg "hands_among" f_1 _ ["some"] := ⟨W.mg_of X G a_1, k_1, F_1.binds (ps := ["some"]) fun _ _ _ _ _ _ us hl => match us, hl with | [_], _ => rfl⟩
 have F_2 := bh (st := nD) l_2 c_2 k_2
 have CA_2 : Cal K mg "covers" f_2 _ ["one", "other"] := ⟨W.mg_of X G a_2, k_2, F_2.binds (ps := ["one", "other"]) fun _ _ _ _ _ _ us hl => match us, hl with | [_, _], _ => rfl⟩
 have F_3 := bh (st := jO) l_3 c_3 k_3
 have CA_3 : Cal K mg "unpacked" f_3 _ ["pairs"] := ⟨W.mg_of X G a_3, k_3, F_3.binds (ps := ["pairs"]) fun _ _ _ _ _ _ us hl => match us, hl with | [_], _ => rfl⟩
 have F_4 := bh (st := nA) l_4 c_4 k_4
 have CA_4 : Cal K mg "joined" f_4 _ ["one", "other"] := ⟨W.mg_of X G a_4, k_4, F_4.binds (ps := ["one", "other"]) fun _ _ _ _ _ _ us hl => match us, hl with | [_, _], _ => rfl⟩
 have F_5 := bh (st := fB) l_5 c_5 k_5
 have CA_5 : Cal K mg "covers_name" f_5 _ ["counts", "name"] := ⟨W.mg_of X G a_5, k_5, F_5.binds (ps := ["counts", "name"]) fun _ _ _ _ _ _ us hl => match us, hl with | [_, _], _ => rfl⟩
 have F_6 := bh (st := dg) l_6 c_6 k_6
 have B_6 : Binds K _ ["self", "number", "caller", "count", "word", "causes"] [] := F_6.binds (ps := ["self", "number", "caller", "count", "word", "causes"]) fun _ _ _ _ _ _ us hl => match us, hl with | [_, _, _, _, _, _], _ => rfl
 have F_7 := bh (st := cg) l_7 c_7 k_7
 have B_7 : Binds K _ ["self", "number", "caller", "count", "word", "causes"] [] := F_7.binds (ps := ["self", "number", "caller", "count", "word", "causes"]) fun _ _ _ _ _ _ us hl => match us, hl with | [_, _, _, _, _, _], _ => rfl
 have F_8 := bh (st := jJ) l_8 c_8 k_8
 have CA_8 : Cal K mg "is_whole" f_8 _ ["value"] := ⟨W.mg_of X G a_8, k_8, F_8.binds (ps := ["value"]) fun _ _ _ _ _ _ us hl => match us, hl with | [_], _ => rfl⟩
 have F_9 := bh (st := lG) l_9 c_9 k_9
 have CA_9 : Cal K mg "is_word" f_9 _ ["word"] := ⟨W.mg_of X G a_9, k_9, F_9.binds (ps := ["word"]) fun _ _ _ _ _ _ us hl => match us, hl with | [_], _ => rfl⟩
 have F_10 := bh (st := jb) l_10 c_10 k_10
 have CA_10 : Cal K mg "make_call" f_10 _ ["number", "caller", "count", "kind", "word", "causes"] := ⟨W.mg_of X G a_10, k_10, F_10.binds (ps := ["number", "caller", "count", "kind", "word", "causes"]) fun _ _ _ _ _ _ us hl => match us, hl with | [_, _, _, _, _, _], _ => rfl⟩
 have F_11 := bh (st := d9) l_11 c_11 k_11
 have B_11 : Binds K _ ["self", "counts"] [] := F_11.binds (ps := ["self", "counts"]) fun _ _ _ _ _ _ us hl => match us, hl with | [_, _], _ => rfl
 have F_12 := bh (st := iT) l_12 c_12 k_12
 have B_12 : Binds K _ ["self", "counts"] [] := F_12.binds (ps := ["self", "counts"]) fun _ _ _ _ _ _ us hl => match us, hl with | [_, _], _ => rfl
 have F_13 := bh (st := cM) l_13 c_13 k_13
 have B_13 : Binds K _ ["self", "counts"] [] := F_13.binds (ps := ["self", "counts"]) fun _ _ _ _ _ _ us hl => match us, hl with | [_, _], _ => rfl
 have F_14 := bh (st := gR) l_14 c_14 k_14
 have CA_14 : Cal K mg "first_open" f_14 _ ["places", "counts", "start"] := ⟨W.mg_of X G a_14, k_14, F_14.binds (ps := ["places", "counts", "start"]) fun _ _ _ _ _ _ us hl => match us, hl with | [_, _, _], _ => rfl⟩
 have F_15 := bh (st := lH) l_15 c_15 k_15
 have CA_15 : Cal K mg "name_at" f_15 _ ["places", "at"] := ⟨W.mg_of X G a_15, k_15, F_15.binds (ps := ["places", "at"]) fun _ _ _ _ _ _ us hl => match us, hl with | [_, _], _ => rfl⟩
 have F_16 := bh (st := iW) l_16 c_16 k_16
 have B_16 : Binds K _ ["self"] [] := F_16.binds (ps := ["self"]) fun _ _ _ _ _ _ us hl => match us, hl with | [_], _ => rfl
 have F_17 := bh (st := iQ) l_17 c_17 k_17
 have B_17 : Binds K _ ["self"] [] := F_17.binds (ps := ["self"]) fun _ _ _ _ _ _ us hl => match us, hl with | [_], _ => rfl
 have F_18 := bh (st := cF) l_18 c_18 k_18
 have B_18 : Binds K _ ["self"] [] := F_18.binds (ps := ["self"]) fun _ _ _ _ _ _ us hl => match us, hl with | [_], _ => rfl
 have F_19 := bh (st := bV) l_19 c_19 k_19
 have B_19 : Binds K _ ["self"] [] := F_19.binds (ps := ["self"]) fun _ _ _ _ _ _ us hl => match us, hl with | [_], _ => rfl
 have F_20 := bh (st := lJ) l_20 c_20 k_20
 have CA_20 : Cal K mg "rank_of" f_20 _ ["call"] := ⟨W.mg_of X G a_20, k_20, F_20.binds (ps := ["call"]) fun _ _ _ _ _ _ us hl => match us, hl with | [_], _ => rfl⟩
 have F_21 := bh (st := dY) l_21 c_21 k_21
 have CA_21 : Cal K mg "can_be_taken" f_21 _ ["call", "counts", "name"] := ⟨W.mg_of X G a_21, k_21, F_21.binds (ps := ["call", "counts", "name"]) fun _ _ _ _ _ _ us hl => match us, hl with | [_, _, _], _ => rfl⟩
 have F_22 := bh (st := cY) l_22 c_22 k_22
 have CA_22 : Cal K mg "first_to_take" f_22 _ ["callers", "ranked", "counts", "name"] := ⟨W.mg_of X G a_22, k_22, F_22.binds (ps := ["callers", "ranked", "counts", "name"]) fun _ _ _ _ _ _ us hl => match us, hl with | [_, _, _, _], _ => rfl⟩
 have F_23 := bh (st := dM) l_23 c_23 k_23
 have CA_23 : Cal K mg "callers_from" f_23 _ ["callers", "last"] := ⟨W.mg_of X G a_23, k_23, F_23.binds (ps := ["callers", "last"]) fun _ _ _ _ _ _ us hl => match us, hl with | [_, _], _ => rfl⟩
 have F_24 := bh (st := yV) l_24 c_24 k_24
 have CA_24 : Cal K mg "run" f_24 _ ["counts", "calls", "places"] := ⟨W.mg_of X G a_24, k_24, F_24.binds (ps := ["counts", "calls", "places"]) fun _ _ _ _ _ _ us hl => match us, hl with | [_, _, _], _ => rfl⟩
 have F_25 := bh (st := dJ) l_25 c_25 k_25
 have CA_25 : Cal K mg "least_asking" f_25 _ ["calls", "counts"] := ⟨W.mg_of X G a_25, k_25, F_25.binds (ps := ["calls", "counts"]) fun _ _ _ _ _ _ us hl => match us, hl with | [_, _], _ => rfl⟩
 have F_26 := bh (st := nR) l_26 c_26 k_26
 have CA_26 : Cal K mg "placed" f_26 _ ["counts", "calls", "places"] := ⟨W.mg_of X G a_26, k_26, F_26.binds (ps := ["counts", "calls", "places"]) fun _ _ _ _ _ _ us hl => match us, hl with | [_, _, _], _ => rfl⟩
 have F_27 := bh (st := dU) l_27 c_27 k_27
 have B_27 : Binds K _ ["self"] [] := F_27.binds (ps := ["self"]) fun _ _ _ _ _ _ us hl => match us, hl with | [_], _ => rfl
 have F_28 := bh (st := cN) l_28 c_28 k_28
 have B_28 : Binds K _ ["self"] [] := F_28.binds (ps := ["self"]) fun _ _ _ _ _ _ us hl => match us, hl with | [_], _ => rfl
 have F_29 := bh (st := eE) l_29 c_29 k_29
 have B_29 : Binds K _ ["self"] [] := F_29.binds (ps := ["self"]) fun _ _ _ _ _ _ us hl => match us, hl with | [_], _ => rfl
 have F_30 := bh (st := iY) l_30 c_30 k_30
 have B_30 : Binds K _ ["self"] [] := F_30.binds (ps := ["self"]) fun _ _ _ _ _ _ us hl => match us, hl with | [_], _ => rfl
 have F_31 := bh (st := nj) l_31 c_31 k_31
 have CA_31 : Cal K mg "bit_of" f_31 _ ["hand"] := ⟨W.mg_of X G a_31, k_31, F_31.binds (ps := ["hand"]) fun _ _ _ _ _ _ us hl => match us, hl with | [_], _ => rfl⟩
 have F_32 := bh (st := nJ) l_32 c_32 k_32
 have CA_32 : Cal K mg "set_of" f_32 _ ["some"] := ⟨W.mg_of X G a_32, k_32, F_32.binds (ps := ["some"]) fun _ _ _ _ _ _ us hl => match us, hl with | [_], _ => rfl⟩
 have F_33 := bh (st := lL) l_33 c_33 k_33
 have CA_33 : Cal K mg "call_of" f_33 _ ["told"] := ⟨W.mg_of X G a_33, k_33, F_33.binds (ps := ["told"]) fun _ _ _ _ _ _ us hl => match us, hl with | [_], _ => rfl⟩
 have F_34 := bh (st := lM) l_34 c_34 k_34
 have CA_34 : Cal K mg "base_of" f_34 _ ["reports"] := ⟨W.mg_of X G a_34, k_34, F_34.binds (ps := ["reports"]) fun _ _ _ _ _ _ us hl => match us, hl with | [_], _ => rfl⟩
 have F_35 := bh (st := iU) l_35 c_35 k_35
 have CA_35 : Cal K mg "places_of" f_35 _ ["reports"] := ⟨W.mg_of X G a_35, k_35, F_35.binds (ps := ["reports"]) fun _ _ _ _ _ _ us hl => match us, hl with | [_], _ => rfl⟩
 have F_36 := bh (st := dX) l_36 c_36 k_36
 have CA_36 : Cal K mg "calls_beyond" f_36 _ ["base", "reports"] := ⟨W.mg_of X G a_36, k_36, F_36.binds (ps := ["base", "reports"]) fun _ _ _ _ _ _ us hl => match us, hl with | [_, _], _ => rfl⟩
 have F_37 := bh (st := gQ) l_37 c_37 k_37
 have CA_37 : Cal K mg "first_plan" f_37 _ ["me", "hands", "reports", "wishes"] := ⟨W.mg_of X G a_37, k_37, F_37.binds (ps := ["me", "hands", "reports", "wishes"]) fun _ _ _ _ _ _ us hl => match us, hl with | [_, _, _, _], _ => rfl⟩
 have F_38 := bh (st := d8) l_38 c_38 k_38
 have CA_38 : Cal K mg "_law_cell_at" f_38 _ ["_law_script", "_law_k"] := ⟨W.mg_of X G a_38, k_38, F_38.binds (ps := ["_law_script", "_law_k"]) fun _ _ _ _ _ _ us hl => match us, hl with | [_, _], _ => rfl⟩
 have F_39 := bh (st := fH) l_39 c_39 k_39
 have CA_39 : Cal K mg "_law_stream" f_39 _ ["_law_cell", "_law_amount"] := ⟨W.mg_of X G a_39, k_39, F_39.binds (ps := ["_law_cell", "_law_amount"]) fun _ _ _ _ _ _ us hl => match us, hl with | [_, _], _ => rfl⟩
 have F_40 := bh (st := gO) l_40 c_40 k_40
 have CA_40 : Cal K mg "_law_hands" f_40 _ ["_law_cell"] := ⟨W.mg_of X G a_40, k_40, F_40.binds (ps := ["_law_cell"]) fun _ _ _ _ _ _ us hl => match us, hl with | [_], _ => rfl⟩
 have F_41 := bh (st := jR) l_41 c_41 k_41
 have CA_41 : Cal K mg "_law_set" f_41 _ ["_law_hands_here"] := ⟨W.mg_of X G a_41, k_41, F_41.binds (ps := ["_law_hands_here"]) fun _ _ _ _ _ _ us hl => match us, hl with | [_], _ => rfl⟩
 have F_42 := bh (st := iR) l_42 c_42 k_42
 have CA_42 : Cal K mg "_law_rank" f_42 _ ["_law_call"] := ⟨W.mg_of X G a_42, k_42, F_42.binds (ps := ["_law_call"]) fun _ _ _ _ _ _ us hl => match us, hl with | [_], _ => rfl⟩
 have F_43 := bh (st := gU) l_43 c_43 k_43
 have CA_43 : Cal K mg "_law_whole" f_43 _ ["_law_found"] := ⟨W.mg_of X G a_43, k_43, F_43.binds (ps := ["_law_found"]) fun _ _ _ _ _ _ us hl => match us, hl with | [_], _ => rfl⟩
 have F_44 := bh (st := gP) l_44 c_44 k_44
 have CA_44 : Cal K mg "_law_calls" f_44 _ ["_law_cells", "_law_hands_here", "_law_number"] := ⟨W.mg_of X G a_44, k_44, F_44.binds (ps := ["_law_cells", "_law_hands_here", "_law_number"]) fun _ _ _ _ _ _ us hl => match us, hl with | [_, _, _], _ => rfl⟩
 have F_45 := bh (st := fj) l_45 c_45 k_45
 have CA_45 : Cal K mg "_law_report" f_45 _ ["_law_hand", "_law_calls_here", "_law_places", "_law_cell"] := ⟨W.mg_of X G a_45, k_45, F_45.binds (ps := ["_law_hand", "_law_calls_here", "_law_places", "_law_cell"]) fun _ _ _ _ _ _ us hl => match us, hl with | [_, _, _, _], _ => rfl⟩
 have F_46 := bh (st := iV) l_46 c_46 k_46
 have CA_46 : Cal K mg "_law_case" f_46 _ ["_law_script"] := ⟨W.mg_of X G a_46, k_46, F_46.binds (ps := ["_law_script"]) fun _ _ _ _ _ _ us hl => match us, hl with | [_], _ => rfl⟩
 have F_47 := bh (st := jE) l_47 c_47 k_47
 have CA_47 : Cal K mg "_law_row" f_47 _ ["_law_reports"] := ⟨W.mg_of X G a_47, k_47, F_47.binds (ps := ["_law_reports"]) fun _ _ _ _ _ _ us hl => match us, hl with | [_], _ => rfl⟩
 have F_48 := bh (st := tH) l_48 c_48 k_48
 have Em := W.mg_of X G Fb
 have Mt : TCall K eU := ⟨⟨Bv, Bp, Bj, Ar⟩, mR, mQ, oX, qK, mV⟩
 have aG := W.mg_of X G pX
 have aF : TCall K aj := ⟨⟨oZ, oY, oN, n6⟩, iJ, iK, jq, jG, iI⟩
 have aP := W.mg_of X G uN
 have aN : TCall K au := ⟨⟨rY, rZ, rP, sU⟩, jK, jQ, kE, lV, jF⟩
 have aU := W.mg_of X G uR
 have aM : TCall K az := ⟨⟨rQ, sH, tG, sV⟩, jH, jL, kh, mC, jT⟩
 have bK : Meth K aj "asks_place" f_18 := ⟨at_HeardCall_asks_place, i_18, k_18⟩
 have cG : Meth K aj "free" f_13 := ⟨at_HeardCall_free, i_13, k_13⟩
 have fO : Meth K aj "in_turn" f_11 := ⟨at_HeardCall_in_turn, i_11, k_11⟩
 have jy : Meth K aj "kind" f_28 := ⟨at_HeardCall_kind, i_28, k_28⟩
 have bj : Meth K aj "name" f_16 := ⟨at_HeardCall_name, i_16, k_16⟩
 have jo : Meth K aj "rank" f_17 := ⟨at_HeardCall_rank, i_17, k_17⟩
 have cD : Meth K aj "told" f_30 := ⟨at_HeardCall_told, i_30, k_30⟩
 have bT : Meth K au "asks_place" f_19 := ⟨at_OneCall_asks_place, i_19, k_19⟩
 have cX : Meth K au "free" f_13 := ⟨at_OneCall_free, i_13, k_13⟩
 have iM : Meth K au "in_turn" f_11 := ⟨at_OneCall_in_turn, i_11, k_11⟩
 have kW : Meth K au "kind" f_29 := ⟨at_OneCall_kind, i_29, k_29⟩
 have bD : Meth K au "name" f_16 := ⟨at_OneCall_name, i_16, k_16⟩
 have kJ : Meth K au "rank" f_17 := ⟨at_OneCall_rank, i_17, k_17⟩
 have cZ : Meth K au "told" f_30 := ⟨at_OneCall_told, i_30, k_30⟩
 have bQ : Meth K az "asks_place" f_18 := ⟨at_OwnCall_asks_place, i_18, k_18⟩
 have dh : Meth K az "free" f_12 := ⟨at_OwnCall_free, i_12, k_12⟩
 have iH : Meth K az "in_turn" f_11 := ⟨at_OwnCall_in_turn, i_11, k_11⟩
 have j5 : Meth K az "kind" f_27 := ⟨at_OwnCall_kind, i_27, k_27⟩
 have bG : Meth K az "name" f_16 := ⟨at_OwnCall_name, i_16, k_16⟩
 have kI : Meth K az "rank" f_17 := ⟨at_OwnCall_rank, i_17, k_17⟩
 have cW : Meth K az "told" f_30 := ⟨at_OwnCall_told, i_30, k_30⟩
 have M_HeardCall : Mk K aj f_6 := ⟨o5, at_HeardCall___init__, i_6, o6⟩
 have M_OneCall : Mk K au f_6 := ⟨sO, at_OneCall___init__, i_6, sY⟩
 have M_OwnCall : Mk K az f_7 := ⟨sS, at_OwnCall___init__, i_7, sy⟩
 have jN : ClsFn K eU "__init__" f_6 := ⟨zX, Ak, fc_Call___init__, rfl, k_6⟩
 have gm_KINDS := W.mg_of X G uG
 have gr_KINDS : RelV (.ref aK) (.ref aK) := rfl
 have gv_KINDS : Dm K (.ref aK) := ⟨aK, rfl, fun H => .inr ⟨_, _, _, xZ, rfl, rfl, (by show 3 <= sizeLine; decide), .cons ⟨_, rfl⟩ (.cons ⟨_, rfl⟩ (.cons ⟨_, rfl⟩ .nil))⟩⟩
 have Z_abs : mg "abs" = none := W.mg_none_of X G Lb
 have Z_all : mg "all" = none := W.mg_none_of X G KC
 have Z_bool : mg "bool" = none := W.mg_none_of X G Fz
 have Z_dict : mg "dict" = none := W.mg_none_of X G Fp
 have Z_int : mg "int" = none := W.mg_none_of X G J8
 have Z_isinstance : mg "isinstance" = none := W.mg_none_of X G oK
 have Z_len : mg "len" = none := W.mg_none_of X G Ml
 have Z_list : mg "list" = none := W.mg_none_of X G GZ
 have Z_max : mg "max" = none := W.mg_none_of X G K8
 have Z_min : mg "min" = none := W.mg_none_of X G Nf
 have Z_range : mg "range" = none := W.mg_none_of X G By
 have Z_reversed : mg "reversed" = none := W.mg_none_of X G tu
 have Z_set : mg "set" = none := W.mg_none_of X G M7
 have Z_sorted : mg "sorted" = none := W.mg_none_of X G wZ
 have Z_sum : mg "sum" = none := W.mg_none_of X G Ms
 have Z_tuple : mg "tuple" = none := W.mg_none_of X G Bl
 refine ⟨W.fnOf "law" "law" (aR tH) (aQ tH) (ao tH) .none kV_48 dc_48 pm_48 an_48 cd_48 ct_48, fun s v => .of_eq rfl, fun base _ _ => ?_⟩
 have G_0 : FnOk l.prog w K mg base CX0 1 f_0 _ ["counts", "hand"] (gK K) := DQ F_0
 have G_1 : FnOk l.prog w K mg base CX0 1 f_1 _ ["some"] (ji K) := wQ F_1 Z_list Z_set Z_sorted
 have G_2 : FnOk l.prog w K mg base CX0 2 f_2 _ ["one", "other"] (q8 K) := Jo F_2 (G_0.mono (by decide)) CA_0 (G_1.mono (by decide)) CA_1 Z_all
 have G_3 : FnOk l.prog w K mg base CX0 1 f_3 _ ["pairs"] (jW K) := Eb F_3 Z_dict
 have G_4 : FnOk l.prog w K mg base CX0 2 f_4 _ ["one", "other"] (qX K) := JV F_4 (G_0.mono (by decide)) CA_0 (G_1.mono (by decide)) CA_1 (G_3.mono (by decide)) CA_3 Z_max
 have G_5 : FnOk l.prog w K mg base CX0 2 f_5 _ ["counts", "name"] (jw K) := yh F_5 (G_0.mono (by decide)) CA_0
 have G_6 : FnOk l.prog w K mg base CX0 1 f_6 _ ["self", "number", "caller", "count", "word", "causes"] (gW K) := uH F_6
 have G_7 : FnOk l.prog w K mg base CX0 2 f_7 _ ["self", "number", "caller", "count", "word", "causes"] (gY K) := rA F_7 (G_6.mono (by decide)) B_6 Mt Em jN
 have G_8 : FnOk l.prog w K mg base CX0 1 f_8 _ ["value"] (pQ K) := CW F_8 Z_bool Z_int Z_isinstance
 have G_9 : FnOk l.prog w K mg base CX0 2 f_9 _ ["word"] (rH K) := Gk F_9 (G_8.mono (by decide)) CA_8 Z_abs
 have G_10 : FnOk l.prog w K mg base CX0 4 f_10 _ ["number", "caller", "count", "kind", "word", "causes"] (oM K mg) := Ae F_10 (G_6.mono (by decide)) B_6 (G_7.mono (by decide)) B_7 (G_9.mono (by decide)) CA_9 aF aN aM aG aP aU M_HeardCall M_OneCall M_OwnCall gm_KINDS gr_KINDS gv_KINDS
 have G_11 : FnOk l.prog w K mg base CX0 2 f_11 _ ["self", "counts"] (eX K) := vN F_11 (G_0.mono (by decide)) CA_0
 have G_12 : FnOk l.prog w K mg base CX0 3 f_12 _ ["self", "counts"] (lu K mg) := z9 F_12 (G_11.mono (by decide)) B_11 aM aU iH
 have G_13 : FnOk l.prog w K mg base CX0 3 f_13 _ ["self", "counts"] (fL K mg) := tO F_13 (G_2.mono (by decide)) CA_2 (G_3.mono (by decide)) CA_3 (G_11.mono (by decide)) B_11 aF aN aG aP fO iM
 have G_14 : FnOk l.prog w K mg base CX0 3 f_14 _ ["places", "counts", "start"] (jU K) := yN F_14 (G_5.mono (by decide)) CA_5 Z_len
 have G_15 : FnOk l.prog w K mg base CX0 1 f_15 _ ["places", "at"] (oV K) := Fv F_15 Z_len
 have G_16 : FnOk l.prog w K mg base CX0 1 f_16 _ ["self"] (ju K) := Aj F_16
 have G_17 : FnOk l.prog w K mg base CX0 1 f_17 _ ["self"] (oU K) := zR F_17
 have G_18 : FnOk l.prog w K mg base CX0 1 f_18 _ ["self"] (eQ K) := rK F_18
 have G_19 : FnOk l.prog w K mg base CX0 1 f_19 _ ["self"] (cU K) := pP F_19
 have G_20 : FnOk l.prog w K mg base CX0 2 f_20 _ ["call"] (oF K mg) := GR F_20 (G_17.mono (by decide)) B_17 aF aN aM aG aP aU jo kJ kI
 have G_21 : FnOk l.prog w K mg base CX0 4 f_21 _ ["call", "counts", "name"] (kO K mg) := vK F_21 (G_12.mono (by decide)) B_12 (G_13.mono (by decide)) B_13 (G_16.mono (by decide)) B_16 (G_18.mono (by decide)) B_18 (G_19.mono (by decide)) B_19 aF aN aM aG aP aU bK cG bj bT cX bD bQ dh bG
 have G_22 : FnOk l.prog w K mg base CX0 5 f_22 _ ["callers", "ranked", "counts", "name"] (jM K mg) := uQ F_22 (G_0.mono (by decide)) CA_0 (G_21.mono (by decide)) CA_21 aF aN aM aG aP aU
 have G_23 : FnOk l.prog w K mg base CX0 1 f_23 _ ["callers", "last"] (kj K) := wg F_23
 have G_24 : FnOk l.prog w K mg base CX0 6 f_24 _ ["counts", "calls", "places"] (Fy K mg) := T5 F_24 (G_4.mono (by decide)) CA_4 (G_14.mono (by decide)) CA_14 (G_15.mono (by decide)) CA_15 (G_20.mono (by decide)) CA_20 (G_22.mono (by decide)) CA_22 (G_23.mono (by decide)) CA_23 Z_dict Z_set Z_sorted aF aN aM aG aP aU
 have G_25 : FnOk l.prog w K mg base CX0 4 f_25 _ ["calls", "counts"] (j6 K mg) := vV F_25 (G_12.mono (by decide)) B_12 (G_13.mono (by decide)) B_13 (G_18.mono (by decide)) B_18 (G_19.mono (by decide)) B_19 (G_20.mono (by decide)) CA_20 Z_min aF aN aM aG aP aU bK cG bT cX bQ dh
 have G_26 : FnOk l.prog w K mg base CX0 7 f_26 _ ["counts", "calls", "places"] (qU K mg) := Jk F_26 (G_14.mono (by decide)) CA_14 (G_16.mono (by decide)) B_16 (G_24.mono (by decide)) CA_24 (G_25.mono (by decide)) CA_25 Z_list aF aN aM aG aP aU bj bD bG
 have G_27 : FnOk l.prog w K mg base CX0 1 f_27 _ ["self"] (km K) := vQ F_27
 have G_28 : FnOk l.prog w K mg base CX0 1 f_28 _ ["self"] (jx K) := tL F_28
 have G_29 : FnOk l.prog w K mg base CX0 1 f_29 _ ["self"] (j9 K) := vI F_29
 have G_30 : FnOk l.prog w K mg base CX0 2 f_30 _ ["self"] (lE K mg) := Ai F_30 (G_27.mono (by decide)) B_27 (G_28.mono (by decide)) B_28 (G_29.mono (by decide)) B_29 aF aN aM aG aP aU jy kW j5
 have G_31 : FnOk l.prog w K mg base CX0 1 f_31 _ ["hand"] (qZ K) := Js F_31
 have G_32 : FnOk l.prog w K mg base CX0 2 f_32 _ ["some"] (uL K) := Ja F_32 (G_31.mono (by decide)) CA_31
 have G_33 : FnOk l.prog w K mg base CX0 5 f_33 _ ["told"] (oO K mg) := Ha F_33 (G_10.mono (by decide)) CA_10 aF aN aM aG aP aU
 have G_34 : FnOk l.prog w K mg base CX0 3 f_34 _ ["reports"] (oH K) := G6 F_34 (G_3.mono (by decide)) CA_3 (G_4.mono (by decide)) CA_4
 have G_35 : FnOk l.prog w K mg base CX0 1 f_35 _ ["reports"] (lg K) := Bf F_35 Z_len Z_max Z_tuple
 have G_36 : FnOk l.prog w K mg base CX0 6 f_36 _ ["base", "reports"] (j8 K mg) := vR F_36 (G_5.mono (by decide)) CA_5 (G_16.mono (by decide)) B_16 (G_33.mono (by decide)) CA_33 Z_list aF aN aM aG aP aU bj bD bG
 have G_37 : FnOk l.prog w K mg base CX0 8 f_37 _ ["me", "hands", "reports", "wishes"] (m7 K mg) := yH F_37 (G_26.mono (by decide)) CA_26 (G_30.mono (by decide)) B_30 (G_31.mono (by decide)) CA_31 (G_32.mono (by decide)) CA_32 (G_34.mono (by decide)) CA_34 (G_35.mono (by decide)) CA_35 (G_36.mono (by decide)) CA_36 Z_tuple aF aN aM aG aP aU cD cZ cW
 have G_38 : FnOk l.prog w K mg base CX0 1 f_38 _ ["_law_script", "_law_k"] (iB K) := vO F_38 Z_len
 have G_39 : FnOk l.prog w K mg base CX0 1 f_39 _ ["_law_cell", "_law_amount"] (cO K) := xO F_39 Z_range
 have G_40 : FnOk l.prog w K mg base CX0 2 f_40 _ ["_law_cell"] (m9 K) := yC F_40 (G_39.mono (by decide)) CA_39 Z_list Z_range Z_sorted
 have G_41 : FnOk l.prog w K mg base CX0 1 f_41 _ ["_law_hands_here"] (qN K) := Cw F_41 Z_sum
 have G_42 : FnOk l.prog w K mg base CX0 1 f_42 _ ["_law_call"] (oA K) := Bu F_42
 have G_43 : FnOk l.prog w K mg base CX0 1 f_43 _ ["_law_found"] (mY K) := yD F_43 Z_bool Z_int Z_isinstance
 have G_44 : FnOk l.prog w K mg base CX0 2 f_44 _ ["_law_cells", "_law_hands_here", "_law_number"] (mX K) := yI F_44 (G_39.mono (by decide)) CA_39 Z_len Z_range Z_sorted Z_tuple
 have G_45 : FnOk l.prog w K mg base CX0 3 f_45 _ ["_law_hand", "_law_calls_here", "_law_places", "_law_cell"] (my K) := yo F_45 (G_39.mono (by decide)) CA_39 (G_42.mono (by decide)) CA_42 Z_len Z_range Z_sorted Z_tuple
 have G_46 : FnOk l.prog w K mg base CX0 4 f_46 _ ["_law_script"] (oG K) := Bh F_46 (G_38.mono (by decide)) CA_38 (G_39.mono (by decide)) CA_39 (G_40.mono (by decide)) CA_40 (G_44.mono (by decide)) CA_44 (G_45.mono (by decide)) CA_45 Z_len Z_range
 have G_47 : FnOk l.prog w K mg base CX0 8 f_47 _ ["_law_reports"] (qL K mg) := BV F_47 (G_26.mono (by decide)) CA_26 (G_30.mono (by decide)) B_30 (G_33.mono (by decide)) CA_33 (G_34.mono (by decide)) CA_34 (G_35.mono (by decide)) CA_35 Z_list Z_reversed aF aN aM aG aP aU cD cZ cW
 exact RX F_48 (G_37.mono (by decide)) CA_37 (G_38.mono (by decide)) CA_38 (G_39.mono (by decide)) CA_39 (G_41.mono (by decide)) CA_41 (G_43.mono (by decide)) CA_43 (G_46.mono (by decide)) CA_46 (G_47.mono (by decide)) CA_47 Z_isinstance Z_len Z_list Z_range Z_tuple
theorem walk {l : PySem.W.OpenLaw} {q : Program} {loose : List Str} {XP : (Str -> Option Value) -> Heap -> Prop} {YP : World -> Heap -> Prop} {d : DefRec} {K : Params -> PySem.W.Frag} (hn : l.most = some 63) (hdf : d.params.defaults = [])
  (hY : ∀ (w : World) (h : Heap), YP w h -> (K w.params).In h)
  (F : ∀ (w : World) (mg : Str -> Option Value) (fa : Addr) (h : Heap), (K w.params).In h -> h.Ns mainGlobals mg -> mg d.name = some (.ref fa) ->
   ∃ fd : FuncData, (∀ (s : Shared) (u : Value), BindsTo s fd ⟨[u], []⟩ [("_law_script", u)]) /\ ∀ base : Heap, (K w.params).In base -> base.Ns mainGlobals mg -> FnOk l.prog w (K w.params) mg base CX0 9 fa fd ["_law_script"] (Bq (K w.params))) :
  PySem.W.WalkO q loose XP YP l.row.toRowW d [] (fun f vs => PySem.call f vs) :=
 L2.OD (n := 63) (k := 9) (x := "_law_script") (CX := fun _ => CX0) (sp := fun w => Bq (K w.params)) hn (by decide) hdf ⟨rfl, by decide, by decide⟩ hY F (fun _ _ a ns hl _ hS => ⟨a, ns, rfl, hS, hl, fun _ => rfl⟩) fun _ _ _ _ _ z => z
end K52
def PySem.W.Fast.tw8871985433051024537 : Unit := ()
def PySem.W.Fast.tw4371519509521024365 : Unit := ()
def PySem.W.Fast.tw10558008653098881047 : Unit := ()
def PySem.W.Fast.tw3753012358903175057 : Unit := ()
def PySem.W.Fast.tw4754640193618773736 : Unit := ()
def PySem.W.Fast.tw3033764996336031897 : Unit := ()
def PySem.W.Fast.tw1281567562803652498 : Unit := ()
def PySem.W.Fast.tw11900584024525378238 : Unit := ()
def PySem.W.Fast.tw5474391267531301923 : Unit := ()
def PySem.W.Fast.tw8074477334878229365 : Unit := ()
def PySem.W.Fast.tw2108221601830973440 : Unit := ()
def PySem.W.Fast.tw12418851243695174819 : Unit := ()
def PySem.W.Fast.tw12654118290527553693 : Unit := ()
def PySem.W.Fast.tw1669465324783348524 : Unit := ()
def PySem.W.Fast.tw2052822192307789408 : Unit := ()
def PySem.W.Fast.tw15249543983922772495 : Unit := ()
def PySem.W.Fast.tw9475347977640314854 : Unit := ()
def PySem.W.Fast.tw9006334732274066485 : Unit := ()
def PySem.W.Fast.tw8186608835279906615 : Unit := ()
open PySem PySem.W PyProof.Rows
set_option maxRecDepth 100000 in
set_option maxHeartbeats 0 in
theorem PySem.Challenge.cw_groupcall_k52_first_plan_told_holds : PySem.Challenge.rw_groupcall_k52_first_plan_told.Holds := by
 w_on; o_law; k_head; (case hw => w_witness2)
 k_fill
 refine K52.walk (l := PySem.Challenge.rw_groupcall_k52_first_plan_told) rfl rfl (fun w h Y => PySem.W.kIn_of Y) ?F
 case F =>
  intro w mg fa h KX G hmg
  refine' K52.T4 KX G hmg ?a_0 ?a_1 ?a_2 ?a_3 ?a_4 ?a_5 ?a_8 ?a_9 ?a_10 ?a_14 ?a_15 ?a_20 ?a_21 ?a_22 ?a_23 ?a_24 ?a_25 ?a_26 ?a_31 ?a_32 ?a_33 ?a_34 ?a_35 ?a_36 ?a_37 ?a_38 ?a_39 ?a_40 ?a_41 ?a_42 ?a_43 ?a_44 ?a_45 ?a_46 ?a_47 ?a_48 ?Fb ?pX ?uN ?uR ?uG ?Lb ?KC ?Fz ?Fp ?J8 ?oK ?Ml ?GZ ?K8 ?Nf ?By ?tu ?M7 ?wZ ?Ms ?Bl ?at_HeardCall___init__ ?at_HeardCall_asks_place ?at_HeardCall_free ?at_HeardCall_in_turn ?at_HeardCall_kind ?at_HeardCall_name ?at_HeardCall_rank ?at_HeardCall_told ?at_OneCall___init__ ?at_OneCall_asks_place ?at_OneCall_free ?at_OneCall_in_turn ?at_OneCall_kind ?at_OneCall_name ?at_OneCall_rank ?at_OneCall_told ?at_OwnCall___init__ ?at_OwnCall_asks_place ?at_OwnCall_free ?at_OwnCall_in_turn ?at_OwnCall_kind ?at_OwnCall_name ?at_OwnCall_rank ?at_OwnCall_told ?fc_Call___init__ ?l_0 ?c_0 ?k_0 ?l_1 ?c_1 ?k_1 ?l_2 ?c_2 ?k_2 ?l_3 ?c_3 ?k_3 ?l_4 ?c_4 ?k_4 ?l_5 ?c_5 ?k_5 ?l_6 ?c_6 ?k_6 ?l_7 ?c_7 ?k_7 ?l_8 ?c_8 ?k_8 ?l_9 ?c_9 ?k_9 ?l_10 ?c_10 ?k_10 ?l_11 ?c_11 ?k_11 ?l_12 ?c_12 ?k_12 ?l_13 ?c_13 ?k_13 ?l_14 ?c_14 ?k_14 ?l_15 ?c_15 ?k_15 ?l_16 ?c_16 ?k_16 ?l_17 ?c_17 ?k_17 ?l_18 ?c_18 ?k_18 ?l_19 ?c_19 ?k_19 ?l_20 ?c_20 ?k_20 ?l_21 ?c_21 ?k_21 ?l_22 ?c_22 ?k_22 ?l_23 ?c_23 ?k_23 ?l_24 ?c_24 ?k_24 ?l_25 ?c_25 ?k_25 ?l_26 ?c_26 ?k_26 ?l_27 ?c_27 ?k_27 ?l_28 ?c_28 ?k_28 ?l_29 ?c_29 ?k_29 ?l_30 ?c_30 ?k_30 ?l_31 ?c_31 ?k_31 ?l_32 ?c_32 ?k_32 ?l_33 ?c_33 ?k_33 ?l_34 ?c_34 ?k_34 ?l_35 ?c_35 ?k_35 ?l_36 ?c_36 ?k_36 ?l_37 ?c_37 ?k_37 ?l_38 ?c_38 ?k_38 ?l_39 ?c_39 ?k_39 ?l_40 ?c_40 ?k_40 ?l_41 ?c_41 ?k_41 ?l_42 ?c_42 ?k_42 ?l_43 ?c_43 ?k_43 ?l_44 ?c_44 ?k_44 ?l_45 ?c_45 ?k_45 ?l_46 ?c_46 ?k_46 ?l_47 ?c_47 ?k_47 ?l_48 ?c_48 ?k_48 ?i_6 ?i_18 ?i_12 ?i_11 ?i_16 ?i_17 ?i_30 ?i_13 ?i_28 ?i_19 ?i_29 ?i_7 ?i_27 ?Bv ?Bp ?Bj ?Ar ?mR ?mQ ?oX ?qK ?mV ?oZ ?oY ?oN ?n6 ?iJ ?iK ?jq ?jG ?iI ?rY ?rZ ?rP ?sU ?jK ?jQ ?kE ?lV ?jF ?rQ ?sH ?tG ?sV ?jH ?jL ?kh ?mC ?jT ?o5 ?o6 ?sO ?sY ?sS ?sy ?zX ?Ak ?xZ
  (case a_0 | a_1 | a_2 | a_3 | a_4 | a_5 | a_8 | a_9 | a_10 | a_14 | a_15 | a_20 | a_21 | a_22 | a_23 | a_24 | a_25 | a_26 | a_31 | a_32 | a_33 | a_34 | a_35 | a_36 | a_37 | a_38 | a_39 | a_40 | a_41 | a_42 | a_43 | a_44 | a_45 | a_46 | a_47 | a_48 | Fb | pX | uN | uR | uG | Lb | KC | Fz | Fp | J8 | oK | Ml | GZ | K8 | Nf | By | tu | M7 | wZ | Ms | Bl | at_HeardCall___init__ | at_HeardCall_asks_place | at_HeardCall_free | at_HeardCall_in_turn | at_HeardCall_kind | at_HeardCall_name | at_HeardCall_rank | at_HeardCall_told | at_OneCall___init__ | at_OneCall_asks_place | at_OneCall_free | at_OneCall_in_turn | at_OneCall_kind | at_OneCall_name | at_OneCall_rank | at_OneCall_told | at_OwnCall___init__ | at_OwnCall_asks_place | at_OwnCall_free | at_OwnCall_in_turn | at_OwnCall_kind | at_OwnCall_name | at_OwnCall_rank | at_OwnCall_told | fc_Call___init__ | l_0 | c_0 | k_0 | l_1 | c_1 | k_1 | l_2 | c_2 | k_2 | l_3 | c_3 | k_3 | l_4 | c_4 | k_4 | l_5 | c_5 | k_5 | l_6 | c_6 | k_6 | l_7 | c_7 | k_7 | l_8 | c_8 | k_8 | l_9 | c_9 | k_9 | l_10 | c_10 | k_10 | l_11 | c_11 | k_11 | l_12 | c_12 | k_12 | l_13 | c_13 | k_13 | l_14 | c_14 | k_14 | l_15 | c_15 | k_15 | l_16 | c_16 | k_16 | l_17 | c_17 | k_17 | l_18 | c_18 | k_18 | l_19 | c_19 | k_19 | l_20 | c_20 | k_20 | l_21 | c_21 | k_21 | l_22 | c_22 | k_22 | l_23 | c_23 | k_23 | l_24 | c_24 | k_24 | l_25 | c_25 | k_25 | l_26 | c_26 | k_26 | l_27 | c_27 | k_27 | l_28 | c_28 | k_28 | l_29 | c_29 | k_29 | l_30 | c_30 | k_30 | l_31 | c_31 | k_31 | l_32 | c_32 | k_32 | l_33 | c_33 | k_33 | l_34 | c_34 | k_34 | l_35 | c_35 | k_35 | l_36 | c_36 | k_36 | l_37 | c_37 | k_37 | l_38 | c_38 | k_38 | l_39 | c_39 | k_39 | l_40 | c_40 | k_40 | l_41 | c_41 | k_41 | l_42 | c_42 | k_42 | l_43 | c_43 | k_43 | l_44 | c_44 | k_44 | l_45 | c_45 | k_45 | l_46 | c_46 | k_46 | l_47 | c_47 | k_47 | l_48 | c_48 | k_48 | i_6 | i_18 | i_12 | i_11 | i_16 | i_17 | i_30 | i_13 | i_28 | i_19 | i_29 | i_7 | i_27 | Bv | Bp | Bj | Ar | mR | mQ | oX | qK | mV | oZ | oY | oN | n6 | iJ | iK | jq | jG | iI | rY | rZ | rP | sU | jK | jQ | kE | lV | jF | rQ | sH | tG | sV | jH | jL | kh | mC | jT | o5 | o6 | sO | sY | sS | sy | zX | Ak | xZ => first | k_is | rfl | decide)
