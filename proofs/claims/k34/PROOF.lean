import PyProof.Rows.All
import Wide.All
import OpenK.AllK
import Wide.FinOn
import Lean
import PyProof.EqAt
import PyProof.EqKinds
import PyProof.TupleCall
import PyProof.CompMap
import PyProof.MinMaxWalk
import KE.KMinBuiltin
import PyProof.SliceList
import PyProof.AttrMissHeap
import PySem.Challenge.RW_groupcall_k34_whole_merged_alike
set_option Elab.async false
set_option linter.all false
set_option maxRecDepth 100000
namespace L2
open PySem PySem.Spec PyProof.Rows
abbrev Key := Sum Int Str
def keyIs : Key → Value → Bool
  | .inl k, v => Value.isInt k v
  | .inr x, v => Value.isStrOf x v
def keyH (w : World) : Key → Int
  | .inl k => hashInt k
  | .inr x => hashStr w x
theorem keyIs_shape : ∀ {k : Key} {v : Value}, keyIs k v = true → (∃ i t, k = Sum.inl i ∧ v = Value.int i t) ∨ (∃ x t, k = Sum.inr x ∧ v = Value.str x t)
  | .inl i, v, h => by
    obtain ⟨t, e⟩ := Value.isInt_shape (k := i) (v := v) h
    exact .inl ⟨i, t, rfl, e⟩
  | .inr x, v, h => by
    obtain ⟨t, e⟩ := Value.isStrOf_shape (x := x) (v := v) h
    exact .inr ⟨x, t, rfl, e⟩
theorem keyIs_int (i : Int) (t : Tok) : keyIs (.inl i) (.int i t) = true := by simp [keyIs, Value.isInt]
theorem keyIs_str (x : Str) (t : Tok) : keyIs (.inr x) (.str x t) = true := by simp [keyIs, Value.isStrOf]
theorem key_ll (a b : Int) : decide ((Sum.inl a : Key) = Sum.inl b) = (a == b) := by
  by_cases e : a = b
  · subst e; simp
  · have h : ¬ (Sum.inl a : Key) = Sum.inl b := fun q => e (Sum.inl.inj q)
    rw [decide_eq_false h]
    exact (beq_eq_false_iff_ne.mpr e).symm
theorem key_rr (a b : Str) : decide ((Sum.inr a : Key) = Sum.inr b) = decide (a = b) := by
  by_cases e : a = b
  · subst e; simp
  · have h : ¬ (Sum.inr a : Key) = Sum.inr b := fun q => e (Sum.inr.inj q)
    rw [decide_eq_false h, decide_eq_false e]
theorem key_lr (a : Int) (b : Str) : decide ((Sum.inl a : Key) = Sum.inr b) = false := decide_eq_false (fun q => nomatch q)
theorem key_rl (a : Str) (b : Int) : decide ((Sum.inr a : Key) = Sum.inl b) = false := decide_eq_false (fun q => nomatch q)
def mixKind (prog : Program) (w : World) : PySem.KeyKind prog w Key where
  is := keyIs
  hash := keyH w
  inj := fun v a b ha hb => by
    rcases keyIs_shape ha with ⟨i, t, rfl, rfl⟩ | ⟨x, t, rfl, rfl⟩
    · rcases keyIs_shape hb with ⟨j, u, rfl, e⟩ | ⟨y, u, rfl, e⟩
      · injection e with e1 _; rw [e1]
      · exact nomatch e
    · rcases keyIs_shape hb with ⟨j, u, rfl, e⟩ | ⟨y, u, rfl, e⟩
      · exact nomatch e
      · injection e with e1 _; rw [e1]
  byValue := fun k v h => by
    rcases keyIs_shape h with ⟨i, t, rfl, rfl⟩ | ⟨x, t, rfl, rfl⟩ <;> rfl
  pyHash := fun hv h => by
    rcases keyIs_shape hv with ⟨i, t, rfl, rfl⟩ | ⟨x, t, rfl, rfl⟩
    · exact wpAny_pyHash_int h
    · exact wpAny_pyHash_str h
  eqBool := fun hu hv h => by
    rcases keyIs_shape hu with ⟨i, t, rfl, rfl⟩ | ⟨x, t, rfl, rfl⟩
    · rcases keyIs_shape hv with ⟨j, u, rfl, rfl⟩ | ⟨y, u, rfl, rfl⟩
      · rw [key_ll] at h; exact wpAny_eqBool_int h
      · rw [key_lr] at h; exact SeqAt.EqAt.int_str i t y u _ _ _ _ h
    · rcases keyIs_shape hv with ⟨j, u, rfl, rfl⟩ | ⟨y, u, rfl, rfl⟩
      · rw [key_rl] at h; exact SeqAt.EqAt.str_int x t j u _ _ _ _ h
      · rw [key_rr] at h; exact wpAny_eqBool_str h
  «strs» := fun k x t v h => by
    rcases keyIs_shape h with ⟨i, u, rfl, e⟩ | ⟨y, u, rfl, e⟩
    · exact nomatch e
    · injection e with e1 _
      subst e1
      cases v <;> rfl
theorem mixKind_int (prog : Program) (w : World) (i : Int) (t : Tok) : (mixKind prog w).is (.inl i) (.int i t) = true := keyIs_int i t
theorem mixKind_str (prog : Program) (w : World) (x : Str) (t : Tok) : (mixKind prog w).is (.inr x) (.str x t) = true := keyIs_str x t
end L2
namespace L2
open PySem PySem.Spec PyProof.Rows
inductive V where
  | non | bl (b : Bool) | int (i : Int) | str (x : Str) | byt (b : Array UInt8) | flt (b : UInt64) | ref (a : Addr) | ty (n : String)
  deriving DecidableEq
def RelV : V → Value → Prop
  | .non, u => u = Value.none
  | .bl b, u => u = Value.bool b
  | .int i, u => ∃ t, u = Value.int i t
  | .str x, u => ∃ t, u = Value.str x t
  | .byt b, u => ∃ t, u = Value.bytes b t
  | .flt b, u => ∃ t, u = Value.float b t
  | .ref a, u => u = Value.ref a
  | .ty n, u => u = Value.type n
abbrev Vals : List V → List Value → Prop := Paired RelV
theorem Vals.length {xs : List V} {us : List Value} (r : Vals xs us) : xs.length = us.length := Paired.length r
theorem Vals.get : ∀ {xs : List V} {us : List Value} {i : Nat} {x : V}, Vals xs us → xs[i]? = some x → ∃ u, us[i]? = some u ∧ RelV x u
  | _, _, _, _, .nil, e => by simp at e
  | _, _, 0, _, .cons r _, e => by simp at e; subst e; exact ⟨_, rfl, r⟩
  | _, _, i + 1, x, .cons _ t, e => by
    obtain ⟨u, h1, h2⟩ := Vals.get (i := i) (x := x) t (by simpa using e)
    exact ⟨u, by simpa using h1, h2⟩
theorem Vals.set {x : V} {u : Value} (r : RelV x u) : ∀ {xs : List V} {us : List Value} (i : Nat), Vals xs us → Vals (xs.set i x) (us.set i u)
  | _, _, _, .nil => .nil
  | _, _, 0, .cons _ t => .cons r t
  | _, _, i + 1, .cons q t => .cons q (Vals.set r i t)
theorem Vals.append : ∀ {xs ys : List V} {us ws : List Value}, Vals xs us → Vals ys ws → Vals (xs ++ ys) (us ++ ws)
  | _, _, _, _, .nil, s => s
  | _, _, _, _, .cons r t, s => .cons r (Vals.append t s)
theorem Vals.take : ∀ {xs : List V} {us : List Value} (n : Nat), Vals xs us → Vals (xs.take n) (us.take n)
  | _, _, 0, _ => .nil
  | _, _, _ + 1, .nil => .nil
  | _, _, n + 1, .cons r t => .cons r (Vals.take n t)
theorem Vals.drop : ∀ {xs : List V} {us : List Value} (n : Nat), Vals xs us → Vals (xs.drop n) (us.drop n)
  | _, _, 0, r => r
  | _, _, _ + 1, .nil => .nil
  | _, _, n + 1, .cons _ t => Vals.drop n t
def RelO : Option V → Option Value → Prop
  | some v, some u => RelV v u
  | none, none => True
  | _, _ => False
def KV {κ : Type} : List (κ × V) → List (κ × Value) → Prop := Paired fun (p : κ × V) (q : κ × Value) => p.1 = q.1 ∧ RelV p.2 q.2
def kV : Key → V
  | .inl i => .int i
  | .inr x => .str x
inductive HO where
  | lst (xs : List V)
  | tup (xs : List V)
  | dK (kvs : List (Key × V)) | dT (kvs : List (List Key × V))
  | set (S : Int → Bool) (n : Nat)
  | ins (C dx : Addr) (fs : List (Str × V))
  | own (x : Addr)
  | xd (fs : List (Str × V))
  | met (f x : Addr)
  | rng (lo hi : Int)
  | frz (o : Obj) (u : HO)
  | tbl (ps : Array Value)
  | ext (φ : Heap → Prop)
abbrev Hp := Addr → Option HO
def upd (H : Hp) (a : Addr) (o : HO) : Hp := fun b => if b = a then some o else H b
theorem upd_same {H : Hp} {a : Addr} {o : HO} : upd H a o a = some o := by unfold upd; rw [if_pos rfl]
theorem upd_ne {H : Hp} {a b : Addr} {o : HO} (h : b ≠ a) : upd H a o b = H b := by unfold upd; rw [if_neg h]
theorem upd_upd {H : Hp} {a : Addr} {o u : HO} : upd (upd H a o) a u = upd H a u := by
  funext b; unfold upd; split <;> rfl
theorem ne_of {H : Hp} {a b : Addr} {o u : HO} (h : H a = some o) (h' : H b = some u) (d : o ≠ u) : a ≠ b := by
  intro e; subst e; rw [h] at h'; exact d (Option.some.inj h')
theorem ne_of_none {H : Hp} {a b : Addr} {o : HO} (h : H a = some o) (h' : H b = none) : a ≠ b := by
  intro e; subst e; rw [h] at h'; cases h'
def IsTpl (h : Heap) (a : Addr) (items : Array Value) : Prop := ∃ o, h.get? a = some o ∧ o.cls = .type "tuple" ∧ ∃ n, o.data = .seq items n ∧ o.dict = none ∧ o.slots = #[]
theorem IsTpl.tup {h : Heap} {a : Addr} {items : Array Value} (x : IsTpl h a items) : IsTup h a items := let ⟨o, e, c, n, d, _⟩ := x; ⟨o, e, c, n, d⟩
theorem IsTpl.lt {h : Heap} {a : Addr} {items : Array Value} (x : IsTpl h a items) : a < h.objs.size := x.tup.lt
theorem IsTpl.new (h : Heap) (items : Array Value) : IsTpl (h.push { cls := .type "tuple", data := .seq items }) h.objs.size items := ⟨_, Heap.get?_push_size _ rfl, rfl, _, rfl, rfl, rfl⟩
theorem IsTpl.obj {h : Heap} {a : Addr} {items : Array Value} (x : IsTpl h a items) : ∃ n, h.get? a = some { cls := .type "tuple", dict := none, data := .seq items n, slots := #[] } := by
  obtain ⟨⟨c, d, t, l⟩, e, c1, n, c2, c3, c4⟩ := x
  cases c1
  cases c2
  cases c3
  cases c4
  exact ⟨n, e⟩
section
variable (P : Program) (w : World)
def ObjOk (H : Hp) (h : Heap) (a : Addr) : HO → Prop
  | .lst xs => xs.length ≤ sizeLine ∧ ∃ (its : List Value) (n : Nat), Vals xs its ∧ h.get? a = some { cls := .type "list", data := .seq its.toArray n }
  | .tup xs => xs.length ≤ sizeLine ∧ ∃ its : List Value, Vals xs its ∧ IsTpl h a its.toArray
  | .dK kvs => kvs.length ≤ sizeLine ∧ (a == sysModules) = false ∧ ∃ vs, KV kvs vs ∧ h.DictOf (mixKind P w) a vs
  | .dT kvs => kvs.length ≤ sizeLine ∧ (a == sysModules) = false ∧ ∃ xs : List (List Key × Addr × Value),
      Paired (fun (p : List Key × V) (q : List Key × Addr × Value) => p.1 = q.1 ∧ H q.2.1 = some (.tup (p.1.map kV)) ∧ RelV p.2 q.2.2) kvs xs ∧
      ∃ o es ep, h.get? a = some o ∧ o.ExactDict ∧ o.data = .dict es ep ∧ es.toList = xs.map (entryOfKey (tupleKind (mixKind P w))) ∧ (xs.map (·.1)).Nodup
  | .set S n => h.SetOf (intKind P w) a S n
  | .ins C dx fs => H dx = some (.own a) ∧ fs.length ≤ 1000 ∧ dx ≠ a ∧ h.get? a = some (PySem.W.instObj C dx) ∧
      ∃ mA, h.Ns1 dx mA ∧ (∀ f, RelO (fs.lookup f) (mA f)) ∧ PySem.Within mA (fs.map (·.1))
  | .own _ => ∃ o, h.get? a = some o
  | .xd fs => ∃ mA, h.Ns1 a mA ∧ ∀ f, RelO (fs.lookup f) (mA f)
  | .rng lo hi => ∃ t u v, h.get? a = some { cls := .type "range", data := .fields #[.int lo t, .int hi u, .int 1 v] }
  | .frz o u => h.get? a = some o ∧ ObjOk H h a u
  | .tbl ps => h.get? a = some { cls := .none, data := .fields ps }
  | .met f x => h.get? a = some (PySem.W.methodObj (.ref f) (.ref x))
  | .ext φ => φ h ∧ (∃ o, h.get? a = some o) ∧ ∀ h1 h2 : Heap, φ h1 → (∀ o, h1.get? a = some o → h2.get? a = some o) → φ h2
def HOk (H : Hp) (h : Heap) : Prop := ∀ a o, H a = some o → ObjOk P w H h a o
end
section
variable {P : Program} {w : World} {H H' : Hp} {h h' : Heap} {a : Addr} {o : HO}
theorem ObjOk.lt (x : ObjOk P w H h a o) : a < h.objs.size := by
  cases o with
  | lst xs => obtain ⟨_, _, _, _, e⟩ := x; exact Heap.lt_size e
  | tup xs => obtain ⟨_, _, _, p⟩ := x; exact p.lt
  | dK kvs => obtain ⟨_, _, _, _, o, _, _, e, _⟩ := x; exact Heap.lt_size e
  | dT kvs => obtain ⟨_, _, _, _, o, _, _, e, _⟩ := x; exact Heap.lt_size e
  | set S n => obtain ⟨o, _, _, _, e, _⟩ := x; exact Heap.lt_size e
  | ins C dx fs => obtain ⟨_, _, _, e, _⟩ := x; exact Heap.lt_size e
  | own y => obtain ⟨_, e⟩ := x; exact Heap.lt_size e
  | xd fs => obtain ⟨_, ⟨_, _, _, e, _⟩, _⟩ := x; exact Heap.lt_size e
  | rng lo hi => obtain ⟨_, _, _, e⟩ := x; exact Heap.lt_size e
  | frz ob u => obtain ⟨e, _⟩ := x; exact Heap.lt_size e
  | tbl ps => exact Heap.lt_size (show h.get? a = some _ from x)
  | met f y => exact Heap.lt_size (show h.get? a = some _ from x)
  | ext φ => obtain ⟨_, ⟨_, e⟩, _⟩ := x; exact Heap.lt_size e
theorem Paired.mapP {α β : Type} {F G : α → β → Prop} : ∀ {l₁ : List α} {l₂ : List β}, Paired F l₁ l₂ → (∀ a b, F a b → G a b) → Paired G l₁ l₂
  | _, _, .nil, _ => .nil
  | _, _, .cons r t, f => .cons (f _ _ r) (Paired.mapP t f)
theorem ObjOk.stay (x : ObjOk P w H h a o) (k : ∀ b u, (b = a ∨ H b = some (.own a)) → h.get? b = some u → h'.get? b = some u)
    (ho : ∀ b, H b = some (.own a) → H' b = some (.own a)) (ht : ∀ b xs, H b = some (.tup xs) → H' b = some (.tup xs)) : ObjOk P w H' h' a o := by
  induction o with
  | lst xs => obtain ⟨z, its, n, r, e⟩ := x; exact ⟨z, its, n, r, k _ _ (.inl rfl) e⟩
  | tup xs => obtain ⟨z, its, r, ob, e, c⟩ := x; exact ⟨z, its, r, ob, k _ _ (.inl rfl) e, c⟩
  | dK kvs => obtain ⟨z, y, vs, r, ob, es, ep, e, c⟩ := x; exact ⟨z, y, vs, r, ob, es, ep, k _ _ (.inl rfl) e, c⟩
  | dT kvs =>
    obtain ⟨z, y, xs, r, ob, es, ep, e, c⟩ := x
    exact ⟨z, y, xs, Paired.mapP r fun p q z => ⟨z.1, ht _ _ z.2.1, z.2.2⟩, ob, es, ep, k _ _ (.inl rfl) e, c⟩
  | set S n => obtain ⟨ob, es, ep, t, e, c⟩ := x; exact ⟨ob, es, ep, t, k _ _ (.inl rfl) e, c⟩
  | ins C dx fs =>
    obtain ⟨d, z, ne, e, mA, ⟨od, es, ep, e2, c⟩, r⟩ := x
    exact ⟨ho _ d, z, ne, k _ _ (.inl rfl) e, mA, ⟨od, es, ep, k _ _ (.inr d) e2, c⟩, r⟩
  | own y => obtain ⟨ob, e⟩ := x; exact ⟨ob, k _ _ (.inl rfl) e⟩
  | xd fs => obtain ⟨mA, ⟨od, es, ep, e, c⟩, r⟩ := x; exact ⟨mA, ⟨od, es, ep, k _ _ (.inl rfl) e, c⟩, r⟩
  | rng lo hi => obtain ⟨t, u, v, e⟩ := x; exact ⟨t, u, v, k _ _ (.inl rfl) e⟩
  | frz ob u ih => obtain ⟨e, q⟩ := x; exact ⟨k _ _ (.inl rfl) e, ih q⟩
  | tbl ps =>
    have e : h.get? a = some { cls := .none, data := .fields ps } := x
    show h'.get? a = some { cls := .none, data := .fields ps }
    exact k a _ (.inl rfl) e
  | met f y =>
    have e : h.get? a = some (PySem.W.methodObj (.ref f) (.ref y)) := x
    show h'.get? a = some (PySem.W.methodObj (.ref f) (.ref y))
    exact k a _ (.inl rfl) e
  | ext φ => obtain ⟨p, ⟨o, e⟩, st⟩ := x; exact ⟨st _ _ p fun o q => k _ _ (.inl rfl) q, ⟨o, k _ _ (.inl rfl) e⟩, st⟩
theorem HOk.lt (x : HOk P w H h) (e : H a = some o) : a < h.objs.size := (x a o e).lt
theorem HOk.fresh (x : HOk P w H h) (e : h.objs.size ≤ a) : H a = none := by
  cases q : H a with
  | none => rfl
  | some u => exact absurd (Nat.lt_of_lt_of_le (x.lt q) e) (Nat.lt_irrefl _)
theorem HOk.kept (x : HOk P w H h) (k : ∀ b u, h.get? b = some u → h'.get? b = some u) : HOk P w H h' := fun a o e =>
  (x a o e).stay (fun b u _ q => k b u q) (fun _ q => q) fun _ _ q => q
theorem HOk.laid (x : HOk P w H h) (k : ∀ b u, h.get? b = some u → h'.get? b = some u) (hp : h.objs.size ≤ a) (new : ObjOk P w (upd H a o) h' a o) : HOk P w (upd H a o) h' := fun b u e => by
  have hn := x.fresh hp
  by_cases hb : b = a
  · subst hb; rw [upd_same] at e; cases e; exact new
  · rw [upd_ne hb] at e
    exact (x b u e).stay (fun c v _ q => k c v q) (fun c q => by rw [upd_ne (ne_of_none q hn)]; exact q) fun c xs q => by rw [upd_ne (ne_of_none q hn)]; exact q
end
def Rd (H : Hp) (a : Addr) (u : HO) : Prop := H a = some u ∨ ∃ o, H a = some (.frz o u)
theorem Rd.of {H : Hp} {a : Addr} {u : HO} (h : H a = some u) : Rd H a u := .inl h
theorem Rd.ok {P : Program} {w : World} {H : Hp} {h : Heap} {a : Addr} {u : HO} (r : Rd H a u) (x : HOk P w H h) : ObjOk P w H h a u := by
  rcases r with r | ⟨o, r⟩
  · exact x a u r
  · obtain ⟨_, q⟩ := x a _ r
    exact q
def Mut : Option HO → Prop
  | some (.lst _) => True
  | some (.dK _) => True
  | some (.dT _) => True
  | some (.set _ _) => True
  | some (.ins _ _ _) => True
  | some (.ext _) => True
  | _ => False
section
variable {P : Program} {w : World} {H : Hp} {h h' : Heap} {x e : Addr} {o' : HO}
theorem HOk.write (ok : HOk P w H h) (mu : Mut (H x)) (he : e = x ∨ H e = some (.own x)) (k : ∀ b u, b ≠ e → h.get? b = some u → h'.get? b = some u) (heo : ∃ u, h'.get? e = some u)
    (new : ObjOk P w (upd H x o') h' x o') : HOk P w (upd H x o') h' := fun b u q => by
  have nown : ∀ c y, H c = some (.own y) → c ≠ x := fun c y r z => by subst z; rw [r] at mu; exact mu
  have ntup : ∀ c xs, H c = some (.tup xs) → c ≠ x := fun c xs r z => by subst z; rw [r] at mu; exact mu
  by_cases hb : b = x
  · subst hb; rw [upd_same] at q; cases q; exact new
  · rw [upd_ne hb] at q
    by_cases hbe : b = e
    · have q' : H b = some (.own x) := by
        rcases he with z | z
        · exact absurd (hbe.trans z) hb
        · rw [hbe]; exact z
      rw [q] at q'; cases q'
      obtain ⟨v, hv⟩ := heo
      exact ⟨v, by rw [hbe]; exact hv⟩
    · refine (ok b u q).stay (fun c v hc r => k c v ?_ r) (fun c r => by rw [upd_ne (nown c b r)]; exact r) fun c xs r => by rw [upd_ne (ntup c xs r)]; exact r
      rcases hc with rfl | hc
      · exact hbe
      · rintro rfl
        rcases he with z | z
        · exact nown c b hc z
        · rw [hc] at z; cases z; exact hb rfl
end
structure Un (fs ex : List Addr) (H H' : Hp) (h h' : Heap) : Prop where
  keep : ∀ b o, h.get? b = some o → H b = none → b ∉ fs → b ∉ ex → h'.get? b = some o
  slot : ∀ b o, h.get? b = some o → H b = none → b ∈ fs → b ∉ ex → ∃ sl, h'.get? b = some { o with slots := sl }
  free : ∀ b o, h.get? b = some o → H b = none → b ∉ ex → H' b = none
  there : ∀ b o, h.get? b = some o → b ∉ ex → ∃ o', h'.get? b = some o'
  tups : ∀ b xs, H b = some (.tup xs) → H' b = some (.tup xs)
  frzs : ∀ b o u, H b = some (.frz o u) → H' b = some (.frz o u)
  tbls : ∀ b ps, H b = some (.tbl ps) → ∃ more, H' b = some (.tbl (ps ++ more))
section
variable {fs fs' ex ex' : List Addr} {H H1 H2 : Hp} {h h1 h2 h' : Heap} {a x e : Addr} {o : HO}
theorem Un.any (u : Un fs ex H H1 h h1) {b : Addr} {ob : Obj} (q : h.get? b = some ob) (n : H b = none) (hx : b ∉ ex) : ∃ sl, h1.get? b = some { ob with slots := sl } := by
  by_cases hb : b ∈ fs
  · exact u.slot b ob q n hb hx
  · exact ⟨ob.slots, u.keep b ob q n hb hx⟩
theorem Un.trans (a : Un fs ex H H1 h h1) (b : Un fs ex H1 H2 h1 h2) : Un fs ex H H2 h h2 where
  keep := fun c ob q n hc hx => b.keep c ob (a.keep c ob q n hc hx) (a.free c ob q n hx) hc hx
  slot := fun c ob q n hc hx => by
    obtain ⟨sl, e1⟩ := a.slot c ob q n hc hx
    obtain ⟨sl', e2⟩ := b.slot c _ e1 (a.free c ob q n hx) hc hx
    exact ⟨sl', e2⟩
  free := fun c ob q n hx => by
    obtain ⟨o', e1⟩ := a.there c ob q hx
    exact b.free c o' e1 (a.free c ob q n hx) hx
  there := fun c ob q hx => by
    obtain ⟨o', e1⟩ := a.there c ob q hx
    exact b.there c o' e1 hx
  tups := fun c xs q => b.tups c xs (a.tups c xs q)
  frzs := fun c ob xs q => b.frzs c ob xs (a.frzs c ob xs q)
  tbls := fun c ps q => by
    obtain ⟨m1, e1⟩ := a.tbls c ps q
    obtain ⟨m2, e2⟩ := b.tbls c _ e1
    exact ⟨m1 ++ m2, by rw [e2, Array.append_assoc]⟩
theorem Un.kept (k : ∀ b u, h.get? b = some u → h'.get? b = some u) : Un fs ex H H h h' :=
  ⟨fun b ob q _ _ _ => k b ob q, fun b ob q _ _ _ => ⟨ob.slots, k b ob q⟩, fun _ _ _ n _ => n, fun b ob q _ => ⟨ob, k b ob q⟩, fun _ _ q => q, fun _ _ _ q => q, fun _ ps q => ⟨#[], by rw [q]; simp⟩⟩
theorem Un.refl : Un fs ex H H h h := Un.kept fun _ _ q => q
theorem Un.laid (k : ∀ b u, h.get? b = some u → h'.get? b = some u) (hp : h.objs.size ≤ a) (hn : H a = none) : Un fs ex H (upd H a o) h h' where
  keep := fun b u q _ _ _ => k b u q
  slot := fun b u q _ _ _ => ⟨u.slots, k b u q⟩
  free := fun b u q n _ => by rw [upd_ne (Nat.ne_of_lt (Nat.lt_of_lt_of_le (Heap.lt_size q) hp))]; exact n
  there := fun b u q _ => ⟨u, k b u q⟩
  tups := fun b xs q => by rw [upd_ne (ne_of_none q hn)]; exact q
  frzs := fun b u xs q => by rw [upd_ne (ne_of_none q hn)]; exact q
  tbls := fun b ps q => ⟨#[], by rw [upd_ne (ne_of_none q hn), q]; simp⟩
theorem Un.write (mu : Mut (H x)) (he : e = x ∨ H e = some (.own x)) (k : ∀ b u, b ≠ e → h.get? b = some u → h'.get? b = some u) (heo : ∃ u, h'.get? e = some u) : Un fs ex H (upd H x o) h h' := by
  have hx : ∀ b, H b = none → b ≠ x := fun b n z => by subst z; rw [n] at mu; exact mu
  have hb : ∀ b, H b = none → b ≠ e := fun b n z => by
    subst z
    rcases he with r | r
    · exact hx b n r
    · rw [n] at r; cases r
  have hm : ∀ b u, H b = some u → ¬ Mut (some u) → b ≠ x := fun b u q nm z => by subst z; rw [q] at mu; exact nm mu
  refine ⟨fun b u q n _ _ => k b u (hb b n) q, fun b u q n _ _ => ⟨u.slots, k b u (hb b n) q⟩, fun b u q n _ => by rw [upd_ne (hx b n)]; exact n, fun b u q _ => ?_,
    fun b xs q => by rw [upd_ne (hm b _ q fun z => z)]; exact q, fun b u xs q => by rw [upd_ne (hm b _ q fun z => z)]; exact q, fun b ps q => ⟨#[], by rw [upd_ne (hm b _ q fun z => z), q]; simp⟩⟩
  by_cases hbe : b = e
  · subst hbe; exact heo
  · exact ⟨u, k b u hbe q⟩
end
def trk (h : Heap) (H : Hp) : List Addr := (List.range h.objs.size).filter fun a => (H a).isSome
def hidT (h : Heap) (H : Hp) : Heap := PySem.W.hideAll h (trk h H)
theorem hidT_size (h : Heap) (H : Hp) : (hidT h H).objs.size = h.objs.size := PySem.W.hideAll_size _ _
theorem hidT_get {h : Heap} {H : Hp} {b : Addr} {o : Obj} (e : h.get? b = some o) (n : H b = none) : (hidT h H).get? b = some o :=
  PySem.W.hideAll_get _ e fun hm => by
    have q : (H b).isSome = true := (List.mem_filter.mp hm).2
    rw [n] at q; simp at q
theorem of_hidT {h : Heap} {H : Hp} {b : Addr} {o : Obj} (e : (hidT h H).get? b = some o) : h.get? b = some o ∧ H b = none := by
  have e' : h.get? b = some o := PySem.W.of_hideAll (trk h H) e
  refine ⟨e', ?_⟩
  cases q : H b with
  | none => rfl
  | some x =>
    have hm : b ∈ trk h H := List.mem_filter.mpr ⟨List.mem_range.mpr (Heap.lt_size e'), by simp [q]⟩
    have z : (hidT h H).get? b = none := PySem.W.hideAll_none (trk h H) hm
    rw [z] at e; cases e
end L2
namespace L2
open PySem PySem.Spec PyProof.Rows
structure Mod (K : PySem.W.Frag) (mg : Str → Option Value) (base : Heap) : Prop where
  kin : K.In base
  glob : base.Ns mainGlobals mg
  blt : ∃ mb, base.Ns builtinsNs mb ∧ ∀ x : Str, x ≠ "__name__" → mb x = bootBuiltins x
  nolimit : base.NoLimit
structure Cx where
  prog : Program
  w : World
  K : PySem.W.Frag
  mg : Str → Option Value
  base : Heap
  A : Around
  N : List Str
  s₀ : Shared
  H₀ : Hp
  env : Env
  outer : List Env
  stack : List Env
  ex : List Addr
  fn : Str → Bool
  calm : Bool
  pn : List (Addr × Obj)
  xe : Value → Shared → Prop
def frs (l : List Env) : List Addr := l.filterMap (·.frame)
abbrev Cx.fs (X : Cx) : List Addr := frs X.outer
def Vis (sc : Scope) (x : Str) : Prop := sc.names.lookup x = some .local ∨ sc.names.lookup x = some .cell ∨ sc.names.lookup x = some .free
def Loc (sc : Scope) (x : Str) : Prop := sc.names.lookup x = some .local ∨ sc.names.lookup x = some .cell
def Look (env : Env) (h : Heap) (m : Str → Option Value) (x : Str) (u : Value) : Prop :=
  (env.kindOf x = some .local ∧ m x = some u) ∨ ((env.kindOf x = some .cell ∨ env.kindOf x = some .free) ∧ ∃ c, env.cells.lookup x = some c ∧ h.IsCell c (some u))
structure Cx.Ok (X : Cx) : Prop where
  mod : Mod X.K X.mg X.base
  kind : X.env.scope.kind = .function
  glob : X.env.globals = mainGlobals
  blt : X.env.builtins = builtinsNs
  above : X.s₀.heap.objs.size ≤ X.env.locals
  inj : ∀ x y c, X.env.cells.lookup x = some c → X.env.cells.lookup y = some c → x = y
  has : ∀ x, (X.env.kindOf x = some .cell ∨ X.env.kindOf x = some .free) → ∃ c, X.env.cells.lookup x = some c
  cab : ∀ x c, X.fn x = true → X.env.cells.lookup x = some c → X.s₀.heap.objs.size ≤ c
  hd : X.calm = true → X.A.handled = none
  frames : X.A.frames = some X.stack
  stk : X.stack = X.outer ∨ (X.stack = X.env :: X.outer ∧ X.env.frame = some X.env.locals)
  exf : ∀ b ∈ X.ex, b ≠ X.env.locals ∧ ∀ x c, X.env.cells.lookup x = some c → c ≠ b
  bs : ∀ b o, X.base.get? b = some o → X.s₀.heap.get? b = some o ∧ X.H₀ b = none
  bsz : X.base.objs.size ≤ X.s₀.heap.objs.size
  noex : ∀ b o, X.base.get? b = some o → b ∉ X.ex
  exfs : ∀ b ∈ X.ex, b ∉ X.fs
  funs : X.s₀.heap.FunFrames X.base X.outer
  frf : ∀ b ∈ X.fs, X.H₀ b = none
structure Inv (X : Cx) (pins : List (Addr × Obj)) (σ : List (Option V)) (H : Hp) (s : Shared) : Prop where
  ok : X.Ok
  os : s.os = X.s₀.os
  bare : AllBare s.gens
  base : Un X.fs X.ex X.H₀ H X.s₀.heap s.heap
  loc : ∃ m, s.heap.Ns X.env.locals m ∧ ∀ (i : Nat) (x : Str) (v : V), X.N[i]? = some x → σ[i]? = some (some v) → Vis X.env.scope x → ∃ u, RelV v u ∧ Look X.env s.heap m x u
  cell : ∀ x c, X.env.cells.lookup x = some c → ∃ v, s.heap.IsCell c v
  free : H X.env.locals = none
  freeC : ∀ x c, X.env.cells.lookup x = some c → H c = none
  pin : ∀ p ∈ X.pn ++ pins, s.heap.get? p.1 = some p.2 ∧ H p.1 = none ∧ p.1 ≠ X.env.locals ∧ p.1 ∉ X.fs ∧ ∀ v, p.2.data ≠ .cell v
  hok : HOk X.prog X.w H s.heap
  len : σ.length = X.N.length
section
variable {X : Cx} {pins : List (Addr × Obj)} {σ : List (Option V)} {H H' : Hp} {s : Shared} {h' : Heap}
theorem Cx.Ok.nofr (ok : X.Ok) {b : Addr} {o : Obj} (e : X.base.get? b = some o) : b ∉ X.fs := fun hb => by
  have := (ok.funs.mem hb).1
  rw [e] at this; cases this
theorem Inv.bs (I : Inv X pins σ H s) : ∀ b o, X.base.get? b = some o → s.heap.get? b = some o ∧ H b = none := fun b o e =>
  ⟨I.base.keep b o (I.ok.bs b o e).1 (I.ok.bs b o e).2 (I.ok.nofr e) (I.ok.noex b o e), I.base.free b o (I.ok.bs b o e).1 (I.ok.bs b o e).2 (I.ok.noex b o e)⟩
theorem Inv.bk (I : Inv X pins σ H s) : ∀ b o, X.base.get? b = some o → s.heap.get? b = some o := fun b o e => (I.bs b o e).1
theorem Inv.mod (I : Inv X pins σ H s) : Mod X.K X.mg X.base := I.ok.mod
theorem Inv.kIn (I : Inv X pins σ H s) : X.K.In s.heap := I.ok.mod.kin.keeps I.bk
theorem Inv.lt (I : Inv X pins σ H s) : X.env.locals < s.heap.objs.size := let ⟨_, hn, _⟩ := I.loc; hn.lt
theorem Inv.sz (I : Inv X pins σ H s) : X.s₀.heap.objs.size ≤ s.heap.objs.size := Nat.le_trans I.ok.above (Nat.le_of_lt I.lt)
theorem Inv.nofs (I : Inv X pins σ H s) {a : Addr} (h : s.heap.objs.size ≤ a) : a ∉ X.fs := fun hb => by
  obtain ⟨_, o, ho, _⟩ := I.ok.funs.mem hb
  exact absurd (Nat.lt_of_lt_of_le (Heap.lt_size ho) (Nat.le_trans I.sz h)) (Nat.lt_irrefl _)
theorem Inv.cne (I : Inv X pins σ H s) : ∀ x c, X.env.cells.lookup x = some c → c ≠ X.env.locals := fun x c e z => by
  obtain ⟨v, o, ho, hd⟩ := I.cell x c e
  obtain ⟨m, ⟨o', es, ep, ho', hd', _⟩, _⟩ := I.loc
  rw [z, ho'] at ho; cases ho; rw [hd'] at hd; cases hd
theorem Inv.funs (I : Inv X pins σ H s) : s.heap.FunFrames X.base X.outer := by
  have all : ∀ (l : List Env), (∀ b ∈ frs l, b ∈ X.fs) → X.s₀.heap.FunFrames X.base l → s.heap.FunFrames X.base l := by
    intro l
    induction l with
    | nil => intro _ _; trivial
    | cons env r ih =>
      intro hs hl
      obtain ⟨hk, ⟨L, o, hf, hn, ho, hd⟩, hr⟩ := hl
      have hL : L ∈ X.fs := hs L (by unfold frs; rw [List.filterMap_cons, hf]; exact List.mem_cons_self)
      obtain ⟨sl, e⟩ := I.base.slot L o ho (I.ok.frf L hL) hL fun z => I.ok.exfs L z hL
      exact ⟨hk, ⟨L, _, hf, hn, e, hd⟩, ih (fun b hb => hs b (by unfold frs; rw [List.filterMap_cons, hf]; exact List.mem_cons_of_mem _ hb)) hr⟩
  exact all X.outer (fun _ hb => hb) I.ok.funs
theorem Inv.stack (I : Inv X pins σ H s) : s.heap.FunFrames X.base X.stack := by
  rcases I.ok.stk with e | ⟨e, hf⟩
  · rw [e]; exact I.funs
  · rw [e]
    obtain ⟨m, hn, _⟩ := I.loc
    refine .cons (by rw [I.ok.kind]; decide) hf hn ?_ I.funs
    exact Heap.get?_none_of_le (Nat.le_trans I.ok.bsz I.ok.above)
theorem Inv.stkSub (I : Inv X pins σ H s) : ∀ b ∈ frs X.stack, b ∈ X.env.locals :: X.fs := fun b hb => by
  rcases I.ok.stk with e | ⟨e, hf⟩
  · rw [e] at hb; exact List.mem_cons_of_mem _ hb
  · rw [e] at hb
    unfold frs at hb
    rw [List.filterMap_cons, hf] at hb
    exact hb
theorem Inv.stkFree (I : Inv X pins σ H s) : ∀ b ∈ frs X.stack, H b = none := fun b hb => by
  rcases List.mem_cons.mp (I.stkSub b hb) with e | hb
  · rw [e]; exact I.free
  · obtain ⟨_, o, ho, _⟩ := I.ok.funs.mem hb
    exact I.base.free b o ho (I.ok.frf b hb) fun z => I.ok.exfs b z hb
theorem Inv.step {g' : Array GenState} {t' : Nat} {d' : Drawn} {ch : List Addr} (I : Inv X pins σ H s)
    (hch : ∀ b ∈ ch, (b ∈ X.ex ∨ X.s₀.heap.objs.size ≤ b) ∧ b ≠ X.env.locals ∧ (∀ x c, X.env.cells.lookup x = some c → c ≠ b) ∧ ∀ p ∈ X.pn ++ pins, p.1 ≠ b)
    (keep : ∀ b o, b ≠ X.env.locals → b ∉ X.fs → b ∉ ch → s.heap.get? b = some o → H b = none → h'.get? b = some o)
    (slot : ∀ b o, b ≠ X.env.locals → b ∈ X.fs → b ∉ ch → s.heap.get? b = some o → H b = none → ∃ sl, h'.get? b = some { o with slots := sl }) (free : ∀ b o, b ∉ ch → s.heap.get? b = some o → H b = none → H' b = none)
    (there : ∀ b o, b ∉ ch → s.heap.get? b = some o → ∃ o', h'.get? b = some o')
    (tups : ∀ b xs, H b = some (.tup xs) → H' b = some (.tup xs)) (frzs : ∀ b o u, H b = some (.frz o u) → H' b = some (.frz o u)) (tbls : ∀ b ps, H b = some (.tbl ps) → ∃ more, H' b = some (.tbl (ps ++ more)))
    (ns : ∀ m, s.heap.Ns X.env.locals m → h'.Ns X.env.locals m) (hok : HOk X.prog X.w H' h') (hg : AllBare g') :
    Inv X pins σ H' { s with heap := h', gens := g', drawn := d', toks := t' } := by
  have neL : ∀ b o, X.s₀.heap.get? b = some o → b ≠ X.env.locals := fun b o e => Nat.ne_of_lt (Nat.lt_of_lt_of_le (Heap.lt_size e) I.ok.above)
  have neC : ∀ b o, X.s₀.heap.get? b = some o → b ∉ X.ex → b ∉ ch := fun b o e hx hb => by
    rcases (hch b hb).1 with z | z
    · exact hx z
    · exact absurd (Nat.lt_of_lt_of_le (Heap.lt_size e) z) (Nat.lt_irrefl _)
  have cellK : ∀ x c, X.env.cells.lookup x = some c → ∀ v, s.heap.IsCell c v → h'.IsCell c v := fun x c e v ⟨o, ho, hd⟩ => by
    have nch : c ∉ ch := fun z => (hch c z).2.2.1 x c e rfl
    by_cases hc : c ∈ X.fs
    · obtain ⟨sl, q⟩ := slot c o (I.cne x c e) hc nch ho (I.freeC x c e)
      exact ⟨_, q, hd⟩
    · exact ⟨o, keep c o (I.cne x c e) hc nch ho (I.freeC x c e), hd⟩
  refine ⟨I.ok, I.os, hg, ⟨fun b o e n hb hx => ?_, fun b o e n hb hx => ?_, fun b o e n hx => ?_, fun b o e hx => ?_, fun b xs e => tups b xs (I.base.tups b xs e), fun b o xs e => frzs b o xs (I.base.frzs b o xs e), fun b ps e => ?_⟩, ?_, fun x c e => ?_, ?_, fun x c e => ?_, fun p hp => ?_, hok, I.len⟩
  · exact keep b o (neL b o e) hb (neC b o e hx) (I.base.keep b o e n hb hx) (I.base.free b o e n hx)
  · obtain ⟨sl, e1⟩ := I.base.slot b o e n hb hx
    obtain ⟨sl', e2⟩ := slot b _ (neL b o e) hb (neC b o e hx) e1 (I.base.free b o e n hx)
    exact ⟨sl', e2⟩
  · obtain ⟨o', e1⟩ := I.base.there b o e hx
    exact free b o' (neC b o e hx) e1 (I.base.free b o e n hx)
  · obtain ⟨o', e1⟩ := I.base.there b o e hx
    exact there b o' (neC b o e hx) e1
  · obtain ⟨m1, e1⟩ := I.base.tbls b ps e
    obtain ⟨m2, e2⟩ := tbls b _ e1
    exact ⟨m1 ++ m2, by rw [e2, Array.append_assoc]⟩
  · obtain ⟨m, hn, hl⟩ := I.loc
    refine ⟨m, ns m hn, fun i x v e1 e2 e3 => ?_⟩
    obtain ⟨u, r, l⟩ := hl i x v e1 e2 e3
    refine ⟨u, r, ?_⟩
    rcases l with l | ⟨k, c, e, z⟩
    · exact .inl l
    · exact .inr ⟨k, c, e, cellK x c e _ z⟩
  · obtain ⟨v, z⟩ := I.cell x c e
    exact ⟨v, cellK x c e v z⟩
  · obtain ⟨m, ⟨o, _, _, ho, _⟩, _⟩ := I.loc
    exact free _ o (fun z => (hch _ z).2.1 rfl) ho I.free
  · obtain ⟨v, o, ho, hd⟩ := I.cell x c e
    exact free c o (fun z => (hch c z).2.2.1 x c e rfl) ho (I.freeC x c e)
  · obtain ⟨e, n, ne, nf, d⟩ := I.pin p hp
    have nch : p.1 ∉ ch := fun z => (hch p.1 z).2.2.2 p hp rfl
    exact ⟨keep p.1 p.2 ne nf nch e n, free p.1 p.2 nch e n, ne, nf, d⟩
theorem Inv.un {t' : Nat} (I : Inv X pins σ H s) (u : Un X.fs [] H H' s.heap h') (hok : HOk X.prog X.w H' h') : Inv X pins σ H' { s with heap := h', toks := t' } := by
  obtain ⟨m, ⟨o, es, ep, ho, r⟩, _⟩ := id I.loc
  obtain ⟨sl, hL⟩ := u.any ho I.free (by simp)
  exact I.step (g' := s.gens) (d' := s.drawn) (ch := []) (fun _ z => nomatch z) (fun b o _ hb _ e n => u.keep b o e n hb (by simp)) (fun b o _ hb _ e n => u.slot b o e n hb (by simp)) (fun b o _ e n => u.free b o e n (by simp)) (fun b o _ e => u.there b o e (by simp)) u.tups u.frzs u.tbls (fun m' hm => by
    obtain ⟨o', es', ep', ho', r'⟩ := hm
    rw [ho] at ho'; cases ho'
    exact ⟨_, es', ep', hL, r'⟩) hok I.bare
theorem Inv.call {g' : Array GenState} {t' : Nat} {d' : Drawn} {ch : List Addr} (I : Inv X pins σ H s) (u : Un (frs X.stack) ch H H' s.heap h') (hok : HOk X.prog X.w H' h') (hg : AllBare g')
    (hch : ∀ b ∈ ch, (b ∈ X.ex ∨ X.s₀.heap.objs.size ≤ b) ∧ b ≠ X.env.locals ∧ (∀ x c, X.env.cells.lookup x = some c → c ≠ b) ∧ ∀ p ∈ X.pn ++ pins, p.1 ≠ b) :
    Inv X pins σ H' { s with heap := h', gens := g', drawn := d', toks := t' } := by
  obtain ⟨m, ⟨o, es, ep, ho, r⟩, _⟩ := id I.loc
  obtain ⟨sl, hL⟩ := u.any ho I.free fun z => (hch _ z).2.1 rfl
  exact I.step (ch := ch) hch (fun b o hL hb hc e n => u.keep b o e n (fun z => (List.mem_cons.mp (I.stkSub b z)).elim hL hb) hc) (fun b o _ _ hc e n => u.any e n hc) (fun b o hc e n => u.free b o e n hc) (fun b o hc e => u.there b o e hc) u.tups u.frzs u.tbls (fun m' hm => by
    obtain ⟨o', es', ep', ho', r'⟩ := hm
    rw [ho] at ho'; cases ho'
    exact ⟨_, es', ep', hL, r'⟩) hok hg
theorem Inv.turned {t' : Nat} {it : Addr} (I : Inv X pins σ H s) (k : ∀ b o, b ≠ it → s.heap.get? b = some o → h'.get? b = some o) (hn : H it = none) (hL : it ≠ X.env.locals)
    (h1 : it ∈ X.ex ∨ X.s₀.heap.objs.size ≤ it) (h2 : ∀ x c, X.env.cells.lookup x = some c → c ≠ it) (h3 : ∀ p ∈ X.pn ++ pins, p.1 ≠ it) : Inv X pins σ H { s with heap := h', toks := t' } := by
  have nit : ∀ b u, H b = some u → b ≠ it := fun b u e z => by rw [z, hn] at e; cases e
  refine I.step (g' := s.gens) (d' := s.drawn) (ch := [it]) (fun b hb => ?_) (fun b o _ _ hc e _ => k b o (fun z => hc (by simp [z])) e) (fun b o _ _ hc e _ => ⟨o.slots, k b o (fun z => hc (by simp [z])) e⟩) (fun _ _ _ _ n => n)
    (fun b o hc e => ⟨o, k b o (fun z => hc (by simp [z])) e⟩) (fun _ _ e => e) (fun _ _ _ e => e) (fun b ps e => ⟨#[], by rw [e]; simp⟩) (fun m hm => ?_) (fun b u e => ?_) I.bare
  · have e : b = it := by simpa using hb
    subst e
    exact ⟨h1, hL, h2, h3⟩
  · obtain ⟨o, es, ep, ho, r⟩ := hm
    exact ⟨o, es, ep, k _ o (Ne.symm hL) ho, r⟩
  · refine (I.hok b u e).stay (fun c v hc q => k c v ?_ q) (fun _ q => q) fun _ _ q => q
    rcases hc with z | z
    · rw [z]; exact nit b u e
    · exact nit c _ z
theorem Inv.tok (I : Inv X pins σ H s) (t : Nat) : Inv X pins σ H { s with toks := t } := I.un (h' := s.heap) (t' := t) Un.refl I.hok
theorem Inv.kept {t' : Nat} (I : Inv X pins σ H s) (k : ∀ b u, s.heap.get? b = some u → h'.get? b = some u) : Inv X pins σ H { s with heap := h', toks := t' } := I.un (Un.kept k) (I.hok.kept k)
theorem Inv.laid {a : Addr} {o : HO} {t' : Nat} (I : Inv X pins σ H s) (k : ∀ b u, s.heap.get? b = some u → h'.get? b = some u) (hp : s.heap.objs.size ≤ a) (new : ObjOk X.prog X.w (upd H a o) h' a o) :
    Inv X pins σ (upd H a o) { s with heap := h', toks := t' } := I.un (Un.laid k hp (I.hok.fresh hp)) (I.hok.laid k hp new)
theorem Inv.write {x e : Addr} {o : HO} {t' : Nat} (I : Inv X pins σ H s) (mu : Mut (H x)) (he : e = x ∨ H e = some (.own x)) (k : ∀ b u, b ≠ e → s.heap.get? b = some u → h'.get? b = some u) (heo : ∃ u, h'.get? e = some u)
    (new : ObjOk X.prog X.w (upd H x o) h' x o) : Inv X pins σ (upd H x o) { s with heap := h', toks := t' } := I.un (Un.write mu he k heo) (I.hok.write mu he k heo new)
theorem Inv.pins_of {pins' : List (Addr × Obj)} (I : Inv X pins σ H s) (h : ∀ p ∈ pins', s.heap.get? p.1 = some p.2 ∧ H p.1 = none ∧ p.1 ≠ X.env.locals ∧ p.1 ∉ X.fs ∧ ∀ v, p.2.data ≠ .cell v) : Inv X pins' σ H s :=
  ⟨I.ok, I.os, I.bare, I.base, I.loc, I.cell, I.free, I.freeC, fun p hp => (List.mem_append.mp hp).elim (fun z => I.pin p (List.mem_append_left _ z)) (h p), I.hok, I.len⟩
theorem nodup_ix {N : List Str} (hN : N.Nodup) {i j : Nat} {x : Str} (a : N[i]? = some x) (b : N[j]? = some x) : i = j := by
  obtain ⟨h1, e1⟩ := List.getElem?_eq_some_iff.mp a
  obtain ⟨h2, e2⟩ := List.getElem?_eq_some_iff.mp b
  exact (List.getElem_inj hN).mp (e1.trans e2.symm)
theorem store_ok2 {M : Model} {A : Around} {E : Value → Shared → Prop} {i : Nat} {x : Str} {v : V} {u : Value} {Q : Unit → Shared → Prop} (I : Inv X pins σ H s) (hN : X.N.Nodup) (hi : X.N[i]? = some x) (hx : Loc X.env.scope x) (r : RelV v u)
    (h : ∀ s', Inv X pins (σ.set i (some v)) H s' → (∃ a, Heap.SameBut a s.heap s'.heap ∧ (a = X.env.locals ∨ X.env.cells.lookup x = some a)) → Q () s') (hf : X.fn x = true ∨ X.env.scope.names.lookup x = some .local := by first | exact .inl rfl | exact .inr rfl | assumption) : wpAny M A (storeName X.env x u) Q E s := by
  obtain ⟨m, hn, hl⟩ := id I.loc
  have hcls : (X.env.scope.kind == .class || (X.env.scope.kind == .module && X.env.locals != X.env.globals)) = false := by rw [I.ok.kind]; rfl
  have hiσ : i < σ.length := by rw [I.len]; exact (List.getElem?_eq_some_iff.mp hi).1
  have cne := I.cne
  have tracked : ∀ {a : Addr} {h' : Heap}, (∃ o, s.heap.get? a = some o ∧ H a = none) → Heap.SameBut a s.heap h' → HOk X.prog X.w H h' := fun {a h'} ha hs b ob e => by
    obtain ⟨_, _, hfree⟩ := ha
    refine (I.hok b ob e).stay (fun c w' hc q => (hs.2 c ?_).trans q) (fun _ q => q) fun _ _ q => q
    rintro rfl
    rcases hc with rfl | hc
    · rw [hfree] at e; cases e
    · rw [hfree] at hc; cases hc
  rcases hx with hk | hk
  · refine wpAny_storeName_local hk hn (fun h' hn' hs => ?_) hcls
    obtain ⟨oL, _, _, hoL, _⟩ := id hn
    refine h _ ⟨I.ok, I.os, I.bare, ⟨fun b o e n hb hx => ?_, fun b o e n hb hx => ?_, I.base.free, fun b o e hx => ?_, I.base.tups, I.base.frzs, I.base.tbls⟩, ⟨_, hn', fun j y v' e1 e2 e3 => ?_⟩, fun y c e => ?_, I.free, I.freeC, fun p hp => ?_, tracked ⟨oL, hoL, I.free⟩ hs, by simpa using I.len⟩ ⟨_, hs, .inl rfl⟩
    · exact (hs.2 b (Nat.ne_of_lt (Nat.lt_of_lt_of_le (Heap.lt_size e) I.ok.above))).trans (I.base.keep b o e n hb hx)
    · obtain ⟨sl, e1⟩ := I.base.slot b o e n hb hx
      exact ⟨sl, (hs.2 b (Nat.ne_of_lt (Nat.lt_of_lt_of_le (Heap.lt_size e) I.ok.above))).trans e1⟩
    · obtain ⟨o', e1⟩ := I.base.there b o e hx
      exact ⟨o', (hs.2 b (Nat.ne_of_lt (Nat.lt_of_lt_of_le (Heap.lt_size e) I.ok.above))).trans e1⟩
    · by_cases hj : j = i
      · subst hj
        rw [hi] at e1; cases e1
        rw [List.getElem?_set_self hiσ] at e2
        cases e2
        exact ⟨u, r, .inl ⟨hk, by simp⟩⟩
      · rw [List.getElem?_set_ne (Ne.symm hj)] at e2
        obtain ⟨u', r', q⟩ := hl j y v' e1 e2 e3
        refine ⟨u', r', ?_⟩
        rcases q with ⟨k, e⟩ | ⟨k, c, e, z⟩
        · refine .inl ⟨k, ?_⟩
          have : y ≠ x := fun e => hj (nodup_ix hN e1 (e ▸ hi))
          simp [this, e]
        · exact .inr ⟨k, c, e, z.sameBut hs (cne y c e)⟩
    · obtain ⟨w', z⟩ := I.cell y c e
      exact ⟨w', z.sameBut hs (cne y c e)⟩
    · obtain ⟨e, n, ne, nf, d⟩ := I.pin p hp
      exact ⟨(hs.2 p.1 ne).trans e, n, ne, nf, d⟩
  · have hfn : X.fn x = true := by
      rcases hf with z | z
      · exact z
      · rw [z] at hk; cases hk
    obtain ⟨c, hc⟩ := I.ok.has x (.inl hk)
    obtain ⟨w', z⟩ := I.cell x c hc
    refine wpAny_storeName_cell I.ok.kind hk hc z (fun h' hc' hs => ?_)
    obtain ⟨oc, hoc, hocd⟩ := id z
    refine h { s with heap := h' } ⟨I.ok, I.os, I.bare, ⟨fun b o e n hb hx => ?_, fun b o e n hb hx => ?_, I.base.free, fun b o e hx => ?_, I.base.tups, I.base.frzs, I.base.tbls⟩, ⟨m, hn.sameBut hs (Ne.symm (cne x c hc)), fun j y v' e1 e2 e3 => ?_⟩, fun y c' e => ?_, I.free, I.freeC, fun p hp => ?_, tracked ⟨oc, hoc, I.freeC x c hc⟩ hs, by simpa using I.len⟩ ⟨c, hs, .inr hc⟩
    · exact (hs.2 b (Nat.ne_of_lt (Nat.lt_of_lt_of_le (Heap.lt_size e) (I.ok.cab x c hfn hc)))).trans (I.base.keep b o e n hb hx)
    · obtain ⟨sl, e1⟩ := I.base.slot b o e n hb hx
      exact ⟨sl, (hs.2 b (Nat.ne_of_lt (Nat.lt_of_lt_of_le (Heap.lt_size e) (I.ok.cab x c hfn hc)))).trans e1⟩
    · obtain ⟨o', e1⟩ := I.base.there b o e hx
      exact ⟨o', (hs.2 b (Nat.ne_of_lt (Nat.lt_of_lt_of_le (Heap.lt_size e) (I.ok.cab x c hfn hc)))).trans e1⟩
    · by_cases hj : j = i
      · subst hj
        rw [hi] at e1; cases e1
        rw [List.getElem?_set_self hiσ] at e2
        cases e2
        exact ⟨u, r, .inr ⟨.inl hk, c, hc, hc'⟩⟩
      · rw [List.getElem?_set_ne (Ne.symm hj)] at e2
        obtain ⟨u', r', q⟩ := hl j y v' e1 e2 e3
        refine ⟨u', r', ?_⟩
        rcases q with q | ⟨k, c', e, z'⟩
        · exact .inl q
        · refine .inr ⟨k, c', e, z'.sameBut hs ?_⟩
          rintro rfl
          exact hj (nodup_ix hN e1 (I.ok.inj _ _ _ e hc ▸ hi))
    · by_cases hcc : c' = c
      · subst hcc; exact ⟨_, hc'⟩
      · obtain ⟨w2, z2⟩ := I.cell y c' e
        exact ⟨w2, z2.sameBut hs hcc⟩
    · obtain ⟨e, n, ne, nf, d⟩ := I.pin p hp
      refine ⟨(hs.2 p.1 ?_).trans e, n, ne, nf, d⟩
      intro q
      rw [q, hoc] at e
      have q' : oc = p.2 := Option.some.inj e
      exact d w' (by rw [← q']; exact hocd)
theorem store_ok {M : Model} {A : Around} {E : Value → Shared → Prop} {i : Nat} {x : Str} {v : V} {u : Value} {Q : Unit → Shared → Prop} (I : Inv X pins σ H s) (hN : X.N.Nodup) (hi : X.N[i]? = some x) (hx : Loc X.env.scope x) (r : RelV v u)
    (h : ∀ s', Inv X pins (σ.set i (some v)) H s' → Q () s') (hf : X.fn x = true ∨ X.env.scope.names.lookup x = some .local := by first | exact .inl rfl | exact .inr rfl | assumption) : wpAny M A (storeName X.env x u) Q E s :=
  store_ok2 I hN hi hx r (fun s' I' _ => h s' I') hf
theorem Inv.call' {s' : Shared} {ch : List Addr} (I : Inv X pins σ H s) (ho : s'.os = s.os) (u : Un (frs X.stack) ch H H' s.heap s'.heap) (hok : HOk X.prog X.w H' s'.heap) (hg : AllBare s'.gens)
    (hch : ∀ b ∈ ch, (b ∈ X.ex ∨ X.s₀.heap.objs.size ≤ b) ∧ b ≠ X.env.locals ∧ (∀ x c, X.env.cells.lookup x = some c → c ≠ b) ∧ ∀ p ∈ X.pn ++ pins, p.1 ≠ b) : Inv X pins σ H' s' := by
  obtain ⟨h', g', d', t', o'⟩ := s'
  have e : o' = s.os := ho
  subst e
  exact I.call (g' := g') (t' := t') (d' := d') u hok hg hch
end
abbrev XK := Value → Option Addr → Hp → Prop
abbrev St := List (Option V)
abbrev VK := V → Hp → Prop
abbrev TE := St → Hp → VK → Prop
abbrev TT := St → Hp → (Bool → Hp → Prop) → Prop
abbrev TA := St → Hp → (List V → Hp → Prop) → Prop
structure Ends where
  nx : St → Hp → Prop
  rt : VK
  bk : St → Hp → Prop := fun _ _ => False
  ct : St → Hp → Prop := fun _ _ => False
abbrev TS := Ends → St → Hp → Prop
def EP (X : Cx) (pins : List (Addr × Obj)) (σ : St) (Q : VK) (u : Value) (s' : Shared) : Prop := ∃ v H', Inv X pins σ H' s' ∧ RelV v u ∧ Q v H'
def TP (X : Cx) (pins : List (Addr × Obj)) (σ : St) (Q : Bool → Hp → Prop) (b : Bool) (s' : Shared) : Prop := ∃ H', Inv X pins σ H' s' ∧ Q b H'
def AP (X : Cx) (pins : List (Addr × Obj)) (σ : St) (Q : List V → Hp → Prop) (us : List Value) (s' : Shared) : Prop := ∃ vs H', Inv X pins σ H' s' ∧ Vals vs us ∧ Q vs H'
def SP (X : Cx) (pins : List (Addr × Obj)) (D : Ends) (f : Flow) (s' : Shared) : Prop :=
  match f with
  | .next => ∃ σ' H', Inv X pins σ' H' s' ∧ D.nx σ' H'
  | .brk => ∃ σ' H', Inv X pins σ' H' s' ∧ D.bk σ' H'
  | .cont => ∃ σ' H', Inv X pins σ' H' s' ∧ D.ct σ' H'
  | .ret u => ∃ v σ' H', Inv X pins σ' H' s' ∧ RelV v u ∧ D.rt v H'
def PE (X : Cx) (e : Expr) (t : TE) : Prop :=
  ∀ (pins : List (Addr × Obj)) (s : Shared) (σ : St) (H : Hp) (Q : VK), Inv X pins σ H s → t σ H Q → wpAny (model X.prog X.w) X.A (eval e X.env) (EP X pins σ Q) X.xe s
def PT (X : Cx) (e : Expr) (t : TT) : Prop :=
  ∀ (pins : List (Addr × Obj)) (s : Shared) (σ : St) (H : Hp) (Q : Bool → Hp → Prop), Inv X pins σ H s → t σ H Q → wpAny (model X.prog X.w) X.A (isTrue e X.env (eval e X.env)) (TP X pins σ Q) X.xe s
def PW (X : Cx) (e : Expr) (t : TT) : Prop :=
  ∀ (whole : Sem Value) (pins : List (Addr × Obj)) (s : Shared) (σ : St) (H : Hp) (Q : Bool → Hp → Prop), Inv X pins σ H s → t σ H Q → wpAny (model X.prog X.w) X.A (isTrue e X.env whole) (TP X pins σ Q) X.xe s
theorem PW.pt {X : Cx} {e : Expr} {t : TT} (h : PW X e t) : PT X e t := h _
def PA (X : Cx) (es : List Expr) (t : TA) : Prop :=
  ∀ (pos : Pos) (pins : List (Addr × Obj)) (s : Shared) (σ : St) (H : Hp) (Q : List V → Hp → Prop), Inv X pins σ H s → t σ H Q → wpAny (model X.prog X.w) X.A (spliced (backTo pos (starEach es X.env))) (AP X pins σ Q) X.xe s
def PS (X : Cx) (st : Stmt) (t : TS) : Prop :=
  ∀ (pins : List (Addr × Obj)) (s : Shared) (σ : St) (H : Hp) (D : Ends), Inv X pins σ H s → t D σ H → wpAny (model X.prog X.w) X.A (exec st X.env) (SP X pins D) X.xe s
def PSs (X : Cx) (st : List Stmt) (t : TS) : Prop :=
  ∀ (pins : List (Addr × Obj)) (s : Shared) (σ : St) (H : Hp) (D : Ends), Inv X pins σ H s → t D σ H → wpAny (model X.prog X.w) X.A (execs st X.env) (SP X pins D) X.xe s
theorem thn {α : Type} {t : Sem α} {Q Q' : α → Shared → Prop} {M : Model} {A : Around} {E : Value → Shared → Prop} {s : Shared} (h : wpAny M A t Q E s) (hQ : ∀ a s, Q a s → Q' a s) : wpAny M A t Q' E s := wpAny_mono h hQ fun _ _ x => x
end L2
namespace L2
open PySem PySem.Spec PyProof.Rows
section
variable {X : Cx}
theorem bin {a b : Expr} {ta tb : TE} (ha : PE X a ta) (hb : PE X b tb) {pins : List (Addr × Obj)} {s : Shared} {σ : St} {H : Hp} {R : V → V → Hp → Prop} (I : Inv X pins σ H s) (h : ta σ H fun x H1 => tb σ H1 fun y H2 => R x y H2)
    {α : Type} {Q : α → Shared → Prop} {f : Value → Value → Sem α}
    (hf : ∀ v u s2 x y H2, Inv X pins σ H2 s2 → RelV x v → RelV y u → R x y H2 → wpAny (model X.prog X.w) X.A (f v u) Q X.xe s2) :
    wpAny (model X.prog X.w) X.A (eval a X.env) (fun v s₁ => wpAny (model X.prog X.w) X.A (eval b X.env) (fun u s₂ => wpAny (model X.prog X.w) X.A (f v u) Q X.xe s₂) X.xe s₁) X.xe s := by
  refine thn (ha pins s σ H _ I h) fun v s1 ⟨x, H1, I1, r1, q1⟩ => ?_
  refine thn (hb pins s1 σ H1 _ I1 q1) fun u s2 ⟨y, H2, I2, r2, q2⟩ => ?_
  exact hf v u s2 x y H2 I2 r1 r2 q2
def tVar (i : Nat) : TE := fun σ H Q => ∃ v, σ[i]? = some (some v) ∧ Q v H
def tC (v : V) : TE := fun _ H Q => Q v H
theorem pe_var {i : Nat} {x : Str} {pos : Pos} (hN : X.N[i]? = some x) (hv : Vis X.env.scope x) (hd : (x == ("__debug__" : Str)) = false := by decide) (hcd : (x == ("__classdict__" : Str)) = false := by decide) : PE X (.Name x pos) (tVar i) := by
  intro pins s σ H Q I h
  obtain ⟨v, e, h⟩ := h
  obtain ⟨m, hn, hl⟩ := I.loc
  obtain ⟨u, r, l⟩ := hl i x v hN e hv
  have fin : EP X pins σ Q u s := ⟨v, H, I, r, h⟩
  rcases l with ⟨hk, hm⟩ | ⟨hk, c, hc, hcell⟩
  · exact wpAny_Name (wpAny_loadName_local I.ok.kind hk hn hm fin) hd
  · rcases hk with hk | hk
    · exact wpAny_Name (wpAny_loadName_cell I.ok.kind hk hc hcell fin) hd
    · exact wpAny_Name (wpAny_loadName_free I.ok.kind hk hc hcell fin hcd) hd
theorem pe_int {i j pos} : PE X (.Constant (.int i) j pos) (tC (.int i)) := fun _ _ _ H _ I h => wpAny_Constant_int ⟨.int i, H, I.tok _, ⟨_, rfl⟩, h⟩
theorem pe_bl {b j pos} : PE X (.Constant (.bool b) j pos) (tC (.bl b)) := fun _ _ _ H _ I h => Constant_bool ⟨.bl b, H, I, rfl, h⟩
def Gl (X : Cx) (x : Str) : Prop := X.env.kindOf x = some .globalImplicit
theorem ld_glob {E : Value → Shared → Prop} {pins : List (Addr × Obj)} {s : Shared} {σ : St} {H : Hp} {x : Str} {u : Value} {pos : Pos} {Q : Value → Shared → Prop} (I : Inv X pins σ H s) (hg : Gl X x) (hm : X.mg x = some u) (h : Q u s)
    (hd : (x == ("__debug__" : Str)) = false := by decide) : wpAny (model X.prog X.w) X.A (eval (.Name x pos) X.env) Q E s :=
  Calls.Name_function_global I.ok.kind hg (Calls.loadGlobal_global (by rw [I.ok.glob]; exact I.mod.glob.keeps I.bk) hm h) hd
theorem ld_blt {E : Value → Shared → Prop} {pins : List (Addr × Obj)} {s : Shared} {σ : St} {H : Hp} {x : Str} {u : Value} {pos : Pos} {Q : Value → Shared → Prop} (I : Inv X pins σ H s) (hg : Gl X x) (hm : X.mg x = none) (hv : bootBuiltins x = some u) (h : Q u s)
    (hn : x ≠ "__name__" := by decide) (hd : (x == ("__debug__" : Str)) = false := by decide) : wpAny (model X.prog X.w) X.A (eval (.Name x pos) X.env) Q E s := by
  obtain ⟨mb, h1, h2⟩ := I.mod.blt
  exact Calls.Name_function_global I.ok.kind hg (Calls.loadGlobal_builtin (by rw [I.ok.glob]; exact I.mod.glob.keeps I.bk) hm (by rw [I.ok.blt]; exact h1.keeps I.bk) ((h2 x hn).trans hv) h) hd
theorem pe_glob {x : Str} {v : V} {u : Value} {pos : Pos} (hg : Gl X x) (hm : X.mg x = some u) (r : RelV v u) (hd : (x == ("__debug__" : Str)) = false := by decide) : PE X (.Name x pos) (tC v) :=
  fun _ _ _ H _ I h => ld_glob I hg hm ⟨v, H, I, r, h⟩ hd
theorem pe_bltn {x : Str} {v : V} {u : Value} {pos : Pos} (hg : Gl X x) (hm : X.mg x = none) (hv : bootBuiltins x = some u) (r : RelV v u) (hn : x ≠ "__name__" := by decide) (hd : (x == ("__debug__" : Str)) = false := by decide) : PE X (.Name x pos) (tC v) :=
  fun _ _ _ H _ I h => ld_blt I hg hm hv ⟨v, H, I, r, h⟩ hn hd
variable {a b : Expr} {ta tb : TE} {pos : Pos}
def PC (X : Cx) (op : CmpOp) (a b : Expr) (t : TE) : Prop :=
  ∀ (pins : List (Addr × Obj)) (s : Shared) (σ : St) (H : Hp) (Q : VK), Inv X pins σ H s → t σ H Q →
    wpAny (model X.prog X.w) X.A (eval a X.env) (fun v s₁ => wpAny (model X.prog X.w) X.A (eval b X.env) (fun u s₂ => wpAny (model X.prog X.w) X.A (compareOp op v u) (EP X pins σ Q) X.xe s₂) X.xe s₁) X.xe s
def tB (t : TE) : TT := fun σ H Q => t σ H fun x H1 => ∃ c, x = .bl c ∧ Q c H1
theorem pt_cmp {op : CmpOp} {t : TE} (h : PC X op a b t) (h1 : behindInMarks op b = false := by first | exact nobehind _ (by decide) (by decide) | rfl) : PT X (.Compare a [op] [b] pos) (tB t) := by
  intro pins s σ H Q I hw
  refine wpAny_isTrue_Compare1 (thn (h pins s σ H _ I hw) fun v s1 h1 => thn h1 fun u s2 h2 => thn h2 fun c s3 ⟨x, H1, I1, r1, q1⟩ => ?_) h1
  obtain ⟨d, rfl, q⟩ := q1
  cases r1
  exact wpAny_truthy_bool ⟨H1, I1, q⟩
variable {tA tB' : TT} {rest : List Expr}
def tAnd (t u : TT) : TT := fun σ H Q => t σ H fun c H1 => if c = true then u σ H1 Q else Q false H1
def tOr (t u : TT) : TT := fun σ H Q => t σ H fun c H1 => if c = true then Q true H1 else u σ H1 Q
def tNot (t : TT) : TT := fun σ H Q => t σ H fun c H1 => Q (!c) H1
theorem pw_and1 (ha : PT X a tA) : PW X (.BoolOp .And [a] pos) tA := by
  intro wh pins s σ H Q I h
  refine isTrue_and (thn (ha pins s σ H Q I h) fun c s1 e => ?_)
  cases c with
  | true => exact isTrue_and_nil e
  | false => exact e
theorem pw_or1 (ha : PT X a tA) : PW X (.BoolOp .Or [a] pos) tA := by
  intro wh pins s σ H Q I h
  refine isTrue_or (thn (ha pins s σ H Q I h) fun c s1 e => ?_)
  cases c with
  | false => exact isTrue_or_nil e
  | true => exact e
theorem pw_and (ha : PT X a tA) (hb : PW X (.BoolOp .And (b :: rest) pos) tB') : PW X (.BoolOp .And (a :: b :: rest) pos) (tAnd tA tB') := by
  intro wh pins s σ H Q I h
  refine isTrue_and (thn (ha pins s σ H _ I h) fun c s1 ⟨H1, I1, q1⟩ => ?_)
  cases c with
  | true => exact hb wh pins s1 σ H1 Q I1 q1
  | false => exact ⟨H1, I1, q1⟩
theorem pw_or (ha : PT X a tA) (hb : PW X (.BoolOp .Or (b :: rest) pos) tB') : PW X (.BoolOp .Or (a :: b :: rest) pos) (tOr tA tB') := by
  intro wh pins s σ H Q I h
  refine isTrue_or (thn (ha pins s σ H _ I h) fun c s1 ⟨H1, I1, q1⟩ => ?_)
  cases c with
  | true => exact ⟨H1, I1, q1⟩
  | false => exact hb wh pins s1 σ H1 Q I1 q1
theorem pt_not (ha : PT X a tA) : PT X (.UnaryOp .Not a pos) (tNot tA) := by
  intro pins s σ H Q I h
  exact isTrue_not (ha pins s σ H (fun c H1 => Q (!c) H1) I h)
def tIf (t : TT) (ta tb : TE) : TE := fun σ H Q => t σ H fun c H1 => if c = true then ta σ H1 Q else tb σ H1 Q
theorem pe_ifExp {c : Expr} (hc : PT X c tA) (ha : PE X a ta) (hb : PE X b tb) : PE X (.IfExp c a b pos) (tIf tA ta tb) := by
  intro pins s σ H Q I h
  refine wpAny_IfExp (thn (hc pins s σ H _ I h) fun d s1 ⟨H1, I1, q1⟩ => ?_)
  cases d with
  | true => exact ha pins s1 σ H1 Q I1 q1
  | false => exact hb pins s1 σ H1 Q I1 q1
end
end L2
namespace L2
open PySem PySem.Spec PyProof.Rows
def SqL (K : PySem.W.Frag) (H : Hp) (a : Addr) (xs : List V) : Prop :=
  Rd H a (.lst xs) ∨
    ∃ (o : Obj) (its : Array Value) (n : Nat), K.lookup a = some o ∧ o.cls = .type "list" ∧ o.dict = none ∧ o.data = .seq its n ∧ its.size ≤ sizeLine ∧ Vals xs its.toList
def SqT (K : PySem.W.Frag) (H : Hp) (a : Addr) (xs : List V) : Prop :=
  Rd H a (.tup xs) ∨
    ∃ (o : Obj) (its : Array Value) (n : Nat), K.lookup a = some o ∧ o.cls = .type "tuple" ∧ o.data = .seq its n ∧ its.size ≤ sizeLine ∧ Vals xs its.toList
def absV : Value → Option V
  | .none => some .non
  | .bool b => some (.bl b)
  | .int i _ => some (.int i)
  | .str x _ => some (.str x)
  | .bytes b _ => some (.byt b)
  | .float b _ => some (.flt b)
  | .ref a => some (.ref a)
  | .type n => some (.ty n)
  | _ => none
theorem RelV.abs {x : V} {u : Value} (r : RelV x u) : absV u = some x := by
  cases x with
  | non => cases r; rfl
  | bl _ => cases r; rfl
  | int _ => obtain ⟨t, rfl⟩ := r; rfl
  | str _ => obtain ⟨t, rfl⟩ := r; rfl
  | byt _ => obtain ⟨t, rfl⟩ := r; rfl
  | flt _ => obtain ⟨t, rfl⟩ := r; rfl
  | ref _ => cases r; rfl
  | ty _ => cases r; rfl
theorem RelV.inj {x y : V} {u : Value} (r : RelV x u) (q : RelV y u) : x = y := Option.some.inj (r.abs.symm.trans q.abs)
theorem Vals.inj : ∀ {xs ys : List V} {us : List Value}, Vals xs us → Vals ys us → xs = ys
  | _, _, _, .nil, .nil => rfl
  | _, _, _, .cons r t, .cons r' t' => by rw [r.inj r', Vals.inj t t']
section
variable {X : Cx} {pins : List (Addr × Obj)} {σ : St} {H : Hp} {s : Shared} {a : Addr} {xs ys : List V}
theorem SqL.of {K : PySem.W.Frag} (h : H a = some (.lst xs)) : SqL K H a xs := .inl (.inl h)
theorem SqT.of {K : PySem.W.Frag} (h : H a = some (.tup xs)) : SqT K H a xs := .inl (.inl h)
theorem Inv.list (I : Inv X pins σ H s) (h : SqL X.K H a xs) : ∃ its : List Value, Vals xs its ∧ PlainL s.heap a its.toArray ∧ xs.length ≤ sizeLine := by
  rcases h with h | ⟨o, its, n, hk, hc, hd, hs, hz, r⟩
  · obtain ⟨z, its, n, r, e⟩ := h.ok I.hok
    exact ⟨its, r, ⟨_, n, e, rfl, rfl, rfl⟩, z⟩
  · refine ⟨its.toList, r, ⟨o, n, I.kIn a o hk, hc, hd, by simpa using hs⟩, ?_⟩
    have e := r.length
    simp only [Array.length_toList] at e
    omega
theorem Inv.tuple (I : Inv X pins σ H s) (h : SqT X.K H a xs) : ∃ its : List Value, Vals xs its ∧ IsTup s.heap a its.toArray ∧ xs.length ≤ sizeLine := by
  rcases h with h | ⟨o, its, n, hk, hc, hs, hz, r⟩
  · obtain ⟨z, its, r, p⟩ := h.ok I.hok
    exact ⟨its, r, p.tup, z⟩
  · refine ⟨its.toList, r, ⟨o, I.kIn a o hk, hc, n, by simpa using hs⟩, ?_⟩
    have e := r.length
    simp only [Array.length_toList] at e
    omega
theorem Inv.list_inj (I : Inv X pins σ H s) (h : SqL X.K H a xs) (h' : SqL X.K H a ys) : xs = ys := by
  obtain ⟨its, r, ⟨o, n, e, _, _, d⟩, _⟩ := I.list h
  obtain ⟨its', r', ⟨o', n', e', _, _, d'⟩, _⟩ := I.list h'
  rw [e] at e'; cases e'
  rw [d] at d'
  injection d' with d1 _
  have : its = its' := by simpa using congrArg Array.toList d1
  subst this
  exact r.inj r'
theorem Inv.tuple_inj (I : Inv X pins σ H s) (h : SqT X.K H a xs) (h' : SqT X.K H a ys) : xs = ys := by
  obtain ⟨its, r, ⟨o, e, _, n, d⟩, _⟩ := I.tuple h
  obtain ⟨its', r', ⟨o', e', _, n', d'⟩, _⟩ := I.tuple h'
  rw [e] at e'; cases e'
  rw [d] at d'
  injection d' with d1 _
  have : its = its' := by simpa using congrArg Array.toList d1
  subst this
  exact r.inj r'
end
abbrev Cx.wish (X : Cx) (E : Value → Shared → Prop) : Cx := { X with xe := E }
abbrev Cx.nox (X : Cx) : Cx := X.wish fun _ _ => False
theorem Cx.Ok.wish {X : Cx} (ok : X.Ok) (E : Value → Shared → Prop) : (X.wish E).Ok :=
  ⟨ok.mod, ok.kind, ok.glob, ok.blt, ok.above, ok.inj, ok.has, ok.cab, ok.hd, ok.frames, ok.stk, ok.exf, ok.bs, ok.bsz, ok.noex, ok.exfs, ok.funs, ok.frf⟩
theorem Cx.Ok.unwish {X : Cx} {E : Value → Shared → Prop} (ok : (X.wish E).Ok) : X.Ok :=
  ⟨ok.mod, ok.kind, ok.glob, ok.blt, ok.above, ok.inj, ok.has, ok.cab, ok.hd, ok.frames, ok.stk, ok.exf, ok.bs, ok.bsz, ok.noex, ok.exfs, ok.funs, ok.frf⟩
section
variable {X : Cx} {pins : List (Addr × Obj)} {σ : St} {H : Hp} {s : Shared} {E : Value → Shared → Prop}
theorem Inv.wish (I : Inv X pins σ H s) (E : Value → Shared → Prop) : Inv (X.wish E) pins σ H s := ⟨I.ok.wish E, I.os, I.bare, I.base, I.loc, I.cell, I.free, I.freeC, I.pin, I.hok, I.len⟩
theorem Inv.unwish (I : Inv (X.wish E) pins σ H s) : Inv X pins σ H s := ⟨I.ok.unwish, I.os, I.bare, I.base, I.loc, I.cell, I.free, I.freeC, I.pin, I.hok, I.len⟩
theorem SP.unwish {D : Ends} {f : Flow} {s' : Shared} (h : SP (X.wish E) pins D f s') : SP X pins D f s' := by
  cases f with
  | next => obtain ⟨σ', H', I, q⟩ := h; exact ⟨σ', H', I.unwish, q⟩
  | brk => obtain ⟨σ', H', I, q⟩ := h; exact ⟨σ', H', I.unwish, q⟩
  | cont => obtain ⟨σ', H', I, q⟩ := h; exact ⟨σ', H', I.unwish, q⟩
  | ret u => obtain ⟨v, σ', H', I, r, q⟩ := h; exact ⟨v, σ', H', I.unwish, r, q⟩
theorem PE.nox {e : Expr} {t : TE} (h : PE X.nox e t) : PE X e t := fun pins s σ H Q I hw =>
  wpAny_mono (h pins s σ H Q (I.wish _) hw) (fun _ _ ⟨v, H', I', r, q⟩ => ⟨v, H', I'.unwish, r, q⟩) fun _ _ z => False.elim z
theorem PT.nox {e : Expr} {t : TT} (h : PT X.nox e t) : PT X e t := fun pins s σ H Q I hw =>
  wpAny_mono (h pins s σ H Q (I.wish _) hw) (fun _ _ ⟨H', I', q⟩ => ⟨H', I'.unwish, q⟩) fun _ _ z => False.elim z
theorem PSs.nox {st : List Stmt} {t : TS} (h : PSs X.nox st t) : PSs X st t := fun pins s σ H D I hw =>
  wpAny_mono (h pins s σ H D (I.wish _) hw) (fun _ _ q => q.unwish) fun _ _ z => False.elim z
end
section
variable {X : Cx} {st : Stmt} {rest : List Stmt} {t u : TS} {e : Expr} {te : TE} {pos : Pos}
def tNext : TS := fun D σ H => D.nx σ H
def tSeq (t u : TS) : TS := fun D σ H => t { D with nx := u D } σ H
theorem pss_nil : PSs X [] tNext := fun _ _ σ H _ I h => wpAny_execs_nil ⟨σ, H, I, h⟩
theorem pss_cons (h1 : PS X st t) (h2 : PSs X rest u) : PSs X (st :: rest) (tSeq t u) := by
  intro pins s σ H D I h
  refine wpAny_execs_cons (thn (h1 pins s σ H { D with nx := u D } I h) fun f s1 q => ?_)
  cases f with
  | next =>
    obtain ⟨σ', H', I', q⟩ := q
    exact h2 pins s1 σ' H' D I' q
  | ret v => exact q
  | brk => exact q
  | cont => exact q
theorem pss_one (h1 : PS X st t) : PSs X [st] t := by
  intro pins s σ H D I h
  refine wpAny_execs_cons (thn (h1 pins s σ H D I h) fun f s1 q => ?_)
  cases f with
  | next => exact wpAny_execs_nil q
  | ret v => exact q
  | brk => exact q
  | cont => exact q
theorem Inv.quiet {pins : List (Addr × Obj)} {σ : St} {H : Hp} {s : Shared} (I : Inv X pins σ H s) : interactive X.env = false := by simp [interactive, I.ok.kind]
def tDrop (te : TE) : TS := fun D σ H => te σ H fun _ H1 => D.nx σ H1
theorem ps_expr (he : PE X e te) (hs : swapsWith e none pos.line X.env = pure false := by rfl) : PS X (.Expr e pos) (tDrop te) := by
  intro pins s σ H D I h
  exact wpAny_Expr_any (thn (he pins s σ H _ I h) fun v s1 ⟨x, H1, I1, r1, q1⟩ => ⟨σ, H1, I1, q1⟩) I.quiet hs
def tRet (te : TE) : TS := fun D σ H => te σ H D.rt
theorem ps_ret (he : PE X e te) : PS X (.Return (some e) pos) (tRet te) := by
  intro pins s σ H D I h
  exact wpAny_Return_some (thn (he pins s σ H _ I h) fun v s1 ⟨x, H1, I1, r1, q1⟩ => ⟨x, σ, H1, I1, r1, q1⟩)
def tIfS (c : TT) (t u : TS) : TS := fun D σ H => c σ H fun b H1 => if b = true then t D σ H1 else u D σ H1
theorem ps_if {c : Expr} {a b : List Stmt} {tc : TT} (hc : PT X c tc) (ha : PSs X a t) (hb : PSs X b u) : PS X (.If c a b pos) (tIfS tc t u) := by
  intro pins s σ H D I h
  refine wpAny_If (thn (hc pins s σ H _ I h) fun d s1 ⟨H1, I1, q1⟩ => ?_)
  cases d with
  | true => exact ha pins s1 σ H1 D I1 q1
  | false => exact hb pins s1 σ H1 D I1 q1
end
abbrev TG := V → St → Hp → (St → Hp → Prop) → Prop
abbrev TGs := List V → St → Hp → (St → Hp → Prop) → Prop
def PG (X : Cx) (target : Expr) (t : TG) : Prop :=
  ∀ (pins : List (Addr × Obj)) (s : Shared) (σ : St) (H : Hp) (v : V) (u : Value) (Q : St → Hp → Prop), Inv X pins σ H s → RelV v u → t v σ H Q →
    wpAny (model X.prog X.w) X.A (assign target X.env u) (fun _ s' => ∃ σ' H', Inv X pins σ' H' s' ∧ Q σ' H') X.xe s
def PGs (X : Cx) (ts : List Expr) (t : TGs) : Prop :=
  ∀ (pins : List (Addr × Obj)) (s : Shared) (σ : St) (H : Hp) (vs : List V) (us : List Value) (Q : St → Hp → Prop), Inv X pins σ H s → Vals vs us → t vs σ H Q →
    wpAny (model X.prog X.w) X.A (assignInOrder ((assignEach ts X.env).map (·.2)) us) (fun _ s' => ∃ σ' H', Inv X pins σ' H' s' ∧ Q σ' H') X.xe s
abbrev TSet := V → V → V → Hp → (Hp → Prop) → Prop
def PSet (X : Cx) (t : TSet) : Prop :=
  ∀ (pins : List (Addr × Obj)) (s : Shared) (σ : St) (H : Hp) (o i v : V) (ov iv u : Value) (Q : Hp → Prop), Inv X pins σ H s → RelV o ov → RelV i iv → RelV v u → t o i v H Q →
    wpAny (model X.prog X.w) X.A (setItem ov iv u) (fun _ s' => ∃ H', Inv X pins σ H' s' ∧ Q H') X.xe s
section
variable {X : Cx} {pos : Pos}
def gName (i : Nat) : TG := fun v σ H Q => Q (σ.set i (some v)) H
theorem pg_name {i : Nat} {x : Str} (hN : X.N.Nodup) (hi : X.N[i]? = some x) (hx : Loc X.env.scope x) (hf : X.fn x = true ∨ X.env.scope.names.lookup x = some .local := by first | exact .inl rfl | exact .inr rfl | assumption) : PG X (.Name x pos) (gName i) := by
  intro pins s σ H v u Q I r h
  exact wpAny_assign_Name (store_ok I hN hi hx r (fun s' I' => ⟨_, H, I', h⟩) hf)
def gNil : TGs := fun vs σ H Q => vs = [] ∧ Q σ H
def gCons (t : TG) (u : TGs) : TGs := fun vs σ H Q => ∃ v r, vs = v :: r ∧ t v σ H fun σ' H' => u r σ' H' Q
theorem pgs_nil : PGs X [] gNil := by
  intro pins s σ H vs us Q I r h
  obtain ⟨e, h⟩ := h
  subst e
  cases r
  exact assignInOrder_nil ⟨σ, H, I, h⟩
theorem pgs_cons {e : Expr} {es : List Expr} {t : TG} {u : TGs} (h1 : PG X e t) (h2 : PGs X es u)
    (hs : (assignEach (e :: es) X.env).map (·.2) = assign e X.env :: (assignEach es X.env).map (·.2) := by rfl) : PGs X (e :: es) (gCons t u) := by
  intro pins s σ H vs us Q I r h
  obtain ⟨v, vr, e1, h⟩ := h
  subst e1
  cases r with
  | cons r rr =>
    rw [hs]
    refine assignInOrder_cons (thn (h1 pins s σ H _ _ _ I r h) fun _ s1 ⟨σ1, H1, I1, q1⟩ => ?_)
    exact h2 pins s1 σ1 H1 _ _ Q I1 rr q1
def gTup (K : PySem.W.Frag) (n : Nat) (t : TGs) : TG := fun v σ H Q => ∃ a xs, v = .ref a ∧ SqT K H a xs ∧ xs.length = n ∧ t xs σ H Q
theorem pg_tup {es : List Expr} {k : Nat} {t : TGs} {n : Nat} (hc : X.calm = true) (h : PGs X es t)
    (hn : (assignEach es X.env).length = n := by rfl) (hst : (assignEach es X.env).findIdx? (·.1) = none := by rfl) : PG X (.Tuple es k pos) (gTup X.K n t) := by
  intro pins s σ H v u Q I r hw
  obtain ⟨a, xs, e1, hq, hl, hw⟩ := hw
  subst e1
  cases r
  obtain ⟨its, rv, ht, hz⟩ := I.tuple hq
  refine assign_Tuple_tuple (I.ok.hd hc) ht (by simp [hn, ← hl, rv.length]) hst fun h' hx => ?_
  have I1 : Inv X pins σ H { s with heap := h' } := I.kept (t' := s.toks) fun b o e => hx b o (Nat.ne_of_lt (Heap.lt_size e)) e
  exact h pins _ σ H xs _ Q I1 (by simpa using rv) hw
def gSub (to ti : TE) (t : TSet) : TG := fun v σ H Q => to σ H fun o H1 => ti σ H1 fun i H2 => t o i v H2 fun H3 => Q σ H3
theorem pg_sub {o i : Expr} {to ti : TE} {t : TSet} (ho : PE X o to) (hi : PE X i ti) (hs : PSet X t)
    (ha : ∀ v, assign (.Subscript o i pos) X.env v = (do
      let ov ← holding [v] (eval o X.env)
      let iv ← holding [v, ov] (eval i X.env)
      standAt pos
      holding [v, ov, iv] (setItem ov iv v)
      release [v, ov, iv] []) := by intro _; rfl) : PG X (.Subscript o i pos) (gSub to ti t) := by
  intro pins s σ H v u Q I r h
  rw [ha]
  refine wpAny_bind (wpAny_holding (thn (ho pins s σ H _ I h) fun ov s1 ⟨x, H1, I1, r1, q1⟩ => ?_))
  refine wpAny_bind (wpAny_holding (thn (hi pins s1 σ H1 _ I1 q1) fun iv s2 ⟨y, H2, I2, r2, q2⟩ => ?_))
  refine wpAny_bind (wpAny_standAt (wpAny_bind (wpAny_holding (thn (hs pins s2 σ H2 x y v ov iv u _ I2 r1 r2 r q2) fun _ s3 ⟨H3, I3, q3⟩ => ?_))))
  exact wpAny_release ⟨σ, H3, I3, q3⟩
def tAsg (te : TE) (g : TG) : TS := fun D σ H => te σ H fun x H1 => g x σ H1 D.nx
theorem ps_asg {tg e : Expr} {te : TE} {g : TG} (he : PE X e te) (hg : PG X tg g) (hs : swapsWithSole [tg] e pos.line X.env = pure false := by rfl) (hw : swappedStores [tg] e X.env = pure none := by rfl)
    (h1 : (assignEach [tg] X.env).map (·.2) = [assign tg X.env] := by rfl) : PS X (.Assign [tg] e pos) (tAsg te g) := by
  intro pins s σ H D I h
  refine wpAny_Assign_stores (thn (he pins s σ H _ I h) fun v s1 ⟨x, H1, I1, r1, q1⟩ => ?_) hs hw
  rw [h1]
  exact thn (hg pins s1 σ H1 x v _ I1 r1 q1) fun _ s2 q => q
theorem ps_set {i : Nat} {x : Str} {e : Expr} {te : TE} {pos' : Pos} (hN : X.N.Nodup) (hi : X.N[i]? = some x) (hx : Loc X.env.scope x) (he : PE X e te) (hs : swapsWith e (some (.Name x pos')) pos.line X.env = pure false := by rfl) (hf : X.fn x = true ∨ X.env.scope.names.lookup x = some .local := by first | exact .inl rfl | exact .inr rfl | assumption) :
    PS X (.Assign [.Name x pos'] e pos) (tAsg te (gName i)) := by
  intro pins s σ H D I h
  refine wpAny_Assign_Name (thn (he pins s σ H _ I h) fun v s1 ⟨y, H1, I1, r1, q1⟩ => ?_) hs
  exact store_ok I1 hN hi hx r1 (fun s2 I2 => ⟨_, H1, I2, q1⟩) hf
end
section
variable {X : Cx} {pos : Pos}
end
structure It where
  go : Nat → Hp → Prop
  yld : Nat → Hp → V → Hp → Prop
  stop : Nat → Hp → Prop
def FpOk (X : Cx) (pins : List (Addr × Obj)) (H : Hp) (b : Addr) : Prop :=
  H b = none ∧ b ≠ X.env.locals ∧ b ∉ X.fs ∧ (b ∈ X.ex ∨ X.s₀.heap.objs.size ≤ b) ∧ (∀ x c, X.env.cells.lookup x = some c → c ≠ b) ∧ ∀ p ∈ X.pn ++ pins, p.1 ≠ b
theorem Inv.fpOk {X : Cx} {pins : List (Addr × Obj)} {σ : St} {H H' : Hp} {s : Shared} {b : Addr} (I : Inv X pins σ H s) (hb : s.heap.objs.size ≤ b) (hn : H' b = none) : FpOk X pins H' b := by
  refine ⟨hn, Nat.ne_of_gt (Nat.lt_of_lt_of_le I.lt hb), I.nofs hb, .inr (Nat.le_trans I.sz hb), fun x c e z => ?_, fun p hp z => ?_⟩
  · obtain ⟨v, q⟩ := I.cell x c e
    exact absurd (Nat.lt_of_lt_of_le q.lt (by rw [z]; exact hb)) (Nat.lt_irrefl _)
  · exact absurd (Nat.lt_of_lt_of_le (Heap.lt_size (I.pin p hp).1) (by rw [z]; exact hb)) (Nat.lt_irrefl _)
structure Turn (P : Program) (w : World) (K : PySem.W.Frag) (tg : Expr) (J : It) (fp : List Addr) (it : Addr) (tn : Nat → Heap → Prop) : Prop where
  mem : it ∈ fp
  obj : ∀ i h, tn i h → ∀ b ∈ fp, ∃ o, h.get? b = some o ∧ ∀ v, o.data ≠ .cell v
  keep : ∀ i h h', tn i h → (∀ b ∈ fp, ∀ o, h.get? b = some o → h'.get? b = some o) → tn i h'
  item : ∀ (X : Cx), X.prog = P → X.w = w → X.K = K → X.calm = true → ∀ (i : Nat) (pins : List (Addr × Obj)) (s : Shared) (σ : St) (H : Hp) (E : Value → Shared → Prop), Inv X pins σ H s → (∀ b ∈ fp, FpOk X pins H b) → tn i s.heap → J.go i H →
    wpAny (model P w) X.A (pyNext (.ref it)) (fun r s1 => ∃ u, r = some u ∧
      wpAny (model P w) X.A (letOwnedTupleGo tg (.ref it) u) (fun _ s2 => ∃ x H', Inv X pins σ H' s2 ∧ RelV x u ∧ J.yld i H x H' ∧ tn (i + 1) s2.heap ∧ ∀ b ∈ fp, H' b = none) E s1) E s
  done : ∀ (X : Cx), X.prog = P → X.w = w → X.K = K → X.calm = true → ∀ (i : Nat) (pins : List (Addr × Obj)) (s : Shared) (σ : St) (H : Hp) (E : Value → Shared → Prop), Inv X pins σ H s → (∀ b ∈ fp, FpOk X pins H b) → tn i s.heap → J.stop i H →
    wpAny (model P w) X.A (pyNext (.ref it)) (fun r s1 => r = none ∧ Inv X pins σ H s1) E s
  self : ∀ (A : Around) (i : Nat) (s : Shared) (Q : Value → Shared → Prop) (E : Value → Shared → Prop), tn i s.heap → Q (.ref it) s → wpAny (model P w) A (pyIter (.ref it)) Q E s
abbrev TI := St → Hp → (It → Hp → Prop) → Prop
def PIE (X : Cx) (pins : List (Addr × Obj)) (σ : St) (tg : Expr) (R : It → Hp → Prop) (itv : Value) (s2 : Shared) : Prop :=
  ∃ (it : Addr) (fp : List Addr) (tn : Nat → Heap → Prop) (J : It) (H' : Hp), itv = .ref it ∧ Inv X pins σ H' s2 ∧ Turn X.prog X.w X.K tg J fp it tn ∧ tn 0 s2.heap ∧ (∀ b ∈ fp, FpOk X pins H' b) ∧ R J H'
def PI (X : Cx) (tg iter : Expr) (wi : TI) : Prop :=
  ∀ (pins : List (Addr × Obj)) (s : Shared) (σ : St) (H : Hp) (R : It → Hp → Prop), Inv X pins σ H s → wi σ H R →
    wpAny (model X.prog X.w) X.A (eval iter X.env) (fun v s1 => wpAny (model X.prog X.w) X.A (pyIter v) (PIE X pins σ tg R) X.xe s1) X.xe s
theorem go_of {M : Model} {A : Around} {E : Value → Shared → Prop} {s : Shared} {tg : Expr} {it : Addr} {u : Value} {o : Obj} {n : String} {vs : Array Value} {Q : Unit → Shared → Prop} (ho : s.heap.get? it = some o) (hc : o.cls = .type n) (hd : o.data = .fields vs)
    (hn : ["enumerate", "zip", "dict_itemiterator", "dict_reverseitemiterator", "odict_iterator", "itertools.zip_longest", "itertools.pairwise"].contains n = false) (hQ : Q () s) : wpAny M A (letOwnedTupleGo tg (.ref it) u) Q E s := by
  unfold letOwnedTupleGo
  cases tg <;> first
    | exact wpAny_pure hQ
    | (cases u <;> first
        | exact wpAny_pure hQ
        | (refine wpAny_bind (wpAny_load ho ?_)
           rw [hc, hd]
           show wpAny M A (if (["enumerate", "zip", "dict_itemiterator", "dict_reverseitemiterator", "odict_iterator", "itertools.zip_longest", "itertools.pairwise"].contains n && vs[0]? == some (rawInt _)) = true then _ else _) Q E s
           rw [if_neg (by intro h; rw [hn, Bool.false_and] at h; cases h)]
           exact wpAny_pure hQ))
def Itl (K : PySem.W.Frag) (a : Addr) : It :=
  ⟨fun i H => ∃ xs x, SqL K H a xs ∧ xs[i]? = some x, fun i H x H' => H' = H ∧ ∀ xs, SqL K H a xs → xs[i]? = some x, fun i H => ∃ xs, SqL K H a xs ∧ xs.length ≤ i⟩
def Itt (K : PySem.W.Frag) (a : Addr) : It :=
  ⟨fun i H => ∃ xs x, SqT K H a xs ∧ xs[i]? = some x, fun i H x H' => H' = H ∧ ∀ xs, SqT K H a xs → xs[i]? = some x, fun i H => ∃ xs, SqT K H a xs ∧ xs.length ≤ i⟩
def Itr (lo : Int) (n : Nat) : It := ⟨fun i _ => i < n, fun i H x H' => H' = H ∧ x = .int (lo + i), fun i _ => n ≤ i⟩
theorem turn_list {P : Program} {w : World} {K : PySem.W.Frag} {tg : Expr} (a it : Addr) : Turn P w K tg (Itl K a) [it] it (fun i h => h.IsListIter it a i) where
  mem := by simp
  obj := fun i h st b hb => by
    have e : b = it := by simpa using hb
    subst e
    obtain ⟨o, e, c, d⟩ := st
    exact ⟨o, e, fun v z => by rw [d] at z; cases z⟩
  keep := fun i h h' st k => st.at fun o e => k it (by simp) o e
  item := by
    intro X hP hw hK hc i pins s σ H E I hf st hg
    subst hP hw hK
    obtain ⟨xs, x, hq, hx⟩ := hg
    obtain ⟨its, rv, p, hz⟩ := I.list hq
    obtain ⟨u, hu, ru⟩ := rv.get hx
    obtain ⟨f0, f1, f2, f3, f4, f5⟩ := hf it (by simp)
    refine wpAny_pyNext_list_item st p.isList (x := u) (by simpa using hu) fun h' st' sb => ?_
    have I1 : Inv X pins σ H { s with heap := h' } := I.turned (t' := s.toks) (fun b o hb e => (sb.2 b hb).trans e) f0 f1 f3 f4 f5
    obtain ⟨o, e, c, d⟩ := id st'
    exact ⟨u, rfl, go_of (s := { s with heap := h' }) e c d (by decide) ⟨x, H, I1, ru, ⟨rfl, fun ys hy => by rw [I.list_inj hy hq]; exact hx⟩, st', fun b hb => (hf b hb).1⟩⟩
  done := by
    intro X hP hw hK hc i pins s σ H E I hf st hg
    subst hP hw hK
    obtain ⟨xs, hq, hx⟩ := hg
    obtain ⟨its, rv, p, hz⟩ := I.list hq
    obtain ⟨f0, f1, f2, f3, f4, f5⟩ := hf it (by simp)
    have hl := rv.length
    exact wpAny_pyNext_list_end (I.ok.hd hc) st p.isList (by simp; omega) fun h' eb => ⟨rfl, I.turned (t' := s.toks) (fun b o hb e => eb b o hb e) f0 f1 f3 f4 f5⟩
  self := fun _ _ _ _ _ st h => wpAny_pyIter_listiter st h
theorem turn_tuple {P : Program} {w : World} {K : PySem.W.Frag} {tg : Expr} (a it : Addr) : Turn P w K tg (Itt K a) [it] it (fun i h => h.IsTupleIter it a i) where
  mem := by simp
  obj := fun i h st b hb => by
    have e : b = it := by simpa using hb
    subst e
    obtain ⟨o, e, c, d⟩ := st
    exact ⟨o, e, fun v z => by rw [d] at z; cases z⟩
  keep := fun i h h' st k => st.at fun o e => k it (by simp) o e
  item := by
    intro X hP hw hK hc i pins s σ H E I hf st hg
    subst hP hw hK
    obtain ⟨xs, x, hq, hx⟩ := hg
    obtain ⟨its, rv, p, hz⟩ := I.tuple hq
    obtain ⟨u, hu, ru⟩ := rv.get hx
    obtain ⟨f0, f1, f2, f3, f4, f5⟩ := hf it (by simp)
    refine wpAny_pyNext_tuple_item st (show s.heap.IsTuple a its.toArray from p) (x := u) (by simpa using hu) fun h' st' sb => ?_
    have I1 : Inv X pins σ H { s with heap := h' } := I.turned (t' := s.toks) (fun b o hb e => (sb.2 b hb).trans e) f0 f1 f3 f4 f5
    obtain ⟨o, e, c, d⟩ := id st'
    exact ⟨u, rfl, go_of (s := { s with heap := h' }) e c d (by decide) ⟨x, H, I1, ru, ⟨rfl, fun ys hy => by rw [I.tuple_inj hy hq]; exact hx⟩, st', fun b hb => (hf b hb).1⟩⟩
  done := by
    intro X hP hw hK hc i pins s σ H E I hf st hg
    subst hP hw hK
    obtain ⟨xs, hq, hx⟩ := hg
    obtain ⟨its, rv, p, hz⟩ := I.tuple hq
    obtain ⟨f0, f1, f2, f3, f4, f5⟩ := hf it (by simp)
    have hl := rv.length
    exact wpAny_pyNext_tuple_end (I.ok.hd hc) st (show s.heap.IsTuple a its.toArray from p) (by simp; omega) fun h' eb => ⟨rfl, I.turned (t' := s.toks) (fun b o hb e => eb b o hb e) f0 f1 f3 f4 f5⟩
  self := fun _ _ _ _ _ st h => wpAny_pyIter_tupleiter st h
theorem turn_range {P : Program} {w : World} {K : PySem.W.Frag} {tg : Expr} (it : Addr) (lo : Int) (n : Nat) : Turn P w K tg (Itr lo n) [it] it (fun i h => IsRangeIter h it (lo + (i : Nat) * 1) ((n : Int) - (i : Nat)) 1) where
  mem := by simp
  obj := fun i h st b hb => by
    have e : b = it := by simpa using hb
    subst e
    exact ⟨_, st, fun v z => by
      have z' : Data.fields _ = Data.cell v := z
      cases z'⟩
  keep := fun i h h' st k => k it (by simp) _ st
  item := by
    intro X hP hw hK hc i pins s σ H E I hf st hg
    subst hP hw hK
    obtain ⟨f0, f1, f2, f3, f4, f5⟩ := hf it (by simp)
    have W := Walks.range (prog := X.prog) (w := X.w) (I.ok.hd hc) it lo 1 n
    refine W.item i s _ _ hg st fun v h' tk hv st' kk => ?_
    obtain ⟨t, rfl⟩ := hv
    have I1 : Inv X pins σ H { s with heap := h', toks := tk } := I.turned (fun b o hb e => kk b o (by simpa using hb) e) f0 f1 f3 f4 f5
    refine ⟨_, rfl, go_of (s := { s with heap := h', toks := tk }) (n := "range_iterator") st' rfl rfl (by decide) ⟨.int (lo + i), H, I1, ⟨t, ?_⟩, ⟨rfl, rfl⟩, st', fun b hb => (hf b hb).1⟩⟩
    rw [Int.mul_one]
  done := by
    intro X hP hw hK hc i pins s σ H E I hf st hg
    subst hP hw hK
    obtain ⟨f0, f1, f2, f3, f4, f5⟩ := hf it (by simp)
    exact wpAny_pyNext_range_end (I.ok.hd hc) st (by have : n ≤ i := hg; omega) fun h' eb => ⟨rfl, I.turned (t' := s.toks) (fun b o hb e => eb b o hb e) f0 f1 f3 f4 f5⟩
  self := fun _ _ _ _ _ st h => wpAny_pyIter_rangeiter st h
end L2
namespace L2
open PySem PySem.Spec PyProof.Rows
section
variable {X : Cx} {tg : Expr}
def iList (K : PySem.W.Frag) (tl : TE) : TI := fun σ H R => tl σ H fun x H1 => ∃ a, x = .ref a ∧ (∃ xs, SqL K H1 a xs) ∧ R (Itl K a) H1
def iTup (K : PySem.W.Frag) (tl : TE) : TI := fun σ H R => tl σ H fun x H1 => ∃ a, x = .ref a ∧ (∃ xs, SqT K H1 a xs) ∧ R (Itt K a) H1
theorem pi_list {l : Expr} {tl : TE} (hl : PE X l tl) : PI X tg l (iList X.K tl) := by
  intro pins s σ H R I h
  refine thn (hl pins s σ H _ I h) fun v s1 ⟨x, H1, I1, r1, q1⟩ => ?_
  obtain ⟨a, e, ⟨xs, hq⟩, q⟩ := q1
  subst e
  cases r1
  obtain ⟨its, rv, p, hz⟩ := I1.list hq
  refine wpAny_pyIter_list p.isList ?_
  refine ⟨s1.heap.objs.size, [s1.heap.objs.size], _, _, H1, rfl, I1.kept (t' := s1.toks) fun b o e => Heap.get?_push_of_some _ e, turn_list a _, ⟨_, Heap.get?_push_size _ rfl, rfl, rfl⟩, fun b hb => ?_, q⟩
  have e : b = s1.heap.objs.size := by simpa using hb
  subst e
  exact I1.fpOk (Nat.le_refl _) (I1.hok.fresh (Nat.le_refl _))
theorem pi_tup {l : Expr} {tl : TE} (hl : PE X l tl) : PI X tg l (iTup X.K tl) := by
  intro pins s σ H R I h
  refine thn (hl pins s σ H _ I h) fun v s1 ⟨x, H1, I1, r1, q1⟩ => ?_
  obtain ⟨a, e, ⟨xs, hq⟩, q⟩ := q1
  subst e
  cases r1
  obtain ⟨its, rv, p, hz⟩ := I1.tuple hq
  refine wpAny_pyIter_tuple (show s1.heap.IsTuple a its.toArray from p) ?_
  refine ⟨s1.heap.objs.size, [s1.heap.objs.size], _, _, H1, rfl, I1.kept (t' := s1.toks) fun b o e => Heap.get?_push_of_some _ e, turn_tuple a _, ⟨_, Heap.get?_push_size _ rfl, rfl, rfl⟩, fun b hb => ?_, q⟩
  have e : b = s1.heap.objs.size := by simpa using hb
  subst e
  exact I1.fpOk (Nat.le_refl _) (I1.hok.fresh (Nat.le_refl _))
theorem range_it {pins : List (Addr × Obj)} {σ : St} {H : Hp} {s : Shared} {R : It → Hp → Prop} {E : Value → Shared → Prop} {lo hi : Int} {t u v : Tok} {tk : Nat} (I : Inv X pins σ H s) (h1 : -(2 ^ 62) ≤ lo) (h2 : lo < 2 ^ 62) (h3 : -(2 ^ 62) ≤ hi) (h4 : hi < 2 ^ 62)
    (q : R (Itr lo (hi - lo).toNat) H) : wpAny (model X.prog X.w) X.A (pyIter (.ref s.heap.objs.size)) (PIE X pins σ tg R) E { s with heap := s.heap.push { cls := .type "range", data := .fields #[.int lo t, .int hi u, .int 1 v] }, toks := tk } := by
  refine wpAny_pyIter_range (IsRange.new ..) (small_one h1 h2 h3 h4) ?_
  have I1 : Inv X pins σ H { s with heap := s.heap.push { cls := .type "range", data := .fields #[.int lo t, .int hi u, .int 1 v] }, toks := tk } := I.kept fun b o e => Heap.get?_push_of_some _ e
  refine ⟨(s.heap.push { cls := .type "range", data := .fields #[.int lo t, .int hi u, .int 1 v] }).objs.size, [(s.heap.push { cls := .type "range", data := .fields #[.int lo t, .int hi u, .int 1 v] }).objs.size], _, _, H, rfl,
    I1.kept (t' := tk) fun b o e => Heap.get?_push_of_some _ e, turn_range _ lo (hi - lo).toNat, ?_, fun b hb => ?_, q⟩
  · have e1 : lo + ((0 : Nat) : Int) * 1 = lo := by simp
    have e2 : (((hi - lo).toNat : Nat) : Int) - ((0 : Nat) : Int) = Builtin.Range.rangeSize lo hi 1 := by rw [rangeSize_one]; split <;> omega
    show IsRangeIter _ _ (lo + ((0 : Nat) : Int) * 1) ((((hi - lo).toNat : Nat) : Int) - ((0 : Nat) : Int)) 1
    rw [e1, e2]
    exact Heap.get?_push_size _ rfl
  · have e : b = (s.heap.push { cls := .type "range", data := .fields #[.int lo t, .int hi u, .int 1 v] }).objs.size := by simpa using hb
    subst e
    exact I1.fpOk (Nat.le_refl _) (I1.hok.fresh (Nat.le_refl _))
def iRng1 (ta : TA) : TI := fun σ H R => ta σ H fun vs H1 => ∃ j : Int, vs = [.int j] ∧ -(2 ^ 62) ≤ j ∧ j < 2 ^ 62 ∧ R (Itr 0 j.toNat) H1
theorem pi_range1 {a : Expr} {ta : TA} {p pos : Pos} (hg : Gl X "range") (hm : X.mg "range" = none) (ha : PA X [a] ta) (hs : starEach [a] X.env = [(false, eval a X.env)] := by rfl) : PI X tg (.Call (.Name "range" p) [a] [] pos) (iRng1 ta) := by
  intro pins s σ H R I h
  refine Call_ (ld_blt I hg hm boot_range (PyProof.Rows.callWith_type1 (thn (ha pos pins s σ H _ I h) fun us s1 ⟨vs, H1, I1, r1, q1⟩ => ?_) hs rfl))
  obtain ⟨j, e, q1, q2, q⟩ := q1
  subst e
  cases r1 with
  | cons r rr =>
    cases rr
    obtain ⟨t, rfl⟩ := r
    exact call_range_1 (range_it I1 (by omega) (by omega) q1 q2 (by simpa using q))
def tFor (wi : TI) (g : TG) (tb : TS) : TS := fun D σ H => wi σ H fun J H1 => ∃ W : Nat → Nat → St → Hp → Prop, (∃ m, W 0 m σ H1) ∧ ∀ i m σ H, W i m σ H →
  (J.stop i H ∧ D.nx σ H) ∨ (J.go i H ∧ ∃ N : St → Hp → Prop, (∀ σ' H', N σ' H' → ∃ m', m' < m ∧ W (i + 1) m' σ' H') ∧ ∀ x H', J.yld i H x H' → g x σ H' fun σ2 H2 => tb { D with nx := N, ct := N, bk := D.nx } σ2 H2)
def pinsAt (fp : List Addr) (h : Heap) : List (Addr × Obj) := fp.filterMap fun b => (h.get? b).map fun o => (b, o)
theorem mem_pinsAt {fp : List Addr} {h : Heap} {b : Addr} {o : Obj} (hb : b ∈ fp) (e : h.get? b = some o) : (b, o) ∈ pinsAt fp h := List.mem_filterMap.mpr ⟨b, hb, by rw [e]; rfl⟩
theorem of_pinsAt {fp : List Addr} {h : Heap} {p : Addr × Obj} (hp : p ∈ pinsAt fp h) : p.1 ∈ fp ∧ h.get? p.1 = some p.2 := by
  obtain ⟨b, hb, e⟩ := List.mem_filterMap.mp hp
  cases q : h.get? b with
  | none => rw [q] at e; cases e
  | some o =>
    rw [q] at e
    have e' : (b, o) = p := Option.some.inj e
    subst e'
    exact ⟨hb, q⟩
theorem Inv.pinned {pins : List (Addr × Obj)} {σ : St} {H : Hp} {s : Shared} {fp : List Addr} (I : Inv X pins σ H s) (hf : ∀ b ∈ fp, FpOk X pins H b) (ho : ∀ b ∈ fp, ∃ o, s.heap.get? b = some o ∧ ∀ v, o.data ≠ .cell v) : Inv X (pins ++ pinsAt fp s.heap) σ H s :=
  I.pins_of fun p hp => (List.mem_append.mp hp).elim (fun z => I.pin p (List.mem_append_right _ z)) fun z => by
    obtain ⟨hb, e⟩ := of_pinsAt z
    obtain ⟨f0, f1, f2, _⟩ := hf p.1 hb
    obtain ⟨o, e', d⟩ := ho p.1 hb
    rw [e] at e'; cases e'
    exact ⟨e, f0, f1, f2, d⟩
theorem Inv.unpinned {pins pl : List (Addr × Obj)} {σ : St} {H : Hp} {s : Shared} (I : Inv X (pins ++ pl) σ H s) : Inv X pins σ H s := I.pins_of fun p hp => I.pin p (List.mem_append_right _ (List.mem_append_left _ hp))
theorem ps_for {iter : Expr} {body : List Stmt} {wi : TI} {g : TG} {tb : TS} {pos : Pos} (hp : PassesOwn (model X.prog X.w) X.A X.env X.xe) (hc : X.calm = true) (hi : PI X tg iter wi) (hg : PG X tg g) (hb : PSs X body tb)
    (hs : ∀ x, foldedSetIterable iter X.env x = pure x := by intro _; rfl) : PS X (.For tg iter body [] pos) (tFor wi g tb) := by
  intro pins s σ H D I h
  refine wpAny_For (thn (hi pins s σ H _ I h) fun v s1 h1 => thn h1 fun itv s2 h2 => ?_) hs
  obtain ⟨it, fp, tn, J, H2, e, I2, T, st2, f2, W, ⟨m0, w0⟩, turn⟩ := h2
  subst e
  -- what stays true of the iterator's objects through the loop
  have stat : ∀ {H' : Hp}, (∀ b ∈ fp, H' b = none) → ∀ b ∈ fp, FpOk X pins H' b := fun hn b hb => ⟨hn b hb, (f2 b hb).2⟩
  refine codeAny_forLoop_any (fun n s' => ∃ i σ' H', Inv X pins σ' H' s' ∧ tn i s'.heap ∧ (∀ b ∈ fp, H' b = none) ∧ W i n σ' H') ?_ m0 ⟨0, σ, H2, I2, st2, fun b hb => (f2 b hb).1, w0⟩
  rintro n s3 ⟨i, σ3, H3, I3, st3, fr3, w3⟩
  rcases turn i n σ3 H3 w3 with ⟨stop, qn⟩ | ⟨go, N, hN, step⟩
  · refine wpAny_passesOwn hp (thn (T.done X rfl rfl rfl hc i pins s3 σ3 H3 X.xe I3 (stat fr3) st3 stop) fun r s4 ⟨hr, I4⟩ => ?_)
    subst hr
    exact wpAny_execs_nil ⟨σ3, H3, I4, qn⟩
  · refine wpAny_passesOwn hp (thn (T.item X rfl rfl rfl hc i pins s3 σ3 H3 X.xe I3 (stat fr3) st3 go) fun r s4 ⟨u, hr, h4⟩ => ?_)
    subst hr
    refine wpAny_passesOwn hp (thn h4 fun _ s5 ⟨x, H5, I5, r5, y5, st5, fr5⟩ => ?_)
    have I5' := I5.pinned (stat fr5) (T.obj _ _ st5)
    refine wpAny_passesOwn hp (thn (hg _ s5 σ3 H5 x u _ I5' r5 (step x H5 y5)) fun _ s6 ⟨σ6, H6, I6, q6⟩ => ?_)
    refine wpAny_passesOwn hp (thn (hb _ s6 σ6 H6 _ I6 q6) fun f s7 q7 => ?_)
    have again : ∀ {σ7 : St} {H7 : Hp}, Inv X (pins ++ pinsAt fp s5.heap) σ7 H7 s7 → N σ7 H7 → ∃ m, m < n ∧ ∃ i σ' H', Inv X pins σ' H' s7 ∧ tn i s7.heap ∧ (∀ b ∈ fp, H' b = none) ∧ W i m σ' H' := fun {σ7 H7} I7 n7 => by
      obtain ⟨m', hm, w7⟩ := hN σ7 H7 n7
      refine ⟨m', hm, i + 1, σ7, H7, I7.unpinned, T.keep _ _ _ st5 fun b hb o e => (I7.pin (b, o) (List.mem_append_right _ (List.mem_append_right _ (mem_pinsAt hb e)))).1, fun b hb => ?_, w7⟩
      obtain ⟨o, e, d⟩ := T.obj _ _ st5 b hb
      exact (I7.pin (b, o) (List.mem_append_right _ (List.mem_append_right _ (mem_pinsAt hb e)))).2.1
    cases f with
    | next => obtain ⟨σ7, H7, I7, n7⟩ := q7; exact again I7 n7
    | cont => obtain ⟨σ7, H7, I7, n7⟩ := q7; exact again I7 n7
    | brk => obtain ⟨σ7, H7, I7, q7⟩ := q7; exact ⟨σ7, H7, I7.unpinned, q7⟩
    | ret v => obtain ⟨x7, σ7, H7, I7, r7, q7⟩ := q7; exact ⟨x7, σ7, H7, I7.unpinned, r7, q7⟩
end
theorem for_list {K : PySem.W.Frag} {a : Addr} {xs : List V} {g : TG} {tb : TS} {D : Ends} {σ : St} {H : Hp} (Pv : Nat → St → Hp → Prop) (h0 : Pv 0 σ H) (hl : ∀ i σ H, i ≤ xs.length → Pv i σ H → SqL K H a xs)
    (hs : ∀ i x σ H, xs[i]? = some x → Pv i σ H → g x σ H fun σ2 H2 => tb { D with nx := Pv (i + 1), ct := Pv (i + 1), bk := D.nx } σ2 H2) (hd : ∀ σ H, Pv xs.length σ H → D.nx σ H) :
    ∃ W : Nat → Nat → St → Hp → Prop, (∃ m, W 0 m σ H) ∧ ∀ i m σ H, W i m σ H →
      ((Itl K a).stop i H ∧ D.nx σ H) ∨ ((Itl K a).go i H ∧ ∃ N : St → Hp → Prop, (∀ σ' H', N σ' H' → ∃ m', m' < m ∧ W (i + 1) m' σ' H') ∧ ∀ x H', (Itl K a).yld i H x H' → g x σ H' fun σ2 H2 => tb { D with nx := N, ct := N, bk := D.nx } σ2 H2) := by
  refine ⟨fun i m σ H => m = xs.length - i ∧ i ≤ xs.length ∧ Pv i σ H, ⟨xs.length, by simp, Nat.zero_le _, h0⟩, ?_⟩
  rintro i m σ H ⟨rfl, hi, p⟩
  have q := hl i σ H hi p
  by_cases hlt : i < xs.length
  · refine .inr ⟨⟨xs, xs[i], q, by simp [hlt]⟩, Pv (i + 1), fun σ' H' p' => ⟨xs.length - (i + 1), by omega, rfl, hlt, p'⟩, fun x H' y => ?_⟩
    obtain ⟨e, y⟩ := y
    subst e
    exact hs i x σ _ (y xs q) p
  · have e : i = xs.length := by omega
    subst e
    exact .inl ⟨⟨xs, q, Nat.le_refl _⟩, hd σ H p⟩
theorem for_tup {K : PySem.W.Frag} {a : Addr} {xs : List V} {g : TG} {tb : TS} {D : Ends} {σ : St} {H : Hp} (Pv : Nat → St → Hp → Prop) (h0 : Pv 0 σ H) (hl : ∀ i σ H, i ≤ xs.length → Pv i σ H → SqT K H a xs)
    (hs : ∀ i x σ H, xs[i]? = some x → Pv i σ H → g x σ H fun σ2 H2 => tb { D with nx := Pv (i + 1), ct := Pv (i + 1), bk := D.nx } σ2 H2) (hd : ∀ σ H, Pv xs.length σ H → D.nx σ H) :
    ∃ W : Nat → Nat → St → Hp → Prop, (∃ m, W 0 m σ H) ∧ ∀ i m σ H, W i m σ H →
      ((Itt K a).stop i H ∧ D.nx σ H) ∨ ((Itt K a).go i H ∧ ∃ N : St → Hp → Prop, (∀ σ' H', N σ' H' → ∃ m', m' < m ∧ W (i + 1) m' σ' H') ∧ ∀ x H', (Itt K a).yld i H x H' → g x σ H' fun σ2 H2 => tb { D with nx := N, ct := N, bk := D.nx } σ2 H2) := by
  refine ⟨fun i m σ H => m = xs.length - i ∧ i ≤ xs.length ∧ Pv i σ H, ⟨xs.length, by simp, Nat.zero_le _, h0⟩, ?_⟩
  rintro i m σ H ⟨rfl, hi, p⟩
  have q := hl i σ H hi p
  by_cases hlt : i < xs.length
  · refine .inr ⟨⟨xs, xs[i], q, by simp [hlt]⟩, Pv (i + 1), fun σ' H' p' => ⟨xs.length - (i + 1), by omega, rfl, hlt, p'⟩, fun x H' y => ?_⟩
    obtain ⟨e, y⟩ := y
    subst e
    exact hs i x σ _ (y xs q) p
  · have e : i = xs.length := by omega
    subst e
    exact .inl ⟨⟨xs, q, Nat.le_refl _⟩, hd σ H p⟩
theorem for_range {lo : Int} {n : Nat} {g : TG} {tb : TS} {D : Ends} {σ : St} {H : Hp} (Pv : Nat → St → Hp → Prop) (h0 : Pv 0 σ H)
    (hs : ∀ i σ H, i < n → Pv i σ H → g (.int (lo + i)) σ H fun σ2 H2 => tb { D with nx := Pv (i + 1), ct := Pv (i + 1), bk := D.nx } σ2 H2) (hd : ∀ σ H, Pv n σ H → D.nx σ H) :
    ∃ W : Nat → Nat → St → Hp → Prop, (∃ m, W 0 m σ H) ∧ ∀ i m σ H, W i m σ H →
      ((Itr lo n).stop i H ∧ D.nx σ H) ∨ ((Itr lo n).go i H ∧ ∃ N : St → Hp → Prop, (∀ σ' H', N σ' H' → ∃ m', m' < m ∧ W (i + 1) m' σ' H') ∧ ∀ x H', (Itr lo n).yld i H x H' → g x σ H' fun σ2 H2 => tb { D with nx := N, ct := N, bk := D.nx } σ2 H2) := by
  refine ⟨fun i m σ H => m = n - i ∧ i ≤ n ∧ Pv i σ H, ⟨n, by simp, Nat.zero_le _, h0⟩, ?_⟩
  rintro i m σ H ⟨rfl, hi, p⟩
  by_cases hlt : i < n
  · refine .inr ⟨hlt, Pv (i + 1), fun σ' H' p' => ⟨n - (i + 1), by omega, rfl, hlt, p'⟩, fun x H' y => ?_⟩
    obtain ⟨e, y⟩ := y
    subst e y
    exact hs i σ _ hlt p
  · have e : i = n := by omega
    subst e
    exact .inl ⟨Nat.le_refl _, hd σ H p⟩
end L2
namespace L2
open PySem PySem.Spec PyProof.Rows
abbrev R2 := V → V → Hp → VK → Prop
def OpR (X : Cx) (f : Value → Value → Sem Value) (r : R2) : Prop :=
  ∀ (pins : List (Addr × Obj)) (s : Shared) (σ : St) (H : Hp) (x y : V) (v u : Value) (Q : VK), Inv X pins σ H s → RelV x v → RelV y u → r x y H Q →
    wpAny (model X.prog X.w) X.A (f v u) (EP X pins σ Q) X.xe s
def UnR (X : Cx) (f : Value → Sem Value) (r : V → Hp → VK → Prop) : Prop :=
  ∀ (pins : List (Addr × Obj)) (s : Shared) (σ : St) (H : Hp) (x : V) (v : Value) (Q : VK), Inv X pins σ H s → RelV x v → r x H Q →
    wpAny (model X.prog X.w) X.A (f v) (EP X pins σ Q) X.xe s
def CallR (X : Cx) (f : Value) (r : List V → Hp → VK → Prop) : Prop :=
  ∀ (pins : List (Addr × Obj)) (s : Shared) (σ : St) (H : Hp) (xs : List V) (us : List Value) (Q : VK), Inv X pins σ H s → Vals xs us → r xs H Q →
    wpAny (model X.prog X.w) X.A (call f us) (EP X pins σ Q) X.xe s
def TruR (X : Cx) (r : V → Hp → (Bool → Hp → Prop) → Prop) : Prop :=
  ∀ (pins : List (Addr × Obj)) (s : Shared) (σ : St) (H : Hp) (x : V) (v : Value) (Q : Bool → Hp → Prop), Inv X pins σ H s → RelV x v → r x H Q →
    wpAny (model X.prog X.w) X.A (truthy v) (TP X pins σ Q) X.xe s
def tOp (r : R2) (ta tb : TE) : TE := fun σ H Q => ta σ H fun x H1 => tb σ H1 fun y H2 => r x y H2 Q
def tUn (r : V → Hp → VK → Prop) (ta : TE) : TE := fun σ H Q => ta σ H fun x H1 => r x H1 Q
def rI (C : Int → Int → Prop) (g : Int → Int → V) : R2 := fun x y H Q => ∃ i j, x = .int i ∧ y = .int j ∧ C i j ∧ Q (g i j) H
def rI0 (g : Int → Int → V) : R2 := fun x y H Q => ∃ i j, x = .int i ∧ y = .int j ∧ Q (g i j) H
def rU (g : Int → V) : V → Hp → VK → Prop := fun x H Q => ∃ i, x = .int i ∧ Q (g i) H
section
variable {X : Cx} {a b c : Expr} {ta tb tc : TE} {pos : Pos}
theorem binT (ha : PE X a ta) (hb : PE X b tb) {pins : List (Addr × Obj)} {s : Shared} {σ : St} {H : Hp} {R : V → V → Hp → Prop} (I : Inv X pins σ H s)
    (h : ta σ H fun x H1 => tb σ H1 fun y H2 => R x y H2) {Q : Value → Shared → Prop} {f : Value → Value → Sem Value}
    (hf : ∀ v u s2 x y H2, Inv X pins σ H2 s2 → RelV x v → RelV y u → R x y H2 → wpAny (model X.prog X.w) X.A (f v u) Q X.xe s2) :
    wpAny (model X.prog X.w) X.A (eval a X.env) (fun v s₁ => wpAny (model X.prog X.w) X.A (eval b X.env) (fun u s₂ => wpAny (model X.prog X.w) X.A (f v u) Q X.xe s₂) X.xe s₁) X.xe s := by
  refine thn (ha pins s σ H _ I h) fun v s1 ⟨x, H1, I1, r1, q1⟩ => ?_
  refine thn (hb pins s1 σ H1 _ I1 q1) fun u s2 ⟨y, H2, I2, r2, q2⟩ => ?_
  exact hf v u s2 x y H2 I2 r1 r2 q2
theorem pe_op {op : Operator} {r : R2} (ho : OpR X (binaryOp op) r) (ha : PE X a ta) (hb : PE X b tb) : PE X (.BinOp a op b pos) (tOp r ta tb) := by
  intro pins s σ H Q I h
  exact wpAny_BinOp (binT ha hb I h fun v u s2 x y H2 I2 rx ry q => ho pins s2 σ H2 x y v u Q I2 rx ry q)
theorem pe_un {op : UnaryOp} {r : V → Hp → VK → Prop} (ho : UnR X (unaryOp op) r) (ha : PE X a ta) : PE X (.UnaryOp op a pos) (tUn r ta) := by
  intro pins s σ H Q I h
  exact UnaryOp_ (thn (ha pins s σ H _ I h) fun v s1 ⟨x, H1, I1, r1, q1⟩ => ho pins s1 σ H1 x v Q I1 r1 q1)
theorem opI {f : Value → Value → Sem Value} {C : Int → Int → Prop} {g : Int → Int → Int}
    (rule : ∀ (i j : Int) (t u : Tok) (s : Shared) (Q : Value → Shared → Prop) (E : Value → Shared → Prop), C i j → Q (.int (g i j) s.toks) { s with toks := s.toks + 1 } → wpAny (model X.prog X.w) X.A (f (.int i t) (.int j u)) Q E s) :
    OpR X f (rI C fun i j => .int (g i j)) := by
  intro pins s σ H x y v u Q I rx ry h
  obtain ⟨i, j, rfl, rfl, hc, q⟩ := h
  obtain ⟨t, rfl⟩ := rx
  obtain ⟨t', rfl⟩ := ry
  exact rule i j t t' s _ _ hc ⟨.int (g i j), H, I.tok _, ⟨_, rfl⟩, q⟩
theorem opI0 {f : Value → Value → Sem Value} {g : Int → Int → Int}
    (rule : ∀ (i j : Int) (t u : Tok) (s : Shared) (Q : Value → Shared → Prop) (E : Value → Shared → Prop), Q (.int (g i j) s.toks) { s with toks := s.toks + 1 } → wpAny (model X.prog X.w) X.A (f (.int i t) (.int j u)) Q E s) :
    OpR X f (rI0 fun i j => .int (g i j)) := by
  intro pins s σ H x y v u Q I rx ry h
  obtain ⟨i, j, rfl, rfl, q⟩ := h
  obtain ⟨t, rfl⟩ := rx
  obtain ⟨t', rfl⟩ := ry
  exact rule i j t t' s _ _ ⟨.int (g i j), H, I.tok _, ⟨_, rfl⟩, q⟩
theorem opB0 {f : Value → Value → Sem Value} {g : Int → Int → Bool}
    (rule : ∀ (i j : Int) (t u : Tok) (s : Shared) (Q : Value → Shared → Prop) (E : Value → Shared → Prop), Q (.bool (g i j)) s → wpAny (model X.prog X.w) X.A (f (.int i t) (.int j u)) Q E s) :
    OpR X f (rI0 fun i j => .bl (g i j)) := by
  intro pins s σ H x y v u Q I rx ry h
  obtain ⟨i, j, rfl, rfl, q⟩ := h
  obtain ⟨t, rfl⟩ := rx
  obtain ⟨t', rfl⟩ := ry
  exact rule i j t t' s _ _ ⟨.bl (g i j), H, I, rfl, q⟩
def CDiv (i j : Int) : Prop := 0 < j ∧ j < 1073741824
def CPow (i j : Int) : Prop := 0 ≤ j ∧ j ≤ 1000000 ∧ i.natAbs < 2 ^ 64
def CMul (i j : Int) : Prop := (-(2 ^ 64) < i ∧ i < 2 ^ 64) ∨ (-(2 ^ 64) < j ∧ j < 2 ^ 64)
theorem CMul.ok {i j : Int} (h : CMul i j) : IntMulOk i j := by
  rcases h with ⟨h1, h2⟩ | ⟨h1, h2⟩
  · exact .of_left (intBits_le_64 h1 h2)
  · exact .of_right (intBits_le_64 h1 h2)
theorem two_pow_nn (k : Nat) : (0 : Int) ≤ 2 ^ k := by
  rw [two_pow_cast]
  exact Int.natCast_nonneg _
theorem op_add : OpR X (binaryOp .Add) (rI0 fun i j => .int (i + j)) := opI0 fun _ _ _ _ _ _ _ q => add_int q
theorem op_mul : OpR X (binaryOp .Mult) (rI CMul fun i j => .int (i * j)) := opI fun _ _ _ _ _ _ _ hc q => mul_int q hc.ok
theorem op_fdiv : OpR X (binaryOp .FloorDiv) (rI CDiv fun i j => .int (i / j)) := opI fun i j _ _ _ _ _ hc q => by
  have h1 : (0 : Int) < j := hc.1
  have h2 : j < 1073741824 := hc.2
  exact floordiv_int (by omega) (by rw [Int.fdiv_eq_ediv_of_nonneg i (by omega)]; exact q) (.inl (PyProof.noPylong_small (by omega)))
theorem op_mod : OpR X (binaryOp .Mod) (rI (fun _ j => 0 < j) fun i j => .int (i % j)) := opI fun i j _ _ _ _ _ hc q => by
  have h1 : (0 : Int) < j := hc
  exact mod_int' (by omega) (by rw [Int.fmod_eq_emod_of_nonneg i (by omega)]; exact q)
theorem op_pow : OpR X (binaryOp .Pow) (rI CPow fun i j => .int (i ^ j.toNat)) := opI fun _ _ _ _ _ _ _ hc q => pow_int_small hc.1 hc.2.1 hc.2.2 q
theorem op_shl : OpR X (binaryOp .LShift) (rI CPow fun i j => .int (i * 2 ^ j.toNat)) := opI fun _ _ _ _ _ _ _ hc q => lshift_int_small hc.1 hc.2.1 hc.2.2 q
theorem op_and : OpR X (binaryOp .BitAnd) (rI0 fun i j => .int (Builtin.bitAnd i j)) := opI0 fun _ _ _ _ _ _ _ q => and_int q
theorem op_or : OpR X (binaryOp .BitOr) (rI0 fun i j => .int (Builtin.bitOr i j)) := opI0 fun _ _ _ _ _ _ _ q => or_int q
theorem unI {f : Value → Sem Value} {g : Int → Int}
    (rule : ∀ (i : Int) (t : Tok) (s : Shared) (Q : Value → Shared → Prop) (E : Value → Shared → Prop), Q (.int (g i) s.toks) { s with toks := s.toks + 1 } → wpAny (model X.prog X.w) X.A (f (.int i t)) Q E s) :
    UnR X f (rU fun i => .int (g i)) := by
  intro pins s σ H x v Q I rx h
  obtain ⟨i, rfl, q⟩ := h
  obtain ⟨t, rfl⟩ := rx
  exact rule i t s _ _ ⟨.int (g i), H, I.tok _, ⟨_, rfl⟩, q⟩
theorem un_neg : UnR X (unaryOp .USub) (rU fun i => .int (-i)) := unI fun _ _ _ _ _ q => neg_int q
end
def scal : V → V → Bool
  | .non, .non => true | .non, .int _ => true | .int _, .non => true | .non, .bl _ => true | .bl _, .non => true | .non, .str _ => true | .str _, .non => true
  | .int _, .int _ => true | .bl _, .bl _ => true | .str _, .str _ => true | .byt _, .byt _ => true
  | .int _, .str _ => true | .str _, .int _ => true | .bl _, .str _ => true | .str _, .bl _ => true
  | _, _ => false
def rEq : R2 := fun x y H Q => scal x y = true ∧ Q (.bl (decide (x = y))) H
def rNe : R2 := fun x y H Q => scal x y = true ∧ Q (.bl (!decide (x = y))) H
theorem dec_int {i j : Int} : decide (V.int i = V.int j) = (i == j) := by
  rw [Bool.eq_iff_iff]
  simp
theorem dec_bl {i j : Bool} : decide (V.bl i = V.bl j) = (i == j) := by
  rw [Bool.eq_iff_iff]
  simp
theorem dec_str {i j : Str} : decide (V.str i = V.str j) = (i == j) := by
  rw [Bool.eq_iff_iff]
  simp
theorem dec_byt {i j : Array UInt8} : decide (V.byt i = V.byt j) = (i.toList == j.toList) := by
  rw [Bool.eq_iff_iff]
  cases i
  cases j
  simp
section
variable {X : Cx} {a b c : Expr} {ta tb tc : TE} {pos : Pos}
theorem fin_bl {pins : List (Addr × Obj)} {σ : St} {H : Hp} {s : Shared} {Q : VK} {k k' : Bool} (I : Inv X pins σ H s) (q : Q (.bl k) H) (e : k = k') : EP X pins σ Q (.bool k') s := by
  subst e
  exact ⟨.bl k, H, I, rfl, q⟩
theorem op_eq : OpR X (compareOp .Eq) rEq := by
  intro pins s σ H x y v u Q I rx ry h
  obtain ⟨hs, q⟩ := h
  cases x with
  | non =>
    cases rx
    cases y with
    | non => cases ry; exact PySem.EqNone.eq_none_none (fin_bl I q (by simp))
    | bl j => cases ry; exact PySem.EqNone.eq_none_bool (fin_bl I q (by simp))
    | int j => obtain ⟨t', rfl⟩ := ry; exact PySem.EqNone.eq_none_int (fin_bl I q (by simp))
    | str j => obtain ⟨t', rfl⟩ := ry; exact PySem.EqNone.eq_none_str (fin_bl I q (by simp))
    | _ => exact absurd (show false = true from hs) Bool.false_ne_true
  | bl i =>
    cases rx
    cases y with
    | non => cases ry; exact PySem.EqNone.eq_bool_none (fin_bl I q (by simp))
    | bl j => cases ry; exact eq_bool (fin_bl I q dec_bl)
    | str j => obtain ⟨t', rfl⟩ := ry; exact PySem.EqMixed.eq_bool_str (fin_bl I q (by simp))
    | _ => exact absurd (show false = true from hs) Bool.false_ne_true
  | int i =>
    obtain ⟨t, rfl⟩ := rx
    cases y with
    | non => cases ry; exact PySem.EqNone.eq_int_none (fin_bl I q (by simp))
    | int j => obtain ⟨t', rfl⟩ := ry; exact eq_int (fin_bl I q dec_int)
    | str j => obtain ⟨t', rfl⟩ := ry; exact PySem.EqMixed.eq_int_str (fin_bl I q (by simp))
    | _ => exact absurd (show false = true from hs) Bool.false_ne_true
  | str i =>
    obtain ⟨t, rfl⟩ := rx
    cases y with
    | non => cases ry; exact PySem.EqNone.eq_str_none (fin_bl I q (by simp))
    | bl j => cases ry; exact PySem.EqMixed.eq_str_bool (fin_bl I q (by simp))
    | int j => obtain ⟨t', rfl⟩ := ry; exact PySem.EqMixed.eq_str_int (fin_bl I q (by simp))
    | str j => obtain ⟨t', rfl⟩ := ry; exact eq_str (fin_bl I q dec_str)
    | _ => exact absurd (show false = true from hs) Bool.false_ne_true
  | byt i =>
    obtain ⟨t, rfl⟩ := rx
    cases y with
    | byt j => obtain ⟨t', rfl⟩ := ry; exact PySem.W.eq_bytes (fin_bl I q dec_byt)
    | _ => exact absurd (show false = true from hs) Bool.false_ne_true
  | _ => cases y <;> exact absurd (show false = true from hs) Bool.false_ne_true
theorem op_ne : OpR X (compareOp .NotEq) rNe := by
  intro pins s σ H x y v u Q I rx ry h
  obtain ⟨hs, q⟩ := h
  cases x with
  | non =>
    cases rx
    cases y with
    | non => cases ry; exact PySem.EqNone.ne_none_none (fin_bl I q (by simp))
    | bl j => cases ry; exact PySem.EqNone.ne_none_bool (fin_bl I q (by simp))
    | int j => obtain ⟨t', rfl⟩ := ry; exact PySem.EqNone.ne_none_int (fin_bl I q (by simp))
    | str j => obtain ⟨t', rfl⟩ := ry; exact PySem.EqNone.ne_none_str (fin_bl I q (by simp))
    | _ => exact absurd (show false = true from hs) Bool.false_ne_true
  | bl i =>
    cases rx
    cases y with
    | non => cases ry; exact PySem.EqNone.ne_bool_none (fin_bl I q (by simp))
    | bl j => cases ry; exact ne_bool (fin_bl I q (congrArg not dec_bl))
    | str j => obtain ⟨t', rfl⟩ := ry; exact PySem.EqMixed.ne_bool_str (fin_bl I q (by simp))
    | _ => exact absurd (show false = true from hs) Bool.false_ne_true
  | int i =>
    obtain ⟨t, rfl⟩ := rx
    cases y with
    | non => cases ry; exact PySem.EqNone.ne_int_none (fin_bl I q (by simp))
    | int j => obtain ⟨t', rfl⟩ := ry; exact ne_int (fin_bl I q (congrArg not dec_int))
    | str j => obtain ⟨t', rfl⟩ := ry; exact PySem.EqMixed.ne_int_str (fin_bl I q (by simp))
    | _ => exact absurd (show false = true from hs) Bool.false_ne_true
  | str i =>
    obtain ⟨t, rfl⟩ := rx
    cases y with
    | non => cases ry; exact PySem.EqNone.ne_str_none (fin_bl I q (by simp))
    | bl j => cases ry; exact PySem.EqMixed.ne_str_bool (fin_bl I q (by simp))
    | int j => obtain ⟨t', rfl⟩ := ry; exact PySem.EqMixed.ne_str_int (fin_bl I q (by simp))
    | str j => obtain ⟨t', rfl⟩ := ry; exact ne_str (fin_bl I q (congrArg not dec_str))
    | _ => exact absurd (show false = true from hs) Bool.false_ne_true
  | byt i =>
    obtain ⟨t, rfl⟩ := rx
    cases y with
    | byt j => obtain ⟨t', rfl⟩ := ry; exact PySem.W.ne_bytes (fin_bl I q (congrArg not dec_byt))
    | _ => exact absurd (show false = true from hs) Bool.false_ne_true
  | _ => cases y <;> exact absurd (show false = true from hs) Bool.false_ne_true
theorem op_lt : OpR X (compareOp .Lt) (rI0 fun i j => .bl (decide (i < j))) := opB0 fun _ _ _ _ _ _ _ q => lt_int q
theorem op_gt : OpR X (compareOp .Gt) (rI0 fun i j => .bl (decide (j < i))) := opB0 fun _ _ _ _ _ _ _ q => gt_int q
theorem op_ge : OpR X (compareOp .GtE) (rI0 fun i j => .bl (decide (j ≤ i))) := opB0 fun _ _ _ _ _ _ _ q => ge_int q
theorem nomark (b : Expr) {op : CmpOp} (h : op ≠ .In := by decide) (h2 : op ≠ .NotIn := by decide) : behindInMarks op b = false := by
  have e1 : (op == CmpOp.In) = false := by cases op <;> first | rfl | exact absurd rfl h
  have e2 : (op == CmpOp.NotIn) = false := by cases op <;> first | rfl | exact absurd rfl h2
  cases b <;> simp [behindInMarks, e1, e2]
theorem pe_cmpR {op : CmpOp} {r : R2} (ho : OpR X (compareOp op) r) (ha : PE X a ta) (hb : PE X b tb) (hm : behindInMarks op b = false) : PE X (.Compare a [op] [b] pos) (tOp r ta tb) := by
  intro pins s σ H Q I h
  exact wpAny_Compare1 (binT ha hb I h fun v u s2 x y H2 I2 rx ry q => ho pins s2 σ H2 x y v u Q I2 rx ry q) hm
def tTest (t : TE) : TT := fun σ H Q => t σ H fun x H' => ∃ k, x = .bl k ∧ Q k H'
theorem pt_cmpR {op : CmpOp} {r : R2} (ho : OpR X (compareOp op) r) (ha : PE X a ta) (hb : PE X b tb) (hm : behindInMarks op b = false) : PT X (.Compare a [op] [b] pos) (tTest (tOp r ta tb)) := by
  intro pins s σ H Q I h
  refine wpAny_isTrue_Compare1 (thn (ha pins s σ H _ I h) fun v s1 ⟨x, H1, I1, r1, q1⟩ => thn (hb pins s1 σ H1 _ I1 q1) fun u s2 ⟨y, H2, I2, r2, q2⟩ =>
    thn (ho pins s2 σ H2 x y v u _ I2 r1 r2 q2) fun c s3 ⟨z, H3, I3, r3, k, e, q3⟩ => ?_) hm
  subst e
  cases r3
  exact wpAny_truthy_bool ⟨H3, I3, q3⟩
def TruV (K : PySem.W.Frag) (x : V) (H : Hp) (k : Bool) : Prop :=
  match x with
  | .non => k = false
  | .bl b => k = b
  | .int i => k = (i != 0)
  | .str y => y.length ≤ sizeLine ∧ k = ((y.length : Int) != 0)
  | .byt y => y.size ≤ sizeLine ∧ k = ((y.size : Int) != 0)
  | .ref p => (∃ xs, SqL K H p xs ∧ k = !xs.isEmpty) ∨ (∃ xs, SqT K H p xs ∧ k = !xs.isEmpty) ∨ ∃ kvs, H p = some (.dK kvs) ∧ k = !kvs.isEmpty
  | _ => False
theorem isEmpty_kv {κ : Type} {kvs : List (κ × V)} {vs : List (κ × Value)} (r : KV kvs vs) : (!vs.isEmpty) = !kvs.isEmpty := by
  cases r <;> rfl
theorem isEmpty_of {xs : List V} {its : List Value} (r : Vals xs its) : (!its.toArray.isEmpty) = !xs.isEmpty := by
  cases r <;> simp
theorem line63 : (sizeLine : Nat) < 2 ^ 63 := by rw [sizeLine_eq]; decide
theorem tru_ok : TruR X (fun x H Q => ∃ k, TruV X.K x H k ∧ Q k H) := by
  intro pins s σ H x v Q I rx h
  obtain ⟨k, e, q⟩ := h
  have hl := line63
  have hs : sizeLine = 16777216 := sizeLine_eq
  cases x with
  | non =>
    cases rx
    have e' : k = false := e
    subst e'
    exact truthy_none ⟨H, I, q⟩
  | bl b =>
    cases rx
    have e' : k = b := e
    subst e'
    exact wpAny_truthy_bool ⟨H, I, q⟩
  | int i =>
    obtain ⟨t, rfl⟩ := rx
    have e' : k = (i != 0) := e
    subst e'
    exact PySem.P.truthy_int ⟨H, I, q⟩
  | str y =>
    obtain ⟨t, rfl⟩ := rx
    obtain ⟨hy, e'⟩ : y.length ≤ sizeLine ∧ k = ((y.length : Int) != 0) := e
    subst e'
    exact PySem.P.truthy_str (by omega) ⟨H, I.tok _, q⟩
  | byt y =>
    obtain ⟨t, rfl⟩ := rx
    obtain ⟨hy, e'⟩ : y.size ≤ sizeLine ∧ k = ((y.size : Int) != 0) := e
    subst e'
    exact PySem.W.truthy_bytes (by omega) ⟨H, I.tok _, q⟩
  | ref p =>
    cases rx
    have e' : (∃ xs, SqL X.K H p xs ∧ k = !xs.isEmpty) ∨ (∃ xs, SqT X.K H p xs ∧ k = !xs.isEmpty) ∨ ∃ kvs, H p = some (.dK kvs) ∧ k = !kvs.isEmpty := e
    rcases e' with ⟨xs, hx, e'⟩ | ⟨xs, hx, e'⟩ | ⟨kvs, hx, e'⟩
    · subst e'
      obtain ⟨its, r, pl, hz⟩ := I.list hx
      have hlen := r.length
      exact wpAny_truthy_list pl.isList (by simp only [List.size_toArray]; omega) ⟨H, I.tok _, by rw [isEmpty_of r]; exact q⟩
    · subst e'
      obtain ⟨its, r, pl, hz⟩ := I.tuple hx
      have hlen := r.length
      exact truthy_tuple pl (by simp only [List.size_toArray]; omega) ⟨H, I.tok _, by rw [isEmpty_of r]; exact q⟩
    · subst e'
      obtain ⟨hz, hS, vs, r, m⟩ : kvs.length ≤ sizeLine ∧ (p == sysModules) = false ∧ ∃ vs, KV kvs vs ∧ s.heap.DictOf (mixKind X.prog X.w) p vs := I.hok p _ hx
      have hlen : kvs.length = vs.length := Paired.length r
      exact wpAny_truthy_dict hS m (by omega) ⟨H, I.tok _, by rw [isEmpty_kv r]; exact q⟩
  | _ => exact (show False from e).elim
theorem pt_truth (ha : PE X a ta) (he : ∀ whole, isTrue a X.env whole = (do let v ← whole; standAt a.pos; holding [v] (truthy v))) :
    PT X a (fun σ H Q => ta σ H fun x H' => ∃ k, TruV X.K x H' k ∧ Q k H') := by
  intro pins s σ H Q I h
  exact isTrue_plain (thn (ha pins s σ H _ I h) fun v s1 ⟨x, H1, I1, r1, q1⟩ => tru_ok pins s1 σ H1 x v Q I1 r1 q1) (he _)
theorem vals1 {x : V} {us : List Value} (r : Vals [x] us) : ∃ u, us = [u] ∧ RelV x u := by
  cases r with
  | cons r1 r2 => cases r2; exact ⟨_, rfl, r1⟩
theorem vals2 {x y : V} {us : List Value} (r : Vals [x, y] us) : ∃ u w', us = [u, w'] ∧ RelV x u ∧ RelV y w' := by
  cases r with
  | cons r1 r2 =>
    cases r2 with
    | cons r3 r4 => cases r4; exact ⟨_, _, rfl, r1, r3⟩
theorem call_max2 (hc : X.calm = true) : CallR X (.builtin "max") (fun xs H Q => ∃ i j, xs = [.int i, .int j] ∧ Q (.int (if j > i then j else i)) H) := by
  intro pins s σ H xs us Q I r h
  obtain ⟨i, j, rfl, q⟩ := h
  obtain ⟨u, w', rfl, ⟨t, rfl⟩, ⟨t', rfl⟩⟩ := vals2 r
  refine max_two_ints (I.ok.hd hc) fun h' tk k => ⟨_, H, I.kept k, ?_, q⟩
  by_cases hj : j > i
  · rw [if_pos hj, if_pos hj]; exact ⟨_, rfl⟩
  · rw [if_neg hj, if_neg hj]; exact ⟨_, rfl⟩
end
end L2
namespace L2
open PySem PySem.Spec PyProof.Rows
structure ObjM (h : Heap) (x dx C : Addr) (mA : Str → Option Value) : Prop where
  obj : h.get? x = some (PySem.W.instObj C dx)
  ns : h.Ns1 dx mA
  ne : dx ≠ x
theorem lookIn_ns {h : Heap} {dx : Addr} {mA : Str → Option Value} (n : h.Ns1 dx mA) : ∃ od, h.get? dx = some od ∧ ∀ name, PySem.W.lookIn name od = some (mA name) := by
  obtain ⟨o, es, ep, ho, hd, hk, _, hm⟩ := n
  refine ⟨o, ho, fun name => ?_⟩
  have e := hm name
  unfold nsFind findBy at e
  rw [← Array.find?_toList] at e
  unfold PySem.W.lookIn
  rw [hd]
  dsimp only
  split
  · rename_i y q
    rw [q] at e
    exact congrArg some e
  · rename_i q
    rw [q] at e
    have a : es.toList.any (·.refKey) = false := by
      rw [List.any_eq_false]
      intro y hy
      obtain ⟨z, t, hkey⟩ := hk y (Array.mem_toList_iff.mp hy)
      simp [DictEntry.refKey, hkey]
    have a' : ¬ es.toList.any (·.refKey) = true := by rw [a]; exact Bool.false_ne_true
    rw [if_neg a']
    exact congrArg some e
theorem ObjM.look {h : Heap} {x dx C : Addr} {mA : Str → Option Value} (I : ObjM h x dx C mA) : ∃ od, PySem.W.InstAt h x (PySem.W.instObj C dx) C (some od) ∧ ∀ name, PySem.W.lookIn name od = some (mA name) :=
  let ⟨od, ho, hl⟩ := lookIn_ns I.ns
  ⟨od, ⟨I.obj, rfl, rfl, ho⟩, hl⟩
section
variable {prog : Program} {w : World} {A : Around} {E : Value → Shared → Prop} {s : Shared} {K : PySem.W.Frag} {x dx C f : Addr} {mA : Str → Option Value} {name : Str} {v : Value}
theorem get_map {expr : Bool} {Q : Value → Shared → Prop} (X : K.In s.heap) (I : ObjM s.heap x dx C mA) (hg : PySem.W.plainGet K C name = true) (hh : PySem.W.hasDictIn K C = true)
    (ha : PySem.W.findIn K (.ref C) name = some none) (hv : mA name = some v) (hv' : PySem.W.handedIn v = true) (h : Q v { s with toks := s.toks + 1 }) :
    wpAny (model prog w) A (getAttr (.ref x) name expr) Q E s := by
  obtain ⟨od, J, hl⟩ := I.look
  exact PySem.W.get_value X J (PySem.W.plainGet_of hg).1 (PySem.W.findObj_own hh ha rfl (by rw [hl, hv])) hv' h
theorem get_meth {pl : Sem Bool} {Q : Value × List Value → Shared → Prop} (X : K.In s.heap) (I : ObjM s.heap x dx C mA) (hg : PySem.W.plainGet K C name = true)
    (hf : PySem.W.findIn K (.ref C) name = some (some (.ref f))) (ht : PySem.W.isFn K (.ref f) = true) (hv : mA name = none) (h : Q (.ref f, [.ref x]) s) :
    wpAny (model prog w) A (getMethod (.ref x) name pl) Q E s := by
  obtain ⟨od, J, hl⟩ := I.look
  exact PySem.W.method_fn X J (PySem.W.plainGet_of hg).1 (PySem.W.plainGet_of hg).2 hf (beq_iff_eq.mp ht) (by show (PySem.W.lookIn name od).map (·.isSome) = some false; rw [hl, hv]; rfl) h
theorem set_map {ns : List Str} {Q : Unit → Shared → Prop} (X : K.In s.heap) (I : ObjM s.heap x dx C mA)
    (hs : PySem.W.findIn K (.ref C) "__setattr__" = some (some (.builtin "object.__setattr__"))) (hp : PySem.W.plainOver K C = true) (ht : PySem.W.takerIn K C name = some none) (hh : PySem.W.hasDictIn K C = true)
    (hw : PySem.Within mA ns) (hsz : ns.length ≤ sizeLine)
    (h : ∀ h', ObjM h' x dx C (fun y => if y = name then some v else mA y) → Heap.SameBut dx s.heap h' → Q () { s with heap := h', toks := s.toks + 2 }) :
    wpAny (model prog w) A (setAttr (.ref x) name v) Q E s := by
  obtain ⟨od, J, hl⟩ := I.look
  refine PySem.W.set_plain X J hs (PySem.W.osa_open (s := { s with toks := s.toks + 1 }) (r := none) X J hp ht fun b => ?_)
  obtain ⟨cd, hc, hd'⟩ := PySem.W.any_some hh
  have hx : s.heap.get? x = some ⟨.ref C, some dx, .plain, #[]⟩ := I.obj
  refine wpAny_bind (wpAny_pure (wpAny_bind (wpAny_bind (wpAny_loadPart hx (wpAny_bind (PySem.W.Looks.here (s := { s with toks := s.toks + 1 }) (PySem.W.looks_clsIn X hc) ?_))))))
  rw [hd']
  refine wpAny_pure (a := some dx) (wpAny_bind (wpAny_pure (wpAny_bind ?_)))
  refine wpAny_nsSet1 (s := { s with toks := s.toks + 1 }) I.ns fun h' hn2 hs2 => ?_
  obtain ⟨oD, esD, epD, hoD, hdD, hcD⟩ := hn2.count (PySem.Within.cons name v hw)
  refine wpAny_bind (wpAny_lookBehind hoD (by rw [hdD]; exact pastItsLine_dict (Nat.le_trans hcD (by rw [List.length_cons]; omega))) ?_)
  exact wpAny_pure (h _ ⟨(hs2.2 _ (Ne.symm I.ne)).trans I.obj, hn2, I.ne⟩ hs2)
theorem make_map {R : Result → Shared → Prop} {vs : List Value} {kw : List (Str × Value)} (X : K.In s.heap) (hm : PySem.W.makesIn K C = true)
    (hi : PySem.W.findIn K (.ref C) "__init__" = some (some (.ref f))) (hf : PySem.W.typeIn K (.ref f) = some (.type "function"))
    (h : codeAny (model prog w) (A.under (.builtin "type.__call__" ⟨.ref C :: vs, kw⟩)) (.call (.ref f) ⟨.ref (s.heap.objs.size + 1) :: vs, kw⟩) (PySem.W.InitBack (s.heap.objs.size + 1) R)
      { s with heap := (s.heap.push PySem.W.emptyDict).push (PySem.W.instObj C s.heap.objs.size) }) :
    codeAny (model prog w) A (.call (.ref C) ⟨vs, kw⟩) R s := by
  obtain ⟨hh, g, d, t, os⟩ := s
  exact PySem.W.make_core (PySem.W.makes_of X hm) (PySem.W.looks_findIn X hi) (fun self => PySem.W.bind_fn X self hf) (.inl rfl) h
end
def putF (f : Str) (v : V) : List (Str × V) → List (Str × V)
  | [] => [(f, v)]
  | (g, x) :: r => if g = f then (g, v) :: r else (g, x) :: putF f v r
theorem lookup_putF (f g : Str) (v : V) : ∀ fs : List (Str × V), (putF f v fs).lookup g = if g = f then some v else fs.lookup g
  | [] => by
    show List.lookup g [(f, v)] = _
    by_cases h : g = f
    · have hb : (g == f) = true := beq_iff_eq.mpr h
      simp only [List.lookup, hb, if_pos h]
    · have hb : (g == f) = false := beq_eq_false_iff_ne.mpr h
      simp only [List.lookup, hb, if_neg h]
  | (k, x) :: r => by
    have ih := lookup_putF f g v r
    rw [show putF f v ((k, x) :: r) = (if k = f then (k, v) :: r else (k, x) :: putF f v r) from rfl]
    by_cases hk : k = f
    · rw [if_pos hk]
      by_cases h : g = k
      · have hb : (g == k) = true := beq_iff_eq.mpr h
        simp only [List.lookup, hb, if_pos (h.trans hk)]
      · have hb : (g == k) = false := beq_eq_false_iff_ne.mpr h
        simp only [List.lookup, hb, if_neg (fun e : g = f => h (e.trans hk.symm))]
    · rw [if_neg hk]
      by_cases h : g = k
      · have hb : (g == k) = true := beq_iff_eq.mpr h
        simp only [List.lookup, hb, if_neg (fun e : g = f => hk (h.symm.trans e))]
      · have hb : (g == k) = false := beq_eq_false_iff_ne.mpr h
        simp only [List.lookup, hb]
        exact ih
theorem keys_putF (f : Str) (v : V) : ∀ fs : List (Str × V), f ∈ (putF f v fs).map (·.1) ∧ ∀ g, g ∈ fs.map (·.1) → g ∈ (putF f v fs).map (·.1)
  | [] => ⟨by simp [putF], fun g h => by simp at h⟩
  | (k, x) :: r => by
    obtain ⟨i1, i2⟩ := keys_putF f v r
    rw [show putF f v ((k, x) :: r) = (if k = f then (k, v) :: r else (k, x) :: putF f v r) from rfl]
    by_cases hk : k = f
    · rw [if_pos hk]
      subst hk
      exact ⟨by simp, fun g h => by simpa using h⟩
    · rw [if_neg hk]
      refine ⟨?_, fun g h => ?_⟩
      · rw [List.map_cons]
        exact List.mem_cons_of_mem _ i1
      · rw [List.map_cons] at h ⊢
        rcases List.mem_cons.mp h with e | e
        · exact List.mem_cons.mpr (.inl e)
        · exact List.mem_cons_of_mem _ (i2 g e)
theorem length_putF (f : Str) (v : V) : ∀ fs : List (Str × V), (putF f v fs).length ≤ fs.length + 1
  | [] => by simp [putF]
  | (k, x) :: r => by
    have ih := length_putF f v r
    rw [show putF f v ((k, x) :: r) = (if k = f then (k, v) :: r else (k, x) :: putF f v r) from rfl]
    by_cases hk : k = f
    · rw [if_pos hk, List.length_cons, List.length_cons]; omega
    · rw [if_neg hk, List.length_cons, List.length_cons]; omega
theorem RelO.some_of {v : V} {o : Option Value} (r : RelO (some v) o) : ∃ u, o = some u ∧ RelV v u := by
  cases o with
  | none => exact (show False from r).elim
  | some u => exact ⟨u, rfl, r⟩
theorem RelO.none_of {o : Option Value} (r : RelO none o) : o = none := by
  cases o with
  | none => rfl
  | some u => exact (show False from r).elim
theorem handed_of {v : V} {u : Value} (r : RelV v u) : PySem.W.handedIn u = true := by
  cases v with
  | non => cases (show u = Value.none from r); rfl
  | bl b => cases (show u = Value.bool b from r); rfl
  | int i => obtain ⟨t, e⟩ := (show ∃ t, u = Value.int i t from r); cases e; rfl
  | str x => obtain ⟨t, e⟩ := (show ∃ t, u = Value.str x t from r); cases e; rfl
  | byt b => obtain ⟨t, e⟩ := (show ∃ t, u = Value.bytes b t from r); cases e; rfl
  | flt b => obtain ⟨t, e⟩ := (show ∃ t, u = Value.float b t from r); cases e; rfl
  | ref a => cases (show u = Value.ref a from r); rfl
  | ty n => cases (show u = Value.type n from r); rfl
section
variable {P : Program} {w : World} {H H' : Hp} {h h' : Heap} {a C dx : Addr} {fs fs' : List (Str × V)}
theorem ins_get (hok : HOk P w H h) (e : H a = some (.ins C dx fs)) : ∃ mA, ObjM h a dx C mA ∧ (∀ f, RelO (fs.lookup f) (mA f)) ∧ PySem.Within mA (fs.map (·.1)) ∧ fs.length ≤ 1000 ∧ H dx = some (.own a) := by
  obtain ⟨d, z, ne, ob, mA, n, r, q⟩ := (show ObjOk P w H h a (.ins C dx fs) from hok a _ e)
  exact ⟨mA, ⟨ob, n, ne⟩, r, q, z, d⟩
end
structure Cls (K : PySem.W.Frag) (C : Addr) : Prop where
  pg : PySem.W.plainGet K C Str.empty = true
  hd : PySem.W.hasDictIn K C = true
  po : PySem.W.plainOver K C = true
  sa : PySem.W.findIn K (.ref C) "__setattr__" = some (some (.builtin "object.__setattr__"))
theorem Cls.get {K : PySem.W.Frag} {C : Addr} (c : Cls K C) (f : Str) : PySem.W.plainGet K C f = true := c.pg
def NoAttr (K : PySem.W.Frag) (C : Addr) (f : Str) : Prop := PySem.W.findIn K (.ref C) f = some none
theorem NoAttr.taker {K : PySem.W.Frag} {C : Addr} {f : Str} (n : NoAttr K C f) : PySem.W.takerIn K C f = some none := by
  unfold PySem.W.takerIn
  rw [show PySem.W.findIn K (.ref C) f = some none from n]
  rfl
structure Con (K : PySem.W.Frag) (C : Addr) (f : Str) (v : V) (u : Value) : Prop where
  at_ : PySem.W.findIn K (.ref C) f = some (some u)
  rel : RelV v u
  get : PySem.W.specialIn K u "__get__" = some none
  cp : PySem.W.copiedNames.contains f = false
structure Meth (K : PySem.W.Frag) (C : Addr) (m : Str) (f : Addr) : Prop where
  at_ : PySem.W.findIn K (.ref C) m = some (some (.ref f))
  fn : PySem.W.isFn K (.ref f) = true
  kp : PySem.W.keepIn K (.ref f) = true
section
variable {X : Cx} {pins : List (Addr × Obj)} {σ : St} {H : Hp} {s : Shared} {a C dx : Addr} {fs : List (Str × V)} {f : Str} {v : V} {A : Around} {E : Value → Shared → Prop}
theorem getattr_ok {b : Bool} {Q : Value → Shared → Prop} (I : Inv X pins σ H s) (e : H a = some (.ins C dx fs)) (c : Cls X.K C) (n : NoAttr X.K C f) (l : fs.lookup f = some v)
    (h : ∀ u s', Inv X pins σ H s' → RelV v u → Q u s') : wpAny (model X.prog X.w) A (getAttr (.ref a) f b) Q E s := by
  obtain ⟨mA, O, r, _, _, _⟩ := ins_get I.hok e
  obtain ⟨u, hu, ru⟩ := RelO.some_of (v := v) (o := mA f) (by rw [← l]; exact r f)
  exact get_map I.kIn O (c.get f) c.hd n hu (handed_of ru) (h u _ (I.tok _) ru)
theorem getmeth_ok {m : Str} {g : Addr} {pl : Sem Bool} {Q : Value × List Value → Shared → Prop} (I : Inv X pins σ H s) (e : H a = some (.ins C dx fs)) (c : Cls X.K C) (k : Meth X.K C m g) (l : fs.lookup m = none)
    (h : Q (.ref g, [.ref a]) s) : wpAny (model X.prog X.w) A (getMethod (.ref a) m pl) Q E s := by
  obtain ⟨mA, O, r, _, _, _⟩ := ins_get I.hok e
  have hn : mA m = none := RelO.none_of (by rw [← l]; exact r m)
  exact get_meth I.kIn O (c.get m) k.at_ k.fn hn h
theorem setattr_ok {y : V} {u : Value} {Q : Unit → Shared → Prop} (I : Inv X pins σ H s) (e : H a = some (.ins C dx fs)) (c : Cls X.K C) (n : NoAttr X.K C f) (hl : fs.length < 1000) (ry : RelV y u)
    (h : ∀ s', Inv X pins σ (upd H a (.ins C dx (putF f y fs))) s' → Q () s') : wpAny (model X.prog X.w) A (setAttr (.ref a) f u) Q E s := by
  obtain ⟨mA, O, r, wi, _, ho⟩ := ins_get I.hok e
  have hz : (fs.map (·.1)).length ≤ sizeLine := by rw [List.length_map, sizeLine_eq]; omega
  refine set_map I.kIn O c.sa c.po n.taker c.hd wi hz fun h' O' sb => h _ ?_
  have hd : ∃ o, h'.get? dx = some o := let ⟨o, _, _, e', _⟩ := O'.ns; ⟨o, e'⟩
  refine I.write (x := a) (e := dx) (by rw [e]; exact True.intro) (.inr ho) (fun b q hb z => (sb.2 b hb).trans z) hd ?_
  refine ⟨by rw [upd_ne O.ne]; exact ho, ?_, O.ne, O'.obj, _, O'.ns, fun g => ?_, fun g hg => ?_⟩
  · have := length_putF f y fs; omega
  · show RelO ((putF f y fs).lookup g) (if g = f then some u else mA g)
    rw [lookup_putF]
    by_cases q : g = f
    · rw [if_pos q, if_pos q]; exact ry
    · rw [if_neg q, if_neg q]; exact r g
  · by_cases q : g = f
    · rw [q]; exact (keys_putF f y fs).1
    · refine (keys_putF f y fs).2 g (wi g fun z => hg ?_)
      show (if g = f then some u else mA g) = none
      rw [if_neg q]; exact z
theorem Inv.made (I : Inv X pins σ H s) : Inv X pins σ (upd (upd H s.heap.objs.size (.own (s.heap.objs.size + 1))) (s.heap.objs.size + 1) (.ins C s.heap.objs.size []))
    { s with heap := (s.heap.push PySem.W.emptyDict).push (PySem.W.instObj C s.heap.objs.size) } := by
  have e1 : (s.heap.push PySem.W.emptyDict).get? s.heap.objs.size = some PySem.W.emptyDict := Heap.get?_push_size s.heap rfl
  have e2 : ((s.heap.push PySem.W.emptyDict).push (PySem.W.instObj C s.heap.objs.size)).get? (s.heap.objs.size + 1) = some (PySem.W.instObj C s.heap.objs.size) := by
    have := Heap.get?_push_size (s.heap.push PySem.W.emptyDict) (o := PySem.W.instObj C s.heap.objs.size) rfl
    rwa [Heap.size_push] at this
  have e3 : (s.heap.push PySem.W.emptyDict).Ns s.heap.objs.size (fun _ => none) := ⟨PySem.W.emptyDict, #[], _, e1, rfl, (fun e he => absurd he (by simp)), fun _ => rfl⟩
  have I1 := I.laid (a := s.heap.objs.size) (o := .own (s.heap.objs.size + 1)) (h' := s.heap.push PySem.W.emptyDict) (t' := s.toks) (fun b u q => Heap.get?_push_of_some _ q) (Nat.le_refl _) ⟨_, e1⟩
  refine I1.laid (a := s.heap.objs.size + 1) (o := .ins C s.heap.objs.size []) (t' := s.toks) (fun b u q => Heap.get?_push_of_some _ q) (Nat.le_of_eq (Heap.size_push _ _)) ?_
  have ne : s.heap.objs.size ≠ s.heap.objs.size + 1 := Nat.ne_of_lt (Nat.lt_succ_self _)
  refine ⟨by rw [upd_ne ne, upd_same], Nat.zero_le _, ne, e2, fun _ => none, (Heap.Ns1.of_empty e3).at fun o q => Heap.get?_push_of_some _ q, fun _ => True.intro, fun y hy => absurd rfl hy⟩
theorem attr_of {prog : Program} {w : World} {env : Env} {e : Expr} {f : Str} {pos : Pos} {s : Shared} {Q : Value → Shared → Prop} (hb : attributeBase e f env (eval e env) = eval e env)
    (h : wpAny (model prog w) A (eval e env) (fun o s₁ => wpAny (model prog w) A (getAttr o f true) Q E s₁) E s) : wpAny (model prog w) A (eval (.Attribute e f pos) env) Q E s :=
  Attribute_any_ h (by rw [arm_eval_Attribute, hb])
end
def tFld (K : PySem.W.Frag) (ta : TE) (f : Str) : TE := fun σ H Q => ta σ H fun x H1 => ∃ a C dx fs v, x = .ref a ∧ H1 a = some (.ins C dx fs) ∧ Cls K C ∧ NoAttr K C f ∧ fs.lookup f = some v ∧ Q v H1
def sFld (K : PySem.W.Frag) (ta tv : TE) (f : Str) : TS := fun D σ H => tv σ H fun y H1 => ta σ H1 fun x H2 => ∃ a C dx fs, x = .ref a ∧ H2 a = some (.ins C dx fs) ∧ Cls K C ∧ NoAttr K C f ∧ fs.length < 1000 ∧
  D.nx σ (upd H2 a (.ins C dx (putF f y fs)))
section
variable {X : Cx} {o e value : Expr} {f : Str} {pos pos' tpos : Pos} {ta tv : TE}
theorem pe_fld (he : PE X e ta) (hb : attributeBase e f X.env (eval e X.env) = eval e X.env) : PE X (.Attribute e f pos) (tFld X.K ta f) := by
  intro pins s σ H Q I h
  refine attr_of hb (thn (he pins s σ H _ I h) fun u s1 ⟨x, H1, I1, rx, a, C, dx, fs, v, ex, ea, c, n, l, q⟩ => ?_)
  subst ex
  obtain rfl : u = Value.ref a := rx
  exact getattr_ok I1 ea c n l fun u' s2 I2 ru => ⟨v, H1, I2, ru, q⟩
theorem ps_fld (ha : PE X o ta) (hv : PE X value tv) (hs : swapsWith value (some (.Attribute o f pos')) pos.line X.env = pure false) : PS X (.Assign [.Attribute o f pos'] value pos) (sFld X.K ta tv f) := by
  intro pins s σ H D I h
  refine plainObj_wpAny_Assign_Attribute (thn (hv pins s σ H _ I h) fun u s1 ⟨y, H1, I1, ry, q⟩ => thn (ha pins s1 σ H1 _ I1 q) fun ov s2 ⟨x, H2, I2, rx, a, C, dx, fs, ex, ea, c, n, l, q2⟩ => ?_) hs
  subst ex
  obtain rfl : ov = Value.ref a := rx
  exact setattr_ok I2 ea c n l ry fun s3 I3 => ⟨σ, _, I3, q2⟩
end
section
variable {X : Cx} {pins : List (Addr × Obj)} {σ : St} {H : Hp} {s : Shared} {A : Around} {E : Value → Shared → Prop} {Q : Value → Shared → Prop} {c : Value} {b : Bool}
inductive TyOf (K : PySem.W.Frag) (H : Hp) : V → Value → Prop where
  | non : TyOf K H .non (.type "NoneType")
  | bl (x : Bool) : TyOf K H (.bl x) (.type "bool")
  | int (i : Int) : TyOf K H (.int i) (.type "int")
  | str (x : Str) : TyOf K H (.str x) (.type "str")
  | flt (x : UInt64) : TyOf K H (.flt x) (.type "float")
  | lst {a : Addr} {xs : List V} (e : H a = some (.lst xs)) : TyOf K H (.ref a) (.type "list")
  | frz {a : Addr} {o : Obj} {xs : List V} (e : H a = some (.frz o (.lst xs))) : TyOf K H (.ref a) (.type "list")
  | tup {a : Addr} {xs : List V} (e : H a = some (.tup xs)) : TyOf K H (.ref a) (.type "tuple")
  | dK {a : Addr} {kvs : List (Key × V)} (e : H a = some (.dK kvs)) : TyOf K H (.ref a) (.type "dict")
  | dT {a : Addr} {kvs : List (List Key × V)} (e : H a = some (.dT kvs)) : TyOf K H (.ref a) (.type "dict")
  | ins {a C dx : Addr} {fs : List (Str × V)} (e : H a = some (.ins C dx fs)) (cl : Cls K C) (ha : PySem.W.findIn K (.ref C) "__class__" = some (some (.builtin "object.__class__")))
      (hn : PySem.W.specialIn K (.builtin "object.__class__") "__get__" = some (some (.builtin "getset_descriptor.__get__"))) (htk : PySem.W.takesIn K (.builtin "object.__class__") = some true)
      (hm : PySem.W.mroIn K C (.type "object") = some true) : TyOf K H (.ref a) (.ref C)
theorem isinst_ok {x : V} {u t : Value} (I : Inv X pins σ H s) (rx : RelV x u) (ty : TyOf X.K H x t) (e : PySem.W.kitOne X.K t c = some b) (h : ∀ tk, Q (.bool b) { s with toks := tk }) :
    wpAny (model X.prog X.w) A (call (.builtin "isinstance") [u, c]) Q E s := by
  cases ty with
  | non => cases (show u = Value.none from rx); exact PySem.W.kia_one PySem.W.kitx_none I.kIn True.intro e (fun z => nomatch z) h
  | bl y => cases (show u = Value.bool y from rx); exact PySem.W.kia_one PySem.W.kitx_bool I.kIn True.intro e (fun z => nomatch z) h
  | int i => obtain ⟨t, q⟩ := (show ∃ t, u = Value.int i t from rx); cases q; exact PySem.W.kia_one PySem.W.kitx_int I.kIn True.intro e (fun z => nomatch z) h
  | str y => obtain ⟨t, q⟩ := (show ∃ t, u = Value.str y t from rx); cases q; exact PySem.W.kia_one PySem.W.kitx_str I.kIn True.intro e (fun z => nomatch z) h
  | flt y => obtain ⟨t, q⟩ := (show ∃ t, u = Value.float y t from rx); cases q; exact PySem.W.kia_one PySem.W.kitx_float I.kIn True.intro e (fun z => nomatch z) h
  | @lst a xs ea =>
    cases (show u = Value.ref a from rx)
    obtain ⟨_, _, n, _, h1⟩ := (show ObjOk X.prog X.w H s.heap a (.lst xs) from I.hok a _ ea)
    exact PySem.W.kia_one PySem.W.kitx_list I.kIn ⟨_, h1, rfl⟩ e (fun z => nomatch z) h
  | @frz a ob xs ea =>
    cases (show u = Value.ref a from rx)
    obtain ⟨_, _, _, n, _, h1⟩ := (show ObjOk X.prog X.w H s.heap a (.frz ob (.lst xs)) from I.hok a _ ea)
    exact PySem.W.kia_one PySem.W.kitx_list I.kIn ⟨_, h1, rfl⟩ e (fun z => nomatch z) h
  | @tup a xs ea =>
    cases (show u = Value.ref a from rx)
    obtain ⟨_, _, _, p⟩ := (show ObjOk X.prog X.w H s.heap a (.tup xs) from I.hok a _ ea)
    obtain ⟨o, h1, h2, _⟩ := p
    exact PySem.W.kia_one PySem.W.kitx_tuple I.kIn ⟨o, h1, h2⟩ e (fun z => nomatch z) h
  | @dK a kvs ea =>
    cases (show u = Value.ref a from rx)
    obtain ⟨_, _, vs, _, p⟩ := (show ObjOk X.prog X.w H s.heap a (.dK kvs) from I.hok a _ ea)
    obtain ⟨o, es, ep, h1, h2, _⟩ := p
    exact PySem.W.kia_one PySem.W.kitx_dict I.kIn ⟨o, h1, h2.1⟩ e (fun z => nomatch z) h
  | @dT a kvs ea =>
    cases (show u = Value.ref a from rx)
    obtain ⟨_, _, xs, _, o, es, ep, h1, h2, _⟩ := (show ObjOk X.prog X.w H s.heap a (.dT kvs) from I.hok a _ ea)
    exact PySem.W.kia_one PySem.W.kitx_dict I.kIn ⟨o, h1, h2.1⟩ e (fun z => nomatch z) h
  | @ins a C dx fs ea cl ha hn htk hm =>
    cases (show u = Value.ref a from rx)
    obtain ⟨mA, O, _⟩ := ins_get I.hok ea
    obtain ⟨od, J, _⟩ := O.look
    exact PySem.W.kia_one (PySem.W.kitx_own (cl.get _) cl.hd ha hn htk hm) I.kIn J e (fun z => nomatch z) h
end
end L2
namespace L2
open PySem PySem.Spec PyProof.Rows
structure Room (k : Nat) (A : Around) : Prop where
  hd : A.handled = none
  dp : A.depth + 3 * k + 5 < recursionLimit
  un : A.units + 16 * k + 200 < cLine
theorem Room.mono {j k : Nat} {A : Around} (r : Room k A) (h : j ≤ k) : Room j A := ⟨r.hd, by have := r.dp; omega, by have := r.un; omega⟩
theorem Room.deeper {k : Nat} {A : Around} (r : Room (k + 1) A) (env : Env) : Room k (A.deeper env) :=
  ⟨r.hd, by have := r.dp; show A.depth + 1 + 3 * k + 5 < _; omega, by have := r.un; show A.units + 3 + 16 * k + 200 < _; omega⟩
theorem Room.in1 {k : Nat} {A : Around} (r : Room (k + 1) A) : Room k A.in1 :=
  ⟨r.hd, by have := r.dp; show A.depth + 3 * k + 5 < _; omega, by have := r.un; show A.units + 1 + 16 * k + 200 < _; omega⟩
theorem make_depth {A : Around} {C : Addr} {us : List Value} {kw : List (Str × Value)} : (A.under (.builtin "type.__call__" ⟨.ref C :: us, kw⟩)).depth = A.depth + 1 := by
  first | rfl | simp [Around.under, Code.weight, Code.isCreation, Code.isGuard, Code.isCaller, Code.frames, Code.isFrame, guardIds]
theorem make_units {A : Around} {C : Addr} {us : List Value} {kw : List (Str × Value)} : (A.under (.builtin "type.__call__" ⟨.ref C :: us, kw⟩)).units = A.units + 1 := by
  first | rfl | simp [Around.under, Code.cUnits, Code.frames, Code.isFrame]
theorem Room.make {k : Nat} {A : Around} (r : Room (k + 1) A) (C : Addr) (us : List Value) (kw : List (Str × Value)) : Room k (A.under (.builtin "type.__call__" ⟨.ref C :: us, kw⟩)) :=
  ⟨r.hd, by have := r.dp; rw [make_depth]; omega, by have := r.un; rw [make_units]; omega⟩
theorem Room.depth {k : Nat} {A : Around} (r : Room k A) : A.depth < recursionLimit := by have := r.dp; omega
theorem Room.units {k : Nat} {A : Around} (r : Room k A) : A.units + 64 < cLine := by have := r.un; omega
theorem Room.units0 {k : Nat} {A : Around} (r : Room k A) : A.units < cLine := by have := r.un; omega
def tNil : TA := fun _ H Q => Q [] H
def tCons (ta : TE) (tr : TA) : TA := fun σ H Q => ta σ H fun x H1 => tr σ H1 fun xs H2 => Q (x :: xs) H2
section
variable {X : Cx} {e : Expr} {es : List Expr} {te : TE} {t : TA} {pos : Pos}
theorem pa_nil : PA X [] tNil := fun _ _ _ _ H Q I h => Calls.spliced_nil ⟨[], H, I, .nil, h⟩
theorem pa_cons (ha : PE X e te) (hr : PA X es t) (hs : starEach (e :: es) X.env = (false, eval e X.env) :: starEach es X.env := by rfl) : PA X (e :: es) (tCons te t) := by
  intro pos pins s σ H Q I h
  rw [hs]
  show wpAny _ _ (spliced ((false, eval e X.env) :: backTo pos (starEach es X.env))) _ _ s
  refine Calls.spliced_cons (thn (ha pins s σ H _ I h) fun u s1 ⟨x, H1, I1, r1, q1⟩ => ?_)
  exact thn (hr pos pins s1 σ H1 _ I1 q1) fun us s2 ⟨xs, H2, I2, r2, q2⟩ => ⟨x :: xs, H2, I2, .cons r1 r2, q2⟩
def tTup (t : TA) : TE := fun σ H Q => t σ H fun xs H1 => xs.length ≤ sizeLine ∧ ∀ p, H1 p = none → Q (.ref p) (upd H1 p (.tup xs))
def tLst (t : TA) : TE := fun σ H Q => t σ H fun xs H1 => xs.length ≤ sizeLine ∧ ∀ p, H1 p = none → Q (.ref p) (upd H1 p (.lst xs))
theorem pe_tup {x1} (h : PA X es t) : PE X (.Tuple es x1 pos) (tTup t) := by
  intro pins s σ H Q I hq
  refine wpAny_Tuple_spliced (thn (h pos pins s σ H _ I hq) fun us s1 ⟨xs, H1, I1, r, z, q⟩ => ⟨by rw [← r.length]; exact z, ?_⟩)
  have hf : H1 s1.heap.objs.size = none := I1.hok.fresh (Nat.le_refl _)
  refine ⟨.ref s1.heap.objs.size, upd H1 s1.heap.objs.size (.tup xs), I1.laid (t' := s1.toks) (fun b u e => Heap.get?_push_of_some _ e) (Nat.le_refl _) ?_, rfl, q _ hf⟩
  exact ⟨z, us, r, IsTpl.new _ _⟩
theorem pe_lst (h : PA X es t) : PE X (.List es pos) (tLst t) := by
  intro pins s σ H Q I hq
  refine wpAny_List_spliced (thn (h pos pins s σ H _ I hq) fun us s1 ⟨xs, H1, I1, r, z, q⟩ => ⟨by rw [← r.length]; exact z, ?_⟩)
  have hf : H1 s1.heap.objs.size = none := I1.hok.fresh (Nat.le_refl _)
  refine ⟨.ref s1.heap.objs.size, upd H1 s1.heap.objs.size (.lst xs), I1.laid (t' := s1.toks) (fun b u e => Heap.get?_push_of_some _ e) (Nat.le_refl _) ?_, rfl, q _ hf⟩
  exact ⟨z, us, 0, r, Heap.get?_push_size _ rfl⟩
end
abbrev Sp := List V → Hp → VK → XK → Prop
abbrev CXT := List Env → Hp → Shared → XK → Value → Shared → Prop
structure Env0 (P : Program) (w : World) (K : PySem.W.Frag) (mg : Str → Option Value) (base : Heap) (A : Around) (outer : List Env) (s : Shared) (H : Hp) : Prop where
  frames : A.frames = some outer
  mod : Mod K mg base
  bs : ∀ b o, base.get? b = some o → s.heap.get? b = some o ∧ H b = none
  bsz : base.objs.size ≤ s.heap.objs.size
  funs : s.heap.FunFrames base outer
  frf : ∀ b ∈ frs outer, H b = none
  hok : HOk P w H s.heap
  bare : AllBare s.gens
def CE (outer : List Env) (P : Program) (w : World) (H : Hp) (s : Shared) (Q : VK) (u : Value) (s' : Shared) : Prop :=
  ∃ v H', s'.os = s.os ∧ AllBare s'.gens ∧ Un (frs outer) [] H H' s.heap s'.heap ∧ HOk P w H' s'.heap ∧ RelV v u ∧ Q v H'
def CR (CX : CXT) (outer : List Env) (P : Program) (w : World) (H : Hp) (s : Shared) (Q : VK) (E : XK) (r : Result) (s' : Shared) : Prop :=
  match r with
  | .ok (.ret u) => CE outer P w H s Q u s'
  | .ok _ => False
  | .error e => CX outer H s E e s'
structure FnOk (P : Program) (w : World) (K : PySem.W.Frag) (mg : Str → Option Value) (base : Heap) (CX : CXT) (k : Nat) (f : Addr) (fd : FuncData) (ps : List Str) (sp : Sp) : Prop where
  len : ∀ vs H Q E, sp vs H Q E → vs.length = ps.length
  run : ∀ (A : Around) (outer : List Env) (s : Shared) (H : Hp) (args : Args) (us : List Value) (vs : List V) (Q : VK) (E : XK), Room k A → Env0 P w K mg base A outer s H → BindsTo s fd args (ps.zip us) → Vals vs us → sp vs H Q E →
    codeAny (model P w) A (.call (.ref f) args) (CR CX outer P w H s Q E) s
theorem FnOk.mono {P : Program} {w : World} {K : PySem.W.Frag} {mg : Str → Option Value} {base : Heap} {CX : CXT} {j k : Nat} {f : Addr} {fd : FuncData} {ps : List Str} {sp : Sp} (F : FnOk P w K mg base CX j f fd ps sp) (h : j ≤ k) :
    FnOk P w K mg base CX k f fd ps sp := ⟨F.len, fun A outer s H args us vs Q E hr => F.run A outer s H args us vs Q E (hr.mono h)⟩
theorem Env0.make {P : Program} {w : World} {K : PySem.W.Frag} {mg : Str → Option Value} {base : Heap} {A : Around} {outer : List Env} {s : Shared} {H : Hp} (e : Env0 P w K mg base A outer s H) (C : Addr) (us : List Value) (kw : List (Str × Value)) :
    Env0 P w K mg base (A.under (.builtin "type.__call__" ⟨.ref C :: us, kw⟩)) outer s H := ⟨by first | exact e.frames | (simpa [Around.under, Code.envs, Code.isFrame, pushEnvs] using e.frames), e.mod, e.bs, e.bsz, e.funs, e.frf, e.hok, e.bare⟩
theorem Env0.in1 {P : Program} {w : World} {K : PySem.W.Frag} {mg : Str → Option Value} {base : Heap} {A : Around} {outer : List Env} {s : Shared} {H : Hp} (e : Env0 P w K mg base A outer s H) :
    Env0 P w K mg base A.in1 outer s H := ⟨e.frames, e.mod, e.bs, e.bsz, e.funs, e.frf, e.hok, e.bare⟩
section
variable {X : Cx} {pins : List (Addr × Obj)} {σ : St} {H : Hp} {s s' : Shared}
theorem Inv.env0 (I : Inv X pins σ H s) : Env0 X.prog X.w X.K X.mg X.base X.A X.stack s H :=
  ⟨I.ok.frames, I.ok.mod, I.bs, Nat.le_trans I.ok.bsz I.sz, I.stack, I.stkFree, I.hok, I.bare⟩
theorem Inv.after {Q : VK} {u : Value} (I : Inv X pins σ H s) (h : CE X.stack X.prog X.w H s Q u s') : EP X pins σ Q u s' := by
  obtain ⟨v, H', os, bare, un, hok, r, q⟩ := h
  obtain ⟨hh, g, d, t, os'⟩ := s'
  obtain rfl : os' = s.os := os
  exact ⟨v, H', I.call (h' := hh) (g' := g) (d' := d) (t' := t) (ch := []) un hok bare (fun b z => absurd z (by simp)), r, q⟩
end
def tCall (sp : Sp) (dvs : List V) (E : XK) (t : TA) : TE := fun σ H Q => t σ H fun vs H1 => sp (vs ++ dvs) H1 Q E
def tMake (C : Addr) (sp : Sp) (dvs : List V) (E : XK) (t : TA) : TE := fun σ H Q => t σ H fun vs H1 => ∀ x dx, H1 x = none → H1 dx = none → dx ≠ x →
  sp (.ref x :: (vs ++ dvs)) (upd (upd H1 dx (.own x)) x (.ins C dx [])) (fun v H2 => v = .non ∧ Q (.ref x) H2) E
def Binds (K : PySem.W.Frag) (fd : FuncData) (ps : List Str) (ds : List Value) : Prop :=
  ∀ (s : Shared) (us : List Value), K.In s.heap → (us ++ ds).length = ps.length → BindsTo s fd ⟨us, []⟩ (ps.zip (us ++ ds))
theorem Binds.all {K : PySem.W.Frag} {fd : FuncData} {ps : List Str} (h : ∀ us : List Value, us.length = ps.length → bindArgs fd ⟨us, []⟩ = pure (ps.zip us)) : Binds K fd ps [] := fun s us _ hl => by
  rw [List.append_nil] at hl ⊢
  exact .of_eq (h us hl)
def Passes (CX : CXT) (X : Cx) (E : XK) : Prop := ∀ (pins : List (Addr × Obj)) (σ : St) (H : Hp) (s : Shared) (e : Value) (s' : Shared), Inv X pins σ H s → CX X.stack H s E e s' → X.xe e s'
section
variable {X : Cx} {CX : CXT} {k : Nat} {f C : Addr} {fd : FuncData} {ps : List Str} {sp : Sp} {dvs : List V} {ds : List Value} {E : XK} {x m : Str} {p pos apos : Pos} {e o : Expr} {es : List Expr} {ta : TE} {t : TA}
theorem run_fn {pins : List (Addr × Obj)} {σ : St} {H : Hp} {s : Shared} {Q : VK} {us : List Value} {vs : List V} (F : FnOk X.prog X.w X.K X.mg X.base CX k f fd ps sp) (hr : Room k X.A) (hb : Binds X.K fd ps ds) (hd : Vals dvs ds) (hx : Passes CX X E)
    (I : Inv X pins σ H s) (r : Vals vs us) (h : sp (vs ++ dvs) H Q E) : wpAny (model X.prog X.w) X.A (call (.ref f) us) (EP X pins σ Q) X.xe s := by
  have r2 : Vals (vs ++ dvs) (us ++ ds) := r.append hd
  have hl : (us ++ ds).length = ps.length := by rw [← r2.length]; exact F.len _ _ _ _ h
  refine wpAny_call (codeAny_mono (F.run X.A X.stack s H ⟨us, []⟩ (us ++ ds) (vs ++ dvs) Q E hr I.env0 (hb s us I.kIn hl) r2 h) fun r s' hq => ?_)
  cases r with
  | error e => exact hx pins σ H s e s' I hq
  | ok fl =>
    cases fl with
    | ret u => exact I.after hq
    | next => exact False.elim hq
    | brk => exact False.elim hq
    | cont => exact False.elim hq
theorem pe_call (F : FnOk X.prog X.w X.K X.mg X.base CX k f fd ps sp) (hr : Room k X.A) (hg : Gl X x) (hm : X.mg x = some (.ref f)) (hk : PySem.W.keepIn X.K (.ref f) = true) (hb : Binds X.K fd ps ds) (hd : Vals dvs ds) (hx : Passes CX X E)
    (ha : PA X (e :: es) t) (hdb : (x == ("__debug__" : Str)) = false := by decide) (he : starEach (e :: es) X.env = (false, eval e X.env) :: starEach es X.env := by rfl) (hpl : (backTo pos (starEach es X.env)).any (·.1) = false := by rfl) :
    PE X (.Call (.Name x p) (e :: es) [] pos) (tCall sp dvs E t) := by
  intro pins s σ H Q I h
  refine wpAny_Call_Name_kw (ld_glob I hg hm ?_ hdb)
  refine PySem.W.callWith_K (h₀ := X.base) I.ok.mod.kin hk (thn (ha pos pins s σ H _ I h) fun us s1 ⟨vs, H1, I1, r, q⟩ => ⟨I1.kIn, ?_⟩) he hpl
  exact run_fn F hr hb hd hx I1 r q
structure Mk (K : PySem.W.Frag) (C f : Addr) : Prop where
  makes : PySem.W.makesIn K C = true
  init : PySem.W.findIn K (.ref C) "__init__" = some (some (.ref f))
  fn : PySem.W.isFn K (.ref f) = true
  kp : PySem.W.keepIn K (.ref C) = true
theorem run_make {pins : List (Addr × Obj)} {σ : St} {H : Hp} {s : Shared} {Q : VK} {us : List Value} {vs : List V} (M : Mk X.K C f) (F : FnOk X.prog X.w X.K X.mg X.base CX k f fd ps sp) (hr : Room (k + 1) X.A) (hb : Binds X.K fd ps ds) (hd : Vals dvs ds)
    (hx : Passes CX X E) (I : Inv X pins σ H s) (r : Vals vs us)
    (h : ∀ x dx, H x = none → H dx = none → dx ≠ x → sp (.ref x :: (vs ++ dvs)) (upd (upd H dx (.own x)) x (.ins C dx [])) (fun v H2 => v = .non ∧ Q (.ref x) H2) E) :
    wpAny (model X.prog X.w) X.A (call (.ref C) us) (EP X pins σ Q) X.xe s := by
  have hq := h (s.heap.objs.size + 1) s.heap.objs.size (I.hok.fresh (Nat.le_succ _)) (I.hok.fresh (Nat.le_refl _)) (Nat.ne_of_lt (Nat.lt_succ_self _))
  have I2 := Inv.made (C := C) I
  have r2 : Vals (V.ref (s.heap.objs.size + 1) :: (vs ++ dvs)) (Value.ref (s.heap.objs.size + 1) :: (us ++ ds)) := .cons rfl (r.append hd)
  have hl : (Value.ref (s.heap.objs.size + 1) :: us ++ ds).length = ps.length := by
    have e := r2.length
    rw [F.len _ _ _ _ hq] at e
    exact e.symm
  refine wpAny_call (make_map (f := f) I.kIn M.makes M.init (beq_iff_eq.mp M.fn) (codeAny_mono (F.run _ X.stack _ _ ⟨Value.ref (s.heap.objs.size + 1) :: us, []⟩ (Value.ref (s.heap.objs.size + 1) :: (us ++ ds)) _ _ E (hr.make C us [])
    (I2.env0.make C us []) (hb _ (Value.ref (s.heap.objs.size + 1) :: us) I2.kIn hl) r2 hq) fun r s' hq' => ?_))
  cases r with
  | error e => exact hx pins σ _ _ e s' I2 hq'
  | ok fl =>
    cases fl with
    | ret u =>
      obtain ⟨v, H', I3, rv, ev, q3⟩ := I2.after hq'
      subst ev
      exact ⟨rv, ⟨V.ref (s.heap.objs.size + 1), H', I3, rfl, q3⟩⟩
    | next => exact False.elim hq'
    | brk => exact False.elim hq'
    | cont => exact False.elim hq'
theorem pe_make (M : Mk X.K C f) (F : FnOk X.prog X.w X.K X.mg X.base CX k f fd ps sp) (hr : Room (k + 1) X.A) (hg : Gl X x) (hm : X.mg x = some (.ref C)) (hb : Binds X.K fd ps ds) (hd : Vals dvs ds) (hx : Passes CX X E)
    (ha : PA X (e :: es) t) (hdb : (x == ("__debug__" : Str)) = false := by decide) (he : starEach (e :: es) X.env = (false, eval e X.env) :: starEach es X.env := by rfl) (hpl : (backTo pos (starEach es X.env)).any (·.1) = false := by rfl) :
    PE X (.Call (.Name x p) (e :: es) [] pos) (tMake C sp dvs E t) := by
  intro pins s σ H Q I h
  refine wpAny_Call_Name_kw (ld_glob I hg hm ?_ hdb)
  refine PySem.W.callWith_K (h₀ := X.base) I.ok.mod.kin M.kp (thn (ha pos pins s σ H _ I h) fun us s1 ⟨vs, H1, I1, r, q⟩ => ⟨I1.kIn, ?_⟩) he hpl
  exact run_make M F hr hb hd hx I1 r q
end
section
variable {X : Cx} {CX : CXT} {k : Nat} {f C : Addr} {fd : FuncData} {ps ks : List Str} {sp : Sp} {E : XK} {x m : Str} {p pos apos kpos : Pos} {e o : Expr} {es : List Expr} {kws : List Keyword} {te ta : TE} {t tk : TA} {nm : Option Str}
structure KBinds (K : PySem.W.Frag) (fd : FuncData) (ps ks : List Str) (g : List Value → List Value → List Value) (gV : List V → List V → List V) : Prop where
  to : ∀ (s : Shared) (us ws : List Value), K.In s.heap → (g us ws).length = ps.length → BindsTo s fd ⟨us, ks.zip ws⟩ (ps.zip (g us ws))
  rel : ∀ {vs : List V} {us : List Value} {zs : List V} {ws : List Value}, Vals vs us → Vals zs ws → Vals (gV vs zs) (g us ws)
variable {g : List Value → List Value → List Value} {gV : List V → List V → List V}
end
structure FnScope (N P : List Str) (sc : Scope) : Prop where
  kind : sc.kind = .function
  co : sc.isCoroutine = false
  gen : sc.isGenerator = false
  nd : N.Nodup
  pre : N.take P.length = P
  par : ∀ x ∈ P, sc.names.lookup x = some .local ∨ sc.names.lookup x = some .cell
  nofree : ∀ y ∈ sc.names, y.2 ≠ .free
theorem bindL_out {kindOf : Str → Option NameKind} {x : Str} : ∀ {binds : List (Str × Value)} {m : Str → Option Value}, (∀ v, (x, v) ∉ binds) → bindL kindOf binds m x = m x
  | [], _, _ => rfl
  | (n, v) :: r, m, h => by
    unfold bindL
    rw [bindL_out fun w hw => h w (List.mem_cons_of_mem _ hw)]
    split
    · have : x ≠ n := by rintro rfl; exact h v List.mem_cons_self
      simp [this]
    · rfl
theorem bindC_out {kindOf : Str → Option NameKind} {x : Str} : ∀ {binds : List (Str × Value)} {m : Str → Option Value}, (∀ v, (x, v) ∉ binds) → bindC kindOf binds m x = m x
  | [], _, _ => rfl
  | (n, v) :: r, m, h => by
    unfold bindC
    rw [bindC_out fun w hw => h w (List.mem_cons_of_mem _ hw)]
    split
    · rfl
    · have : x ≠ n := by rintro rfl; exact h v List.mem_cons_self
      simp [this]
theorem bindL_get {kindOf : Str → Option NameKind} {x : Str} {v : Value} : ∀ {P : List Str} {vs : List Value} {i : Nat} {m : Str → Option Value}, P.Nodup → P[i]? = some x → vs[i]? = some v → kindOf x = some .local →
    bindL kindOf (P.zip vs) m x = some v
  | [], _, _, _, _, h, _, _ => by simp at h
  | _ :: _, [], _, _, _, _, h, _ => by simp at h
  | p :: P, w :: vs, 0, m, nd, h1, h2, hk => by
    simp at h1 h2; subst h1; subst h2
    show bindL kindOf ((p, w) :: P.zip vs) m p = _
    unfold bindL
    rw [bindL_out fun v hv => (List.nodup_cons.mp nd).1 (List.of_mem_zip hv).1, if_pos hk]
    simp
  | p :: P, w :: vs, i + 1, m, nd, h1, h2, hk => by
    show bindL kindOf ((p, w) :: P.zip vs) m x = _
    unfold bindL
    exact bindL_get (i := i) (List.nodup_cons.mp nd).2 (by simpa using h1) (by simpa using h2) hk
theorem bindC_get {kindOf : Str → Option NameKind} {x : Str} {v : Value} : ∀ {P : List Str} {vs : List Value} {i : Nat} {m : Str → Option Value}, P.Nodup → P[i]? = some x → vs[i]? = some v → kindOf x ≠ some .local →
    bindC kindOf (P.zip vs) m x = some v
  | [], _, _, _, _, h, _, _ => by simp at h
  | _ :: _, [], _, _, _, _, h, _ => by simp at h
  | p :: P, w :: vs, 0, m, nd, h1, h2, hk => by
    simp at h1 h2; subst h1; subst h2
    show bindC kindOf ((p, w) :: P.zip vs) m p = _
    unfold bindC
    rw [bindC_out fun v hv => (List.nodup_cons.mp nd).1 (List.of_mem_zip hv).1, if_neg hk]
    simp
  | p :: P, w :: vs, i + 1, m, nd, h1, h2, hk => by
    show bindC kindOf ((p, w) :: P.zip vs) m x = _
    unfold bindC
    exact bindC_get (i := i) (List.nodup_cons.mp nd).2 (by simpa using h1) (by simpa using h2) hk
def start (N : List Str) (vs : List V) : St := vs.map some ++ List.replicate (N.length - vs.length) none
def cxOf (CX : CXT) (P : Program) (w : World) (K : PySem.W.Frag) (mg : Str → Option Value) (base : Heap) (N : List Str) (qual : Str) (scope : Scope) (f : Addr) (cd : Value) (A : Around) (outer : List Env) (s : Shared) (H : Hp) (E : XK) : Cx where
  prog := P
  w := w
  K := K
  mg := mg
  base := base
  A := A.deeper (envOfC qual scope s.heap.objs.size f cd)
  N := N
  s₀ := s
  H₀ := H
  env := envOfC qual scope s.heap.objs.size f cd
  outer := outer
  stack := envOfC qual scope s.heap.objs.size f cd :: outer
  ex := []
  calm := true
  fn := fun _ => true
  pn := []
  xe := fun e s' => wpAny (model P w) (A.deeper (envOfC qual scope s.heap.objs.size f cd)) (leaving (envOfC qual scope s.heap.objs.size f cd) e) (fun _ s'' => CX outer H s E e s'') (fun e' s'' => CX outer H s E e' s'') s'
theorem cell_has {sc : Scope} {n : Nat} {x : Str} (h : sc.names.lookup x = some .cell) : ∃ c, (cellsFrom n sc.names []).lookup x = some c := by
  have q := PySem.W.cellsFrom_some sc.names n [] (.inl h)
  exact Option.isSome_iff_exists.mp q
theorem inv_start {CX : CXT} {P : Program} {w : World} {K : PySem.W.Frag} {mg : Str → Option Value} {base : Heap} {N ps : List Str} {qual : Str} {scope : Scope} {f : Addr} {cd : Value} {A : Around} {outer : List Env} {s s1 : Shared} {H : Hp} {E : XK} {us : List Value} {vs : List V}
    (S : FnScope N ps scope) (hd : A.handled = none) (e0 : Env0 P w K mg base A outer s H) (hl : vs.length = ps.length) (r : Vals vs us)
    (x : InCallC s s.heap.objs.size (bindL (envOfC qual scope s.heap.objs.size f cd).kindOf (ps.zip us) fun _ => none) (cellsFrom (s.heap.objs.size + 1) scope.names []) (bindC (envOfC qual scope s.heap.objs.size f cd).kindOf (ps.zip us) fun _ => none) s1) :
    Inv (cxOf CX P w K mg base N qual scope f cd A outer s H E) [] (start N vs) H s1 := by
  have hpl : ps.length ≤ N.length := by have := congrArg List.length S.pre; rw [List.length_take] at this; omega
  obtain ⟨h1, tk, rfl, hk⟩ := x.done
  have noA : ∀ b : Addr, b ∉ (cxOf CX P w K mg base N qual scope f cd A outer s H E).ex := fun b z => absurd (show b ∈ ([] : List Addr) from z) (by simp)
  refine ⟨⟨e0.mod, S.kind, rfl, rfl, Nat.le_refl _, fun y z c h1 h2 => ?_, fun y hy => ?_, fun y c _ h => ?_, fun _ => hd, Around.frames_deeper e0.frames, .inr ⟨rfl, rfl⟩, fun b z => absurd z (noA b), e0.bs, e0.bsz, fun b _ _ => noA b, fun b z => absurd z (noA b), e0.funs, e0.frf⟩,
    rfl, e0.bare, Un.kept hk, ⟨_, x.toInCall.ns, fun i y v h1 h2 h3 => ?_⟩, fun y c h => ⟨_, x.cell y c h⟩, e0.hok.fresh (Nat.le_refl _), fun y c h => ?_, fun p hp => absurd (show p ∈ ([] : List (Addr × Obj)) from hp) (by simp), e0.hok.kept hk, ?_⟩
  · exact name_of_addr x.apart (PySem.mem_of_lookup h1) (PySem.mem_of_lookup h2)
  · have hy : scope.names.lookup y = some .cell ∨ scope.names.lookup y = some .free := hy
    rcases hy with hy | hy
    · exact cell_has hy
    · exact absurd rfl (S.nofree _ (PySem.mem_of_lookup hy))
  · exact Nat.le_of_lt (x.above y c (PySem.mem_of_lookup h))
  · have hi : i < vs.length := by
      unfold start at h2
      by_cases hi : i < vs.length
      · exact hi
      · rw [List.getElem?_append_right (by simpa using hi)] at h2
        rw [List.getElem?_replicate] at h2
        split at h2 <;> cases h2
    have ha : vs[i]? = some v := by
      unfold start at h2
      rw [List.getElem?_append_left (by simpa using hi), List.getElem?_map] at h2
      cases e : vs[i]? with
      | none => rw [e] at h2; cases h2
      | some a => rw [e] at h2; cases h2; rfl
    obtain ⟨u, hu, rv⟩ := r.get ha
    have hp : ps[i]? = some y := by
      rw [← S.pre, List.getElem?_take_of_lt (by omega)]; exact h1
    have ndP : ps.Nodup := by rw [← S.pre]; exact S.nd.sublist (List.take_sublist _ _)
    refine ⟨u, rv, ?_⟩
    rcases S.par y (List.mem_of_getElem? hp) with k | k
    · exact .inl ⟨k, bindL_get ndP hp hu k⟩
    · obtain ⟨c, e⟩ := cell_has (n := s.heap.objs.size + 1) k
      refine .inr ⟨.inl k, c, e, ?_⟩
      have q := x.cell y c e
      rw [bindC_get ndP hp hu (by show scope.names.lookup y ≠ _; rw [k]; decide)] at q
      exact q
  · exact e0.hok.fresh (Nat.le_of_lt (x.above y c (PySem.mem_of_lookup h)))
  · unfold start
    show _ = N.length
    rw [List.length_append, List.length_map, List.length_replicate]
    omega
theorem fn_of {CX : CXT} {P : Program} {w : World} {K : PySem.W.Frag} {mg : Str → Option Value} {base : Heap} {k : Nat} {f : Addr} {name qual : Str} {params : Arguments} {body : List Stmt} {scope : Scope} {dV kV doc pm cdv ct oc : Value} {an od : Option Addr}
    {osl : Array (Option Value)} {N ps : List Str} {sp : Sp} (lk : K.lookup f = some ⟨oc, od, .func (PySem.W.fnOf name qual params body scope dV kV doc pm an cdv ct), osl⟩) (hcd : PySem.W.codeIn K cdv qual = true) (S : FnScope N ps scope)
    (len : ∀ vs H Q E, sp vs H Q E → vs.length = ps.length)
    (hbody : ∀ (A : Around) (outer : List Env) (s : Shared) (H : Hp) (vs : List V) (Q : VK) (E : XK), Room k (A.deeper (envOfC qual scope s.heap.objs.size f cdv)) → sp vs H Q E →
      ∃ t, PSs (cxOf CX P w K mg base N qual scope f cdv A outer s H E) body t ∧ t { nx := fun _ H' => Q .non H', rt := Q } (start N vs) H) :
    FnOk P w K mg base CX (k + 1) f (PySem.W.fnOf name qual params body scope dV kV doc pm an cdv ct) ps sp := by
  refine ⟨len, fun A outer s H args us vs Q E hr e0 hb r hsp => ?_⟩
  have hl := len _ _ _ _ hsp
  have KX : K.In s.heap := e0.mod.kin.keeps fun b o e => (e0.bs b o e).1
  have lim : s.heap.NoLimit := e0.mod.nolimit.keeps fun b o e => (e0.bs b o e).1
  have hkind : ∀ y ∈ ps.zip us, scope.names.lookup y.1 = some .local ∨ (scope.names.lookup y.1 = some .cell ∧ ((cellsFrom (s.heap.objs.size + 1) scope.names []).lookup y.1).isSome = true) := fun ⟨n, v⟩ hy => by
    rcases S.par n (List.of_mem_zip hy).1 with q | q
    · exact .inl q
    · exact .inr ⟨q, PySem.W.cellsFrom_some _ _ _ (.inl q)⟩
  refine codeAny_call_function hr.depth (KX _ _ lk) rfl S.co S.gen rfl (PySem.W.codeRec_of KX hcd) (hb _ _ _ _ ?_)
  refine wpAny_newFunctionEnv_cells S.kind hkind fun env he s1 x => ?_
  subst he
  refine ⟨lim.keeps x.toInCall.keep, codeAny_func ?_⟩
  obtain ⟨t, ht, hq⟩ := hbody A outer s H vs Q E (hr.deeper _) hsp
  have I : Inv (cxOf CX P w K mg base N qual scope f cdv A outer s H E) [] (start N vs) H s1 := inv_start S hr.hd e0 hl r x
  refine wpAny_mono (ht [] s1 (start N vs) H _ I hq) (fun fl s' hs => ?_) fun e s' hs => hs
  have fin : ∀ {σ' : St} {H' : Hp} {v : V} {u : Value}, Inv (cxOf CX P w K mg base N qual scope f cdv A outer s H E) [] σ' H' s' → RelV v u → Q v H' → CE outer P w H s Q u s' :=
    fun {σ' H' v u} J rv q => ⟨v, H', J.os, J.bare, J.base, J.hok, rv, q⟩
  cases fl with
  | ret u =>
    obtain ⟨v, σ', H', J, rv, q⟩ := hs
    exact fin J rv q
  | next =>
    obtain ⟨σ', H', J, q⟩ := hs
    exact fin (v := V.non) (u := Value.none) J rfl q
  | brk =>
    obtain ⟨_, _, _, q⟩ := hs
    exact False.elim q
  | cont =>
    obtain ⟨_, _, _, q⟩ := hs
    exact False.elim q
end L2
namespace L2
open PySem PySem.Spec PyProof.Rows
section
variable {X : Cx} {x : Str} {p pos : Pos} {e : Expr} {es : List Expr} {t : TA} {id T : String} {r : List V → Hp → VK → Prop}
def tCB (r : List V → Hp → VK → Prop) (t : TA) : TE := fun σ H Q => t σ H fun vs H1 => r vs H1 Q
theorem pe_callB (hc : CallR X (.builtin id) r) (hg : Gl X x) (hm : X.mg x = none) (hv : bootBuiltins x = some (.builtin id)) (ha : PA X (e :: es) t) (hn : x ≠ "__name__" := by decide) (hdb : (x == ("__debug__" : Str)) = false := by decide)
    (he : starEach (e :: es) X.env = (false, eval e X.env) :: starEach es X.env := by rfl) (hpl : (backTo pos (starEach es X.env)).any (·.1) = false := by rfl) : PE X (.Call (.Name x p) (e :: es) [] pos) (tCB r t) := by
  intro pins s σ H Q I h
  refine wpAny_Call_Name_kw (ld_blt I hg hm hv ?_ hn hdb)
  exact PyProof.Rows.callWith_builtin1 (thn (ha pos pins s σ H _ I h) fun us s1 ⟨vs, H1, I1, r1, q1⟩ => hc pins s1 σ H1 vs us Q I1 r1 q1) he hpl
theorem pe_callTy (hc : CallR X (.type T) r) (hg : Gl X x) (hm : X.mg x = none) (hv : bootBuiltins x = some (.type T)) (ha : PA X (e :: es) t) (hn : x ≠ "__name__" := by decide) (hdb : (x == ("__debug__" : Str)) = false := by decide)
    (he : starEach (e :: es) X.env = (false, eval e X.env) :: starEach es X.env := by rfl) (hpl : (backTo pos (starEach es X.env)).any (·.1) = false := by rfl) : PE X (.Call (.Name x p) (e :: es) [] pos) (tCB r t) := by
  intro pins s σ H Q I h
  refine wpAny_Call_Name_kw (ld_blt I hg hm hv ?_ hn hdb)
  exact PyProof.Rows.callWith_type1 (thn (ha pos pins s σ H _ I h) fun us s1 ⟨vs, H1, I1, r1, q1⟩ => hc pins s1 σ H1 vs us Q I1 r1 q1) he hpl
end
end L2
namespace L2
open PySem PySem.Spec PyProof.Rows
section
variable {κ : Type} [DecidableEq κ]
def valV (kvs : List (κ × V)) (k : κ) : Option V := (kvs.find? fun kv => decide (kv.1 = k)).map (·.2)
def putK (kvs : List (κ × V)) (k : κ) (v : V) : List (κ × V) :=
  if (kvs.any fun kv => decide (kv.1 = k)) = true then kvs.map (fun kv => if kv.1 = k then (kv.1, v) else kv) else kvs ++ [(k, v)]
theorem valV_pos {p : κ × V} {r : List (κ × V)} {k : κ} (e : p.1 = k) : valV (p :: r) k = some p.2 := by simp [valV, List.find?_cons, e]
theorem valV_neg {p : κ × V} {r : List (κ × V)} {k : κ} (e : ¬ p.1 = k) : valV (p :: r) k = valV r k := by simp [valV, List.find?_cons, e]
theorem valV_any (k : κ) : ∀ kvs : List (κ × V), (kvs.any fun kv => decide (kv.1 = k)) = (valV kvs k).isSome
  | [] => rfl
  | p :: r => by
    rw [List.any_cons]
    by_cases e : p.1 = k
    · simp only [valV_pos e, decide_eq_true e, Bool.true_or, Option.isSome_some]
    · rw [valV_neg e, decide_eq_false e, Bool.false_or]; exact valV_any k r
theorem length_putK (kvs : List (κ × V)) (k : κ) (v : V) : (putK kvs k v).length ≤ kvs.length + 1 := by
  unfold putK
  split
  · rw [List.length_map]; omega
  · rw [List.length_append, List.length_cons, List.length_nil]; omega
theorem RelO.isSome_eq {o : Option V} {u : Option Value} (r : RelO o u) : o.isSome = u.isSome := by
  cases o with
  | none => cases u with
    | none => rfl
    | some _ => exact (show False from r).elim
  | some _ => cases u with
    | none => exact (show False from r).elim
    | some _ => rfl
theorem RelO.getD {o : Option V} {u : Option Value} {d : V} {d' : Value} (r : RelO o u) (rd : RelV d d') : RelV (o.getD d) (u.getD d') := by
  cases o with
  | none => cases u with
    | none => exact rd
    | some _ => exact (show False from r).elim
  | some _ => cases u with
    | none => exact (show False from r).elim
    | some _ => exact r
theorem KV.val {kvs : List (κ × V)} {vs : List (κ × Value)} (r : KV kvs vs) (k : κ) : RelO (valV kvs k) (valueAt vs k) := by
  unfold KV at r
  induction r with
  | nil => exact True.intro
  | @cons p q ps qs h t ih =>
    obtain ⟨h1, h2⟩ := h
    by_cases e : p.1 = k
    · have e' : q.1 = k := h1.symm.trans e
      have b : valueAt (q :: qs) k = some q.2 := by simp [valueAt, List.find?_cons, e']
      rw [valV_pos e, b]; exact h2
    · have e' : ¬ q.1 = k := fun z => e (h1.trans z)
      have b : valueAt (q :: qs) k = valueAt qs k := by simp [valueAt, List.find?_cons, e']
      rw [valV_neg e, b]; exact ih
theorem KV.any {kvs : List (κ × V)} {vs : List (κ × Value)} (r : KV kvs vs) (k : κ) : (kvs.any fun kv => decide (kv.1 = k)) = vs.any fun kv => decide (kv.1 = k) := by
  unfold KV at r
  induction r with
  | nil => rfl
  | cons h t ih => rw [List.any_cons, List.any_cons, ih, h.1]
theorem KV.repl {kvs : List (κ × V)} {vs : List (κ × Value)} (r : KV kvs vs) (k : κ) {y : V} {u : Value} (ry : RelV y u) :
    KV (kvs.map fun kv => if kv.1 = k then (kv.1, y) else kv) (vs.map fun kv => if kv.1 = k then (kv.1, u) else kv) := by
  unfold KV at r ⊢
  induction r with
  | nil => exact .nil
  | @cons p q ps qs h t ih =>
    rw [List.map_cons, List.map_cons]
    refine .cons ?_ ih
    obtain ⟨h1, h2⟩ := h
    by_cases e : p.1 = k
    · rw [if_pos e, if_pos (h1.symm.trans e)]; exact ⟨h1, ry⟩
    · rw [if_neg e, if_neg (fun z => e (h1.trans z))]; exact ⟨h1, h2⟩
theorem KV.put {kvs : List (κ × V)} {vs : List (κ × Value)} (r : KV kvs vs) (k : κ) {y : V} {u : Value} (ry : RelV y u) : KV (putK kvs k y) (stored vs k u) := by
  unfold putK stored
  rw [r.any k]
  by_cases e : (vs.any fun kv => decide (kv.1 = k)) = true
  · rw [if_pos e, if_pos e]; exact r.repl k ry
  · rw [if_neg e, if_neg e]; exact Paired.snoc r ⟨rfl, ry⟩
theorem KV.keys {kvs : List (κ × V)} {vs : List (κ × Value)} (r : KV kvs vs) : kvs.map (·.1) = vs.map (·.1) := by
  unfold KV at r
  induction r with
  | nil => rfl
  | cons h t ih => rw [List.map_cons, List.map_cons, ih, h.1]
theorem KV.length {kvs : List (κ × V)} {vs : List (κ × Value)} (r : KV kvs vs) : kvs.length = vs.length := Paired.length r
end
theorem kV_is {P : Program} {w : World} {k : Key} {u : Value} (r : RelV (kV k) u) : (mixKind P w).is k u = true := by
  cases k with
  | inl i => obtain ⟨t, e⟩ := (show ∃ t, u = Value.int i t from r); subst e; exact mixKind_int P w i t
  | inr x => obtain ⟨t, e⟩ := (show ∃ t, u = Value.str x t from r); subst e; exact mixKind_str P w x t
theorem items_are {P : Program} {w : World} : ∀ {ks : List Key} {us : List Value}, Vals (ks.map kV) us → ItemsAre (mixKind P w) ks us
  | [], _, r => by rw [List.map_nil] at r; cases r; exact .nil
  | k :: ks, _, r => by
    rw [List.map_cons] at r
    cases r with
    | cons h t => exact .cons (kV_is h) (items_are t)
abbrev KT (H : Hp) : List (List Key × V) → List (List Key × Addr × Value) → Prop := Paired fun p q => p.1 = q.1 ∧ H q.2.1 = some (.tup (p.1.map kV)) ∧ RelV p.2 q.2.2
theorem KT.val {H : Hp} {kvs : List (List Key × V)} {xs : List (List Key × Addr × Value)} (r : KT H kvs xs) (k : List Key) : RelO (valV kvs k) ((atKey xs k).map (·.2)) := by
  induction r with
  | nil => exact True.intro
  | @cons p q ps qs h t ih =>
    obtain ⟨h1, _, h2⟩ := h
    by_cases e : p.1 = k
    · have e' : q.1 = k := h1.symm.trans e
      have b : atKey (q :: qs) k = some q.2 := by simp [atKey, List.find?_cons, e']
      rw [valV_pos e, b]; exact h2
    · have e' : ¬ q.1 = k := fun z => e (h1.trans z)
      have b : atKey (q :: qs) k = atKey qs k := by simp [atKey, List.find?_cons, e']
      rw [valV_neg e, b]; exact ih
theorem KT.repl {H : Hp} {kvs : List (List Key × V)} {xs : List (List Key × Addr × Value)} (r : KT H kvs xs) (k : List Key) {y : V} {u : Value} (ry : RelV y u) :
    KT H (kvs.map fun kv => if kv.1 = k then (kv.1, y) else kv) (xs.map (putAt k u)) := by
  induction r with
  | nil => exact .nil
  | @cons p q ps qs h t ih =>
    rw [List.map_cons, List.map_cons]
    refine .cons ?_ ih
    obtain ⟨h1, h2, h3⟩ := h
    unfold putAt
    by_cases e : p.1 = k
    · rw [if_pos e, if_pos (h1.symm.trans e)]; exact ⟨h1, h2, ry⟩
    · rw [if_neg e, if_neg (fun z => e (h1.trans z))]; exact ⟨h1, h2, h3⟩
theorem KT.put {H : Hp} {kvs : List (List Key × V)} {xs : List (List Key × Addr × Value)} (r : KT H kvs xs) (k : List Key) {b : Addr} {y : V} {u : Value} (hb : H b = some (.tup (k.map kV))) (ry : RelV y u) :
    KT H (putK kvs k y) (storedH xs k b u) := by
  have e : (kvs.any fun kv => decide (kv.1 = k)) = (atKey xs k).isSome := by
    rw [valV_any, (r.val k).isSome_eq, Option.isSome_map]
  unfold putK storedH
  rw [e]
  by_cases q : (atKey xs k).isSome = true
  · rw [if_pos q, if_pos q]; exact r.repl k ry
  · rw [if_neg q, if_neg q]; exact Paired.snoc r ⟨rfl, hb, ry⟩
theorem KT.keeps {H H' : Hp} {kvs : List (List Key × V)} {xs : List (List Key × Addr × Value)} (r : KT H kvs xs) (ht : ∀ b ys, H b = some (.tup ys) → H' b = some (.tup ys)) : KT H' kvs xs :=
  Paired.mapP r fun _ _ z => ⟨z.1, ht _ _ z.2.1, z.2.2⟩
section
variable {P : Program} {w : World} {H : Hp} {h : Heap} {a : Addr}
theorem rd_of {u : HO} (ok : HOk P w H h) (e : Rd H a u) : ObjOk P w H h a u := e.ok ok
theorem dk_rd {kvs : List (Key × V)} (ok : HOk P w H h) (e : Rd H a (.dK kvs)) : kvs.length ≤ sizeLine ∧ (a == sysModules) = false ∧ ∃ vs, KV kvs vs ∧ h.DictOf (mixKind P w) a vs :=
  show ObjOk P w H h a (.dK kvs) from rd_of ok e
theorem dk_of {kvs : List (Key × V)} (ok : HOk P w H h) (e : H a = some (.dK kvs)) : kvs.length ≤ sizeLine ∧ (a == sysModules) = false ∧ ∃ vs, KV kvs vs ∧ h.DictOf (mixKind P w) a vs := dk_rd ok (.inl e)
theorem key_of {ks : List Key} (ok : HOk P w H h) (e : H a = some (.tup (ks.map kV))) : (tupleKind (mixKind P w)).is h ks a := by
  obtain ⟨_, its, r, o, h1, h2, n, h3⟩ := (show ObjOk P w H h a (.tup (ks.map kV)) from ok a _ e)
  exact ⟨o, its.toArray, n, h1, h2, h3.1, by simpa using items_are r⟩
theorem dt_rd {kvs : List (List Key × V)} (ok : HOk P w H h) (e : Rd H a (.dT kvs)) : kvs.length ≤ sizeLine ∧ (a == sysModules) = false ∧
    ∃ xs, KT H kvs xs ∧ h.DictOfH (tupleKind (mixKind P w)) a xs := by
  obtain ⟨z, y, xs, r, o, es, ep, h1, h2, h3, h4, h5⟩ := (show ObjOk P w H h a (.dT kvs) from rd_of ok e)
  refine ⟨z, y, xs, r, o, es, ep, h1, h2, h3, h4, fun x hx => ?_, h5⟩
  have all : ∀ {l : List (List Key × V)} {m : List (List Key × Addr × Value)}, KT H l m → ∀ x ∈ m, (tupleKind (mixKind P w)).is h x.1 x.2.1 := by
    intro l m q
    induction q with
    | nil => intro x hx; exact nomatch hx
    | @cons p q ps qs hq t ih =>
      intro x hx
      rcases List.mem_cons.mp hx with e | hx
      · subst e
        exact key_of ok (by rw [← hq.1]; exact hq.2.1)
      · exact ih x hx
  exact all r x hx
theorem dt_of {kvs : List (List Key × V)} (ok : HOk P w H h) (e : H a = some (.dT kvs)) : kvs.length ≤ sizeLine ∧ (a == sysModules) = false ∧
    ∃ xs, KT H kvs xs ∧ h.DictOfH (tupleKind (mixKind P w)) a xs := dt_rd ok (.inl e)
end
def DGet (H : Hp) (a : Addr) (y : V) (r : Option V) : Prop :=
  (∃ kvs k, Rd H a (.dK kvs) ∧ y = kV k ∧ r = valV kvs k) ∨ ∃ kvs k b, Rd H a (.dT kvs) ∧ y = .ref b ∧ H b = some (.tup (k.map kV)) ∧ r = valV kvs k
def DPut (H : Hp) (a : Addr) (y v : V) (H' : Hp) : Prop :=
  (∃ kvs k, H a = some (.dK kvs) ∧ y = kV k ∧ kvs.length < sizeLine ∧ H' = upd H a (.dK (putK kvs k v))) ∨
  ∃ kvs k b, H a = some (.dT kvs) ∧ y = .ref b ∧ H b = some (.tup (k.map kV)) ∧ kvs.length < sizeLine ∧ H' = upd H a (.dT (putK kvs k v))
theorem DGet.k {H : Hp} {a : Addr} {kvs : List (Key × V)} {k : Key} (e : H a = some (.dK kvs)) : DGet H a (kV k) (valV kvs k) := .inl ⟨kvs, k, .inl e, rfl, rfl⟩
theorem DGet.t {H : Hp} {a b : Addr} {kvs : List (List Key × V)} {k : List Key} (e : H a = some (.dT kvs)) (eb : H b = some (.tup (k.map kV))) : DGet H a (.ref b) (valV kvs k) := .inr ⟨kvs, k, b, .inl e, rfl, eb, rfl⟩
theorem DPut.k {H : Hp} {a : Addr} {kvs : List (Key × V)} {k : Key} {v : V} (e : H a = some (.dK kvs)) (hl : kvs.length < sizeLine) : DPut H a (kV k) v (upd H a (.dK (putK kvs k v))) := .inl ⟨kvs, k, e, rfl, hl, rfl⟩
theorem DPut.t {H : Hp} {a b : Addr} {kvs : List (List Key × V)} {k : List Key} {v : V} (e : H a = some (.dT kvs)) (eb : H b = some (.tup (k.map kV))) (hl : kvs.length < sizeLine) :
    DPut H a (.ref b) v (upd H a (.dT (putK kvs k v))) := .inr ⟨kvs, k, b, e, rfl, eb, hl, rfl⟩
section
variable {X : Cx} {pins : List (Addr × Obj)} {σ : St} {H : Hp} {s : Shared} {a : Addr} {y v : V} {u r : Value} {o : Option V} {A : Around} {E : Value → Shared → Prop}
theorem Inv.big (I : Inv X pins σ H s) : sysModules < s.heap.objs.size := by
  have h : mainGlobals < s.heap.objs.size := (I.mod.glob.keeps I.bk).lt
  exact Nat.lt_trans (by decide) h
theorem d_getItem {Q : Value → Shared → Prop} (hu : A.units + 1 < cLine) (I : Inv X pins σ H s) (g : DGet H a y (some v)) (ry : RelV y u) (h : ∀ w' s', Inv X pins σ H s' → RelV v w' → Q w' s') :
    wpAny (model X.prog X.w) A (getItem (.ref a) u) Q E s := by
  rcases g with ⟨kvs, k, e, ey, l⟩ | ⟨kvs, k, b, e, ey, eb, l⟩
  · subst ey
    obtain ⟨z, hd, vs, rel, dd⟩ := dk_rd I.hok e
    obtain ⟨w', hw, rw'⟩ := RelO.some_of (v := v) (o := valueAt vs k) (by rw [l]; exact rel.val k)
    exact wpAny_getItem_of (kV_is ry) dd.mapOf hw (h w' _ (I.tok _) rw')
  · subst ey
    cases (show u = Value.ref b from ry)
    obtain ⟨z, hd, xs, rel, dd⟩ := dt_rd I.hok e
    obtain ⟨w', hw, rw'⟩ := RelO.some_of (v := v) (o := (atKey xs k).map (·.2)) (by rw [l]; exact rel.val k)
    obtain ⟨p, hp, hp2⟩ := Option.map_eq_some_iff.mp hw
    refine wpAny_getItem_heap (tupleKind_room_in1 hu) (key_of I.hok eb) dd hp ?_
    rw [hp2]
    exact h w' _ (I.tok _) rw'
theorem d_in {Q : Value → Shared → Prop} (hu : A.units + 1 < cLine) (I : Inv X pins σ H s) (g : DGet H a y o) (ry : RelV y u) (h : ∀ s', Inv X pins σ H s' → Q (.bool o.isSome) s') :
    wpAny (model X.prog X.w) A (compareOp .In u (.ref a)) Q E s := by
  rcases g with ⟨kvs, k, e, ey, l⟩ | ⟨kvs, k, b, e, ey, eb, l⟩
  · subst ey
    obtain ⟨z, hd, vs, rel, dd⟩ := dk_rd I.hok e
    refine wpAny_in_of (kV_is ry) hd dd.mapOf ?_
    rw [← (rel.val k).isSome_eq, ← l]
    exact h _ (I.tok _)
  · subst ey
    cases (show u = Value.ref b from ry)
    obtain ⟨z, hd, xs, rel, dd⟩ := dt_rd I.hok e
    refine wpAny_in_heap (tupleKind_room_in1 hu) (key_of I.hok eb) hd dd ?_
    have q := (rel.val k).isSome_eq
    rw [Option.isSome_map] at q
    rw [← q, ← l]
    exact h _ (I.tok _)
theorem d_write {h' : Heap} {t' : Nat} {ob : HO} (I : Inv X pins σ H s) (mu : Mut (H a)) (hs : Heap.SameBut a s.heap h') (he : ∃ q, h'.get? a = some q) (new : ObjOk X.prog X.w (upd H a ob) h' a ob) :
    Inv X pins σ (upd H a ob) { s with heap := h', toks := t' } :=
  I.write (x := a) (e := a) mu (.inl rfl) (fun b q hb z => (hs.2 b hb).trans z) he new
theorem dk_new {P : Program} {w : World} {H' : Hp} {h' : Heap} {kvs : List (Key × V)} {vs : List (Key × Value)} (z : kvs.length ≤ sizeLine) (hd : (a == sysModules) = false) (rel : KV kvs vs) (dd : h'.DictOf (mixKind P w) a vs) :
    ObjOk P w H' h' a (.dK kvs) := ⟨z, hd, vs, rel, dd⟩
theorem d_setItem {H' : Hp} {Q : Unit → Shared → Prop} (hu : A.units + 1 < cLine) (I : Inv X pins σ H s) (g : DPut H a y v H') (ry : RelV y u) (rv : RelV v r) (h : ∀ s', Inv X pins σ H' s' → Q () s') :
    wpAny (model X.prog X.w) A (setItem (.ref a) u r) Q E s := by
  rcases g with ⟨kvs, k, e, ey, l, eH⟩ | ⟨kvs, k, b, e, ey, eb, l, eH⟩
  · subst ey eH
    obtain ⟨z, hd, vs, rel, dd⟩ := dk_of I.hok e
    have hz : vs.length ≤ sizeLine := by rw [← rel.length]; exact z
    have hl : (putK kvs k v).length ≤ sizeLine := by have := length_putK kvs k v; omega
    refine wpAny_setItem_pairs (hsz := hz) (kV_is ry) dd fun h' dd' hs => h _ ?_
    have he : ∃ q, h'.get? a = some q := let ⟨q, _, _, hq, _⟩ := dd'; ⟨q, hq⟩
    exact d_write I (by rw [e]; exact True.intro) hs he (dk_new hl hd (rel.put k rv) dd')
  · subst ey eH
    cases (show u = Value.ref b from ry)
    obtain ⟨z, hd, xs, rel, dd⟩ := dt_of I.hok e
    have hz : xs.length ≤ sizeLine := by rw [← Paired.length rel]; exact z
    have hl : (putK kvs k v).length ≤ sizeLine := by have := length_putK kvs k v; omega
    refine wpAny_setItem_heap (hsz := hz) (tupleKind_room_in1 hu) (key_of I.hok eb) dd fun h' dd' hs => h _ ?_
    obtain ⟨q, es, ep, hq, h2, h3, h4, _, h5⟩ := dd'
    refine d_write I (by rw [e]; exact True.intro) hs ⟨q, hq⟩ ⟨hl, hd, _, (rel.put k eb rv).keeps fun c ys ec => ?_, q, es, ep, hq, h2, h3, h4, h5⟩
    rw [upd_ne (ne_of ec e (fun z => nomatch z))]
    exact ec
end
section
variable {X : Cx} {pins : List (Addr × Obj)} {σ : St} {H : Hp} {s : Shared} {a : Addr} {kvs : List (Key × V)} {k : Key} {u : Value} {A : Around} {E : Value → Shared → Prop}
end
def NoSl (i : Expr) : Prop := ∀ ov iv, subscripted i false ov iv = operate [ov, iv] (getItem ov iv)
theorem subD_of {prog : Program} {w : World} {A : Around} {E : Value → Shared → Prop} {s : Shared} {env : Env} {value slice : Expr} {pos : Pos} {T id : String} {Q : Value → Shared → Prop}
    (hl : typeLookup (.type T) "__getitem__" = pure (some (.builtin id))) (hs : NoSl slice)
    (h : wpAny (model prog w) A (eval value env) (fun o s₁ => wpAny (model prog w) A (eval slice env) (fun i s₂ => s₂.TypeIs o T ∧ wpAny (model prog w) A (getItem o i) Q E s₂) E s₁) E s) :
    wpAny (model prog w) A (eval (.Subscript value slice pos) env) Q E s := by
  refine Subscript_ (wpAny_mono h (fun o s₁ h₁ => wpAny_mono h₁ (fun i s₂ h₂ => ?_) fun _ _ x => x) fun _ _ x => x)
  obtain ⟨hT, h₂⟩ := h₂
  unfold subscriptTail
  refine wpAny_bind ?_
  rw [getitemInPython_of_ne hT.not_modules]
  refine wpAny_bind (wpAny_specialOf hT hl ?_)
  have fin : wpAny (model prog w) A (subscripted slice false o i) (fun r s₃ => wpAny (model prog w) A (letTemporaryGo value o r >>= fun _ => pure r) Q E s₃) E s₂ := by
    rw [hs o i]
    exact wpAny_operating (wpAny_mono h₂ (fun r s₃ h₃ => wpAny_bind (wpAny_letTemporaryGo (wpAny_pure h₃))) fun _ _ x => x)
  first
    | exact wpAny_pure (wpAny_bind fin)
    | exact wpAny_bind (wpAny_pure (wpAny_bind fin))
    | exact wpAny_bind fin
theorem dict_typeIs {X : Cx} {pins : List (Addr × Obj)} {σ : St} {H : Hp} {s : Shared} {a : Addr} {y : V} {o : Option V} (I : Inv X pins σ H s) (g : DGet H a y o) : s.TypeIs (.ref a) "dict" := by
  rcases g with ⟨kvs, k, e, _, _⟩ | ⟨kvs, k, b, e, _, _, _⟩
  · obtain ⟨_, _, vs, _, dd⟩ := dk_rd I.hok e
    exact dd.typeIs
  · obtain ⟨_, _, xs, _, dd⟩ := dt_rd I.hok e
    exact dd.typeIs
def tDGet (td ty : TE) : TE := fun σ H Q => td σ H fun x H1 => ty σ H1 fun y H2 => ∃ a v, x = .ref a ∧ DGet H2 a y (some v) ∧ Q v H2
def tDIn (ty td : TE) : TE := fun σ H Q => ty σ H fun y H1 => td σ H1 fun x H2 => ∃ a o, x = .ref a ∧ DGet H2 a y o ∧ Q (.bl o.isSome) H2
def sDPut (td ty tv : TE) : TS := fun D σ H => tv σ H fun v H1 => td σ H1 fun x H2 => ty σ H2 fun y H3 => ∃ a H4, x = .ref a ∧ DPut H3 a y v H4 ∧ D.nx σ H4
section
variable {X : Cx} {o i e value : Expr} {pos pos' tpos : Pos} {td ty tv : TE}
theorem pe_dget (hu : X.A.units + 1 < cLine) (ho : PE X o td) (hi : PE X i ty) (hs : NoSl i) : PE X (.Subscript o i pos) (tDGet td ty) := by
  intro pins s σ H Q I h
  refine subD_of PySem.F.slot_dict_getitem.lookup hs (thn (ho pins s σ H _ I h) fun u s1 ⟨x, H1, I1, rx, q1⟩ => thn (hi pins s1 σ H1 _ I1 q1) fun iv s2 ⟨y, H2, I2, ry, a, v, ex, g, q2⟩ => ?_)
  subst ex
  obtain rfl : u = Value.ref a := rx
  exact ⟨dict_typeIs I2 g, d_getItem hu I2 g ry fun w' s3 I3 rw' => ⟨v, H2, I3, rw', q2⟩⟩
theorem pc_din (hu : X.A.units + 1 < cLine) (hi : PE X i ty) (ho : PE X o td) : PC X .In i o (tDIn ty td) := by
  intro pins s σ H Q I h
  refine thn (hi pins s σ H _ I h) fun iv s1 ⟨y, H1, I1, ry, q1⟩ => thn (ho pins s1 σ H1 _ I1 q1) fun u s2 ⟨x, H2, I2, rx, a, ov, ex, g, q2⟩ => ?_
  subst ex
  obtain rfl : u = Value.ref a := rx
  exact d_in hu I2 g ry fun s3 I3 => ⟨.bl ov.isSome, H2, I3, rfl, q2⟩
theorem ps_dput (hu : X.A.units + 1 < cLine) (ho : PE X o td) (hi : PE X i ty) (hv : PE X value tv) (hs : swapsWith value (some (.Subscript o i pos')) pos.line X.env = pure false) :
    PS X (.Assign [.Subscript o i pos'] value pos) (sDPut td ty tv) := by
  intro pins s σ H D I h
  refine wpAny_Assign_Subscript (thn (hv pins s σ H _ I h) fun r s1 ⟨v, H1, I1, rv, q1⟩ => thn (ho pins s1 σ H1 _ I1 q1) fun u s2 ⟨x, H2, I2, rx, q2⟩ => thn (hi pins s2 σ H2 _ I2 q2) fun iv s3 ⟨y, H3, I3, ry, a, H4, ex, g, q3⟩ => ?_) hs
  subst ex
  obtain rfl : u = Value.ref a := rx
  exact d_setItem hu I3 g ry rv fun s4 I4 => ⟨σ, H4, I4, q3⟩
end
theorem dk_empty {P : Program} {w : World} {H : Hp} (h : Heap) (hb : sysModules < h.objs.size) : ObjOk P w H (h.push { cls := .type "dict", data := .dict #[] }) h.objs.size (.dK []) :=
  ⟨Nat.zero_le _, beq_eq_false_iff_ne.mpr (Ne.symm (Nat.ne_of_lt hb)), [], .nil, Heap.DictOf.new h⟩
def tDNewK : TE := fun _ H Q => ∀ p, H p = none → Q (.ref p) (upd H p (.dK []))
section
variable {X : Cx} {pos : Pos}
theorem pe_dnewK : PE X (.Dict [] [] pos) tDNewK := fun pins s σ H Q I h =>
  wpAny_Dict_empty ⟨.ref s.heap.objs.size, _, I.laid (a := s.heap.objs.size) (o := .dK []) (t' := s.toks) (fun _ _ q => Heap.get?_push_of_some _ q) (Nat.le_refl _) (dk_empty s.heap I.big), rfl, h _ (I.hok.fresh (Nat.le_refl _))⟩
end
def mergeK (kvs more : List (Key × V)) : List (Key × V) := more.foldl (fun acc kv => putK acc kv.1 kv.2) kvs
theorem KV.merge : ∀ {more : List (Key × V)} {rs : List (Key × Value)} {kvs : List (Key × V)} {vs : List (Key × Value)}, KV more rs → KV kvs vs → KV (mergeK kvs more) (merged vs rs) := by
  intro more rs kvs vs r
  unfold KV at r
  induction r generalizing kvs vs with
  | nil => intro q; exact q
  | @cons p q ps qs h t ih =>
    intro r0
    have e : KV (putK kvs p.1 p.2) (stored vs q.1 q.2) := by
      have := r0.put p.1 h.2
      rw [← h.1]; exact this
    exact ih e
structure M1 (X : Cx) (o : Expr) (m : Str) (apos : Pos) (e : Expr) (cpos : Pos) : Prop where
  base : attributeBase o m X.env (eval o X.env) = eval o X.env
  few : ((backTo cpos (starEach [e] X.env)).all (fun x => !x.1) && (backToKw cpos (keywordEach [] X.env)).all (fun x => x.1.isSome)
    && decide (([e] : List Expr).length + ([] : List Keyword).length + (if ([] : List Keyword).isEmpty then 0 else 1) < 30)) = true
  line : (apos.endLine == cpos.line) = true
  trees : backTo cpos (starEach [e] X.env) = [(false, eval e X.env)]
structure M2 (X : Cx) (o : Expr) (m : Str) (apos : Pos) (e f : Expr) (cpos : Pos) : Prop where
  base : attributeBase o m X.env (eval o X.env) = eval o X.env
  few : ((backTo cpos (starEach [e, f] X.env)).all (fun x => !x.1) && (backToKw cpos (keywordEach [] X.env)).all (fun x => x.1.isSome)
    && decide (([e, f] : List Expr).length + ([] : List Keyword).length + (if ([] : List Keyword).isEmpty then 0 else 1) < 30)) = true
  line : (apos.endLine == cpos.line) = true
  trees : backTo cpos (starEach [e, f] X.env) = [(false, eval e X.env), (false, eval f X.env)]
def IsD (H : Hp) (a : Addr) : Prop := (∃ kvs, Rd H a (.dK kvs)) ∨ ∃ kvs, Rd H a (.dT kvs)
theorem isD_at {X : Cx} {pins : List (Addr × Obj)} {σ : St} {H : Hp} {s : Shared} {a : Addr} (I : Inv X pins σ H s) (d : IsD H a) :
    s.TypeIs (.ref a) "dict" ∧ (∀ b, Value.ref a = .ref b → ∃ ob, s.heap.get? b = some ob ∧ ob.dict = none) ∧ (a == sysModules) = false := by
  rcases d with ⟨kvs, e⟩ | ⟨kvs, e⟩
  · obtain ⟨_, hd, vs, _, dd⟩ := dk_rd I.hok e
    refine ⟨dd.typeIs, fun b q => ?_, hd⟩
    cases q
    obtain ⟨ob, _, _, h1, h2, _⟩ := dd
    exact ⟨ob, h1, h2.2.1⟩
  · obtain ⟨_, hd, xs, _, dd⟩ := dt_rd I.hok e
    refine ⟨dd.typeIs, fun b q => ?_, hd⟩
    cases q
    obtain ⟨ob, _, _, h1, h2, _⟩ := dd
    exact ⟨ob, h1, h2.2.1⟩
section
variable {X : Cx} {pins : List (Addr × Obj)} {σ : St} {H : Hp} {s : Shared} {a : Addr} {y d : V} {u r : Value} {o : Option V} {A : Around} {E : Value → Shared → Prop}
theorem d_get2 {Q : Value → Shared → Prop} (hu : A.units + 1 < cLine) (I : Inv X pins σ H s) (g : DGet H a y o) (ry : RelV y u) (rd : RelV d r) (h : ∀ w' s', Inv X pins σ H s' → RelV (o.getD d) w' → Q w' s') :
    wpAny (model X.prog X.w) A (call (.builtin "dict.get") [.ref a, u, r]) Q E s := by
  rcases g with ⟨kvs, k, e, ey, l⟩ | ⟨kvs, k, b, e, ey, eb, l⟩
  · subst ey
    obtain ⟨z, hd, vs, rel, dd⟩ := dk_rd I.hok e
    refine call_meetsIn PySem.F.slot_dict_get dd.typeIs PySem.F.entry_dict_get (PySem.F.args_dict_get_3 _ _ _) (meets_dict_get_default (mixKind X.prog X.w) a (kV_is ry) hd r) ⟨_, dd.mapOf, h _ _ (I.tok _) ?_⟩
    rw [l]
    exact (rel.val k).getD rd
  · subst ey
    cases (show u = Value.ref b from ry)
    obtain ⟨z, hd, xs, rel, dd⟩ := dt_rd I.hok e
    refine call_meetsIn PySem.F.slot_dict_get dd.typeIs PySem.F.entry_dict_get (PySem.F.args_dict_get_3 _ _ _) (meetsH_dict_get_default (tupleKind (mixKind X.prog X.w)) a b hd r) ⟨tupleKind_room_in1 hu, k, xs, key_of I.hok eb, dd, h _ _ (I.tok _) ?_⟩
    rw [l]
    exact (rel.val k).getD rd
end
def tDGet2 (td ty tx : TE) : TE := fun σ H Q => td σ H fun x H1 => ∃ a, x = .ref a ∧ IsD H1 a ∧ ty σ H1 fun y H2 => tx σ H2 fun z H3 => ∃ o, DGet H3 a y o ∧ Q (o.getD z) H3
section
variable {X : Cx} {o e f : Expr} {apos cpos : Pos} {td ty tx : TE}
theorem pe_dget2 (hu : X.A.units + 1 < cLine) (ho : PE X o td) (he : PE X e ty) (hf : PE X f tx) (m : M2 X o "get" apos e f cpos) : PE X (.Call (.Attribute o "get" apos) [e, f] [] cpos) (tDGet2 td ty tx) := by
  intro pins s σ H Q I h
  refine wpAny_Call_method m.base m.few m.line PySem.F.plainAttrs_dict PySem.F.slot_dict_get PySem.F.type_dict_get (thn (ho pins s σ H _ I h) fun u s1 ⟨x, H1, I1, rx, a, ex, d, q1⟩ => ?_)
  subst ex
  obtain rfl : u = Value.ref a := rx
  obtain ⟨t1, t2, _⟩ := isD_at I1 d
  refine ⟨t1, t2, ?_⟩
  rw [m.trees]
  refine Calls.callWith_builtin rfl (Calls.evalArgs_plain (Calls.spliced_cons (thn (he pins s1 σ H1 _ I1 q1) fun iv s2 ⟨y, H2, I2, ry, q2⟩ =>
    Calls.spliced_cons (thn (hf pins s2 σ H2 _ I2 q2) fun fv s3 ⟨z, H3, I3, rz, ov, g, q3⟩ => Calls.spliced_nil ?_))))
  exact d_get2 hu I3 g ry rz fun w' s4 I4 rw' => ⟨_, H3, I4, rw', q3⟩
end
section
variable {X : Cx} {pins : List (Addr × Obj)} {σ : St} {H : Hp} {s : Shared} {a : Addr} {kvs : List (Key × V)} {A : Around} {E : Value → Shared → Prop}
end
section
variable {X : Cx} {pins : List (Addr × Obj)} {σ : St} {H : Hp} {s : Shared} {a : Addr} {y : V} {u : Value} {A : Around} {E : Value → Shared → Prop}
end
end L2
namespace HT
open PySem PyProof.Rows
section
open PySem.SeqAt
open PySem.AutoSeq1 (wpAny_loadPart')
open PySem.MeetsSeq PySem.MeetsSeq2 PySem.MeetsSeq3
end
section
variable {prog : Program} {w : World} {A : Around} {E : Value → Shared → Prop} {s : Shared}
def sIx (n d : Nat) : Option Int → Nat
  | none => d
  | some v => if v < 0 then (v + (n : Int)).toNat else min v.toNat n
end
end HT
namespace L2
open PySem PySem.Spec PyProof.Rows
abbrev TO := St → Hp → (Option Int → Hp → Prop) → Prop
def PO (X : Cx) (e : Option Expr) (t : TO) : Prop :=
  ∀ (pins : List (Addr × Obj)) (s : Shared) (σ : St) (H : Hp) (Q : Option Int → Hp → Prop), Inv X pins σ H s → t σ H Q →
    wpAny (model X.prog X.w) X.A (evalPart e X.env) (fun u s' => ∃ o H', Inv X pins σ H' s' ∧ IsPart u o ∧ Q o H') X.xe s
def tNoPart : TO := fun _ H Q => Q none H
def tPart (t : TE) : TO := fun σ H Q => t σ H fun x H1 => ∃ i, x = .int i ∧ Q (some i) H1
theorem intsAre_of {ns : List Int} : ∀ {us : List Value}, Vals (ns.map V.int) us → IntsAre us ns := by
  induction ns with
  | nil => intro us r; rw [List.map_nil] at r; cases r; exact .nil
  | cons n ns ih =>
    intro us r
    rw [List.map_cons] at r
    cases r with
    | cons r1 r2 =>
      obtain ⟨t, e⟩ := r1
      subst e
      exact .cons n t (ih r2)
section
variable {X : Cx} {e : Expr} {te : TE} {lo hi : Option Expr} {tl th : TO} {pos p2 : Pos}
theorem po_none : PO X none tNoPart := by
  intro pins s σ H Q I h
  rw [evalPart_none]
  exact wpAny_pure ⟨none, H, I, .none, h⟩
theorem po_some (h : PE X e te) : PO X (some e) (tPart te) := by
  intro pins s σ H Q I hw
  rw [evalPart_some]
  refine thn (h pins s σ H _ I hw) fun u s1 ⟨x, H1, I1, r1, q1⟩ => ?_
  obtain ⟨i, rfl, q⟩ := q1
  obtain ⟨t, rfl⟩ := r1
  exact ⟨some i, H1, I1, .int i t, q⟩
def SlR (X : Cx) (r : V → Option Int → Option Int → Hp → VK → Prop) : Prop :=
  ∀ (pins : List (Addr × Obj)) (s : Shared) (σ : St) (H : Hp) (x : V) (v vl vu : Value) (lo hi : Option Int) (sl : Addr) (Q : VK), Inv X pins σ H s → RelV x v → s.heap.IsSliceOf sl vl vu .none → IsPart vl lo → IsPart vu hi → r x lo hi H Q →
    ∃ T id, typeLookup (.type T) "__getitem__" = pure (some (.builtin id)) ∧ s.TypeIs v T ∧ wpAny (model X.prog X.w) X.A (getItem v (.ref sl)) (EP X pins σ Q) X.xe s
def tSl (r : V → Option Int → Option Int → Hp → VK → Prop) (te : TE) (tl th : TO) : TE := fun σ H Q => te σ H fun x H1 => tl σ H1 fun l H2 => th σ H2 fun u H3 => r x l u H3 Q
theorem pe_slice {r : V → Option Int → Option Int → Hp → VK → Prop} (hr : SlR X r) (he : PE X e te) (hl : PO X lo tl) (hu : PO X hi th) : PE X (.Subscript e (.Slice lo hi none p2) pos) (tSl r te tl th) := by
  intro pins s σ H Q I h
  refine Subscript_ (thn (he pins s σ H _ I h) fun v s1 ⟨x, H1, I1, r1, q1⟩ => ?_)
  refine wpAny_Slice (thn (hl pins s1 σ H1 _ I1 q1) fun vl s2 ⟨l, H2, I2, pl, q2⟩ => thn (hu pins s2 σ H2 _ I2 q2) fun vu s3 ⟨u, H3, I3, pu, q3⟩ => ?_)
  rw [evalPart_none]
  refine wpAny_pure ?_
  have I4 : Inv X pins σ H3 { s3 with heap := s3.heap.push { cls := .type "slice", data := .fields #[vl, vu, .none] } } := I3.kept (t' := s3.toks) fun b ob q => Heap.get?_push_of_some _ q
  obtain ⟨T, id, hT, ht, hg⟩ := hr pins { s3 with heap := s3.heap.push { cls := .type "slice", data := .fields #[vl, vu, .none] } } σ H3 x v vl vu l u s3.heap.objs.size Q I4 r1 (Heap.IsSliceOf.new ..) pl pu q3
  show wpAny (model X.prog X.w) X.A (subscriptTail e (.Slice lo hi none p2) v (.ref s3.heap.objs.size)) (EP X pins σ Q) X.xe { s3 with heap := s3.heap.push { cls := .type "slice", data := .fields #[vl, vu, .none] } }
  exact tail_any (ops := [.ref s3.heap.objs.size, v]) ht hT hg (by with_unfolding_all rfl)
def cutV (xs : List V) (lo hi : Option Int) : List V := (xs.drop (HT.sIx xs.length 0 lo)).take (HT.sIx xs.length xs.length hi - HT.sIx xs.length 0 lo)
theorem cutV_length (xs : List V) (lo hi : Option Int) : (cutV xs lo hi).length ≤ xs.length := by
  unfold cutV
  rw [List.length_take, List.length_drop]
  omega
end
end L2
namespace L2
open PySem PySem.Spec PyProof.Rows
def ixN (n : Nat) (i : Int) : Option Nat := if 0 ≤ i then (if i < n then some i.toNat else none) else if -(n : Int) ≤ i then some (i + n).toNat else none
def atI {α : Type} (xs : List α) (i : Int) : Option α := (ixN xs.length i).bind fun j => xs[j]?
theorem ixN_seq {n : Nat} {i : Int} {j : Nat} (h : ixN n i = some j) : seqIndex? i n = some j ∧ j < n ∧ -(n : Int) ≤ i ∧ i < n := by
  unfold ixN at h
  by_cases h0 : 0 ≤ i
  · rw [if_pos h0] at h
    by_cases h1 : i < n
    · rw [if_pos h1] at h
      have e : i.toNat = j := Option.some.inj h
      exact ⟨by rw [seqIndex_of h0 h1, e], by omega, by omega, h1⟩
    · rw [if_neg h1] at h; cases h
  · rw [if_neg h0] at h
    by_cases h1 : -(n : Int) ≤ i
    · rw [if_pos h1] at h
      have e : (i + n).toNat = j := Option.some.inj h
      exact ⟨by rw [seqIndex_neg (by omega) h1, e], by omega, h1, by omega⟩
    · rw [if_neg h1] at h; cases h
theorem atI_get {α : Type} {xs : List α} {i : Int} {v : α} (h : atI xs i = some v) : ∃ j, seqIndex? i xs.length = some j ∧ xs[j]? = some v ∧ j < xs.length ∧ -(xs.length : Int) ≤ i ∧ i < xs.length := by
  unfold atI at h
  cases e : ixN xs.length i with
  | none => rw [e] at h; cases h
  | some j =>
    rw [e] at h
    obtain ⟨h1, h2, h3, h4⟩ := ixN_seq e
    exact ⟨j, h1, h, h2, h3, h4⟩
theorem atI_nat {α : Type} {xs : List α} {j : Nat} {v : α} (h : xs[j]? = some v) : atI xs (j : Int) = some v := by
  have hj : j < xs.length := (List.getElem?_eq_some_iff.mp h).1
  have e : ixN xs.length (j : Int) = some j := by
    unfold ixN
    rw [if_pos (by omega), if_pos (by omega)]; simp
  unfold atI; rw [e]; exact h
def PlainIx (b : Expr) : Prop := ∀ o i, subscripted b false o i = operate [o, i] (getItem o i)
def IxR (X : Cx) (r : R2) : Prop :=
  ∀ (value slice : Expr) (pins : List (Addr × Obj)) (s : Shared) (σ : St) (H : Hp) (x y : V) (v u : Value) (Q : VK), Inv X pins σ H s → RelV x v → RelV y u → r x y H Q →
    subscripted slice false v u = operate [v, u] (getItem v u) → wpAny (model X.prog X.w) X.A (subscriptTail value slice v u) (EP X pins σ Q) X.xe s
def MtR (X : Cx) (id : String) (r : V → List V → Hp → VK → Prop) : Prop :=
  ∀ (pins : List (Addr × Obj)) (s : Shared) (σ : St) (H : Hp) (x : V) (xs : List V) (v : Value) (us : List Value) (Q : VK), Inv X pins σ H s → RelV x v → Vals xs us → r x xs H Q →
    wpAny (model X.prog X.w) X.A (call (.builtin id) (v :: us)) (EP X pins σ Q) X.xe s
section
variable {X : Cx} {a b : Expr} {ta tb : TE} {pos : Pos}
theorem pe_ix {r : R2} (hr : IxR X r) (ha : PE X a ta) (hb : PE X b tb) (hs : PlainIx b) : PE X (.Subscript a b pos) (tOp r ta tb) := by
  intro pins s σ H Q I h
  exact Subscript_ (binT ha hb I h fun v u s2 x y H2 I2 rx ry q => hr a b pins s2 σ H2 x y v u Q I2 rx ry q (hs _ _))
def rIxL (K : PySem.W.Frag) : R2 := fun x y H Q => ∃ p xs i v, x = .ref p ∧ y = .int i ∧ SqL K H p xs ∧ atI xs i = some v ∧ Q v H
def rIxT (K : PySem.W.Frag) : R2 := fun x y H Q => ∃ p xs i v, x = .ref p ∧ y = .int i ∧ SqT K H p xs ∧ atI xs i = some v ∧ Q v H
theorem ix_list : IxR X (rIxL X.K) := by
  intro value slice pins s σ H x y v u Q I rx ry h hs
  obtain ⟨p, xs, i, z, rfl, rfl, hq, he, q⟩ := h
  cases rx
  obtain ⟨t, rfl⟩ := ry
  obtain ⟨its, r, pl, hz⟩ := I.list hq
  obtain ⟨j, h1, h2, h3, h4, h5⟩ := atI_get he
  obtain ⟨w, ew, rw'⟩ := r.get h2
  have hl := r.length
  have hn := line63
  have fin : EP X pins σ Q w s := ⟨z, H, I, rw', q⟩
  by_cases h0 : 0 ≤ i
  · have hj : i.toNat = j := by
      rw [seqIndex_of h0 h5] at h1
      exact Option.some.inj h1
    exact item_listR pl.isList h0 (by omega) (by rw [hj]; simpa using ew) fin hs
  · have hj : (i + (its.toArray.size : Int)).toNat = j := by
      rw [seqIndex_neg (by omega) h4] at h1
      rw [List.size_toArray, ← hl]
      exact Option.some.inj h1
    exact subscriptTail_builtinR (x := w) pl.isList.typeIs slot_list_getitem.lookup
      (wpAny_getItem_list_neg (Q := fun r s' => r = w ∧ EP X pins σ Q r s') pl.isList (by omega) (by rw [List.size_toArray] <;> omega) (by omega) (by rw [hj]; simpa using ew) ⟨rfl, fin⟩) hs
theorem ix_tup : IxR X (rIxT X.K) := by
  intro value slice pins s σ H x y v u Q I rx ry h hs
  obtain ⟨p, xs, i, z, rfl, rfl, hq, he, q⟩ := h
  cases rx
  obtain ⟨t, rfl⟩ := ry
  obtain ⟨its, r, pl, hz⟩ := I.tuple hq
  obtain ⟨j, h1, h2, h3, h4, h5⟩ := atI_get he
  obtain ⟨w, ew, rw'⟩ := r.get h2
  have hl := r.length
  have hn := line63
  have fin : EP X pins σ Q w s := ⟨z, H, I, rw', q⟩
  exact subscriptTail_builtinR (x := w) pl.typeIs slot_tuple_getitem.lookup
    (getItem_tuple (j := j) (Q := fun r s' => r = w ∧ EP X pins σ Q r s') pl (by omega) (by omega) (by rw [List.size_toArray, ← hl]; exact h1) (by simpa using ew) ⟨rfl, fin⟩) hs
theorem mapSeq_set (its : List Value) (n j : Nat) (u : Value) : Obj.mapSeq (·.setIfInBounds j u) { cls := .type "list", data := .seq its.toArray n } = { cls := .type "list", data := .seq (its.set j u).toArray n } := by
  simp [Obj.mapSeq]
theorem Inv.lst {pins : List (Addr × Obj)} {σ : St} {H : Hp} {s : Shared} {p : Addr} {xs : List V} (I : Inv X pins σ H s) (h : H p = some (.lst xs)) :
    ∃ (its : List Value) (n : Nat), Vals xs its ∧ s.heap.get? p = some { cls := .type "list", data := .seq its.toArray n } ∧ xs.length ≤ sizeLine := by
  obtain ⟨z, its, n, r, e⟩ := I.hok p _ h
  exact ⟨its, n, r, e, z⟩
theorem Inv.lstUpd {pins : List (Addr × Obj)} {σ : St} {H : Hp} {s : Shared} {p : Addr} {xs ys : List V} {its its' : List Value} {n n' : Nat} {f : Obj → Obj} (I : Inv X pins σ H s) (h : H p = some (.lst xs))
    (ho : s.heap.get? p = some { cls := .type "list", data := .seq its.toArray n }) (hf : f { cls := .type "list", data := .seq its.toArray n } = { cls := .type "list", data := .seq its'.toArray n' }) (r : Vals ys its') (hz : ys.length ≤ sizeLine) (t : Nat) :
    Inv X pins σ (upd H p (.lst ys)) { s with heap := s.heap.update p f, toks := t } := by
  have e : (s.heap.update p f).get? p = some { cls := .type "list", data := .seq its'.toArray n' } := by
    rw [Heap.get?_update_self f ho (by rw [hf] <;> rfl), hf]
  refine I.write (x := p) (e := p) (by rw [h]; trivial) (.inl rfl) (fun b u hb q => (Heap.get?_update_other _ _ (Ne.symm hb)).trans q) ⟨_, e⟩ ?_
  exact ⟨hz, its', n', r, e⟩
def rSetL : V → V → V → Hp → (Hp → Prop) → Prop := fun o i v H Q => ∃ p xs k j, o = .ref p ∧ i = .int k ∧ H p = some (.lst xs) ∧ ixN xs.length k = some j ∧ Q (upd H p (.lst (xs.set j v)))
theorem set_list : PSet X rSetL := by
  intro pins s σ H o i v ov iv u Q I ro ri rv h
  obtain ⟨p, xs, k, j, rfl, rfl, hp, hj, q⟩ := h
  cases ro
  obtain ⟨t, rfl⟩ := ri
  obtain ⟨its, n, r, ho, hz⟩ := I.lst hp
  obtain ⟨h1, h2, h3, h4⟩ := ixN_seq hj
  have hl := r.length
  have hn := line63
  have I' : Inv X pins σ (upd H p (.lst (xs.set j v))) { s with heap := s.heap.update p (Obj.mapSeq (·.setIfInBounds j u)) } :=
    I.lstUpd hp ho (mapSeq_set its n j u) (r.set rv j) (by rw [List.length_set]; exact hz) s.toks
  by_cases h0 : 0 ≤ k
  · have hk : k.toNat = j := by
      rw [seqIndex_of h0 h4] at h1
      exact Option.some.inj h1
    exact PySem.W.ki_setAt ho h0 (by omega) (by rw [List.size_toArray, ← hl]; exact h4) (by rw [hk]; exact ⟨_, I', q⟩)
  · have hk : (k + (its.toArray.size : Int)).toNat = j := by
      rw [seqIndex_neg (by omega) h3] at h1
      rw [List.size_toArray, ← hl]
      exact Option.some.inj h1
    exact PySem.W.ki_setBack ho (by omega) (by rw [List.size_toArray, ← hl]; exact h3) (by omega) (by rw [hk]; exact ⟨_, I', q⟩)
theorem slice_bounds (lo hi : Option Int) (n : Nat) : (sliceBounds lo hi none n).1 = ((HT.sIx n 0 lo : Nat) : Int) ∧ (sliceBounds lo hi none n).2.1 = ((HT.sIx n n hi : Nat) : Int) ∧ (sliceBounds lo hi none n).2.2 = 1 := by
  refine ⟨?_, ?_, rfl⟩
  · cases lo with
    | none => simp [sliceBounds, HT.sIx]
    | some i =>
      simp only [sliceBounds, HT.sIx, Option.getD_none, show (1 : Int) > 0 by decide, if_true]
      by_cases h : i < 0
      · simp only [h, if_true] <;> omega
      · simp only [h, if_false] <;> omega
  · cases hi with
    | none => simp [sliceBounds, HT.sIx]
    | some i =>
      simp only [sliceBounds, HT.sIx, Option.getD_none, show (1 : Int) > 0 by decide, if_true]
      by_cases h : i < 0
      · simp only [h, if_true] <;> omega
      · simp only [h, if_false] <;> omega
theorem slicePick_cut (its : List Value) (lo hi : Option Int) : slicePick its.toArray lo hi none = ((its.drop (HT.sIx its.length 0 lo)).take (HT.sIx its.length its.length hi - HT.sIx its.length 0 lo)).toArray := by
  obtain ⟨h1, h2, h3⟩ := slice_bounds lo hi its.toArray.size
  unfold slicePick
  rw [h1, h2, h3]
  simp only [sliceRange_one, pick_run, List.size_toArray] <;> rfl
def rSlL (K : PySem.W.Frag) : V → Option Int → Option Int → Hp → VK → Prop := fun x lo hi H Q => ∃ a xs, x = .ref a ∧ SqL K H a xs ∧ ∀ p, H p = none → Q (.ref p) (upd H p (.lst (cutV xs lo hi)))
theorem sl_list : SlR X (rSlL X.K) := by
  intro pins s σ H x v vl vu lo hi sl Q I rx hs pl pu h
  obtain ⟨a, xs, rfl, hx, q⟩ := h
  cases rx
  obtain ⟨its, r, ht, hz⟩ := I.list hx
  have hlen := r.length
  refine ⟨"list", _, slot_list_getitem.lookup, ht.isList.typeIs, ?_⟩
  refine wpAny_getItem_list_slice ht.isList hs pl pu .none (by simp) ?_ (by rw [List.size_toArray] <;> omega)
  rw [slicePick_cut, ← hlen]
  refine ⟨.ref s.heap.objs.size, _, I.laid (t' := s.toks) (o := .lst (cutV xs lo hi)) (fun b ob q => Heap.get?_push_of_some _ q) (Nat.le_refl _) ?_, rfl, q _ (I.hok.fresh (Nat.le_refl _))⟩
  exact ⟨Nat.le_trans (cutV_length xs lo hi) hz, _, 0, (r.drop (HT.sIx xs.length 0 lo)).take (HT.sIx xs.length xs.length hi - HT.sIx xs.length 0 lo), Heap.get?_push_size _ rfl⟩
theorem call_len_seq : CallR X (.builtin "len") (fun xs H Q => ∃ p ys, xs = [.ref p] ∧ (SqL X.K H p ys ∨ SqT X.K H p ys) ∧ Q (.int ys.length) H) := by
  intro pins s σ H xs us Q I r h
  obtain ⟨p, ys, rfl, hq, q⟩ := h
  obtain ⟨u, rfl, rx⟩ := vals1 r
  cases rx
  have hn := line63
  rcases hq with hq | hq
  · obtain ⟨its, r', pl, hz⟩ := I.list hq
    have hlen := r'.length
    exact Calls.call_len_list pl.isList (by simp only [List.size_toArray] <;> omega) ⟨.int ys.length, H, I.tok _, ⟨s.toks + 1, by rw [List.size_toArray, hlen]⟩, q⟩
  · obtain ⟨its, r', pl, hz⟩ := I.tuple hq
    have hlen := r'.length
    exact len_tuple pl (by simp only [List.size_toArray] <;> omega) ⟨.int ys.length, H, I.tok _, ⟨s.toks + 1, by rw [List.size_toArray, hlen]⟩, q⟩
theorem call_tuple_of : CallR X (.type "tuple") (fun xs H Q => ∃ p ys, xs = [.ref p] ∧ ((SqL X.K H p ys ∧ ∀ l, H l = none → Q (.ref l) (upd H l (.tup ys))) ∨ (SqT X.K H p ys ∧ Q (.ref p) H))) := by
  intro pins s σ H xs us Q I r h
  obtain ⟨p, ys, rfl, h⟩ := h
  obtain ⟨u, rfl, rx⟩ := vals1 r
  cases rx
  rcases h with ⟨hq, q⟩ | ⟨hq, q⟩
  · obtain ⟨its, r', pl, hz⟩ := I.list hq
    have hlen := r'.length
    refine call_tuple_list pl.isList (fun h' kp => ?_) (by simp only [List.size_toArray] <;> omega)
    have I1 : Inv X pins σ H { s with heap := h' } := I.kept (t' := s.toks) kp
    have I2 : Inv X pins σ (upd H h'.objs.size (.tup ys)) { s with heap := h'.push { cls := .type "tuple", data := .seq its.toArray } } :=
      I1.laid (t' := s.toks) (fun b o e => Heap.get?_push_of_some _ e) (Nat.le_refl _) (show ObjOk X.prog X.w _ _ _ (.tup ys) from ⟨hz, its, r', IsTpl.new _ _⟩)
    exact ⟨.ref h'.objs.size, _, I2, rfl, q _ (I1.hok.fresh (Nat.le_refl _))⟩
  · obtain ⟨its, r', pl, hz⟩ := I.tuple hq
    exact call_tuple_same pl ⟨.ref p, H, I, rfl, q⟩
def tyV (K : PySem.W.Frag) (T : String) (x : V) (H : Hp) : Prop := match x with
  | .str _ => T = "str"
  | .int _ => T = "int"
  | .ref p => (T = "list" ∧ ∃ xs, SqL K H p xs) ∨ (T = "tuple" ∧ ∃ o, K.lookup p = some o ∧ o.cls = .type "tuple" ∧ o.dict = none) ∨
      (T = "dict" ∧ ((∃ kvs, H p = some (.dK kvs)) ∨ ∃ kvs, H p = some (.dT kvs))) ∨ (T = "set" ∧ ∃ S n, H p = some (.set S n))
  | _ => False
theorem tyV_is {pins : List (Addr × Obj)} {σ : St} {H : Hp} {s : Shared} {T : String} {x : V} {v : Value} (I : Inv X pins σ H s) (r : RelV x v) (ty : tyV X.K T x H) :
    s.TypeIs v T ∧ ∀ a, v = .ref a → ∃ ob, s.heap.get? a = some ob ∧ ob.dict = none := by
  cases x with
  | str z =>
    obtain ⟨t, rfl⟩ := r
    cases (show T = "str" from ty)
    exact ⟨typeIs_str s z t, fun _ e => nomatch e⟩
  | int i =>
    obtain ⟨t, rfl⟩ := r
    cases (show T = "int" from ty)
    exact ⟨typeIs_int s i t, fun _ e => nomatch e⟩
  | ref p =>
    cases r
    rcases ty with ⟨rfl, xs, hq⟩ | ⟨rfl, o, hk, hc, hd⟩ | ⟨rfl, hk⟩ | ⟨rfl, S, n, hk⟩
    · obtain ⟨its, _, pl, _⟩ := I.list hq
      refine ⟨pl.isList.typeIs, fun a e => ?_⟩
      cases e
      obtain ⟨o, n, e, c, hd, _⟩ := pl
      exact ⟨o, e, hd⟩
    · refine ⟨⟨o, I.kIn p o hk, hc⟩, fun a e => ?_⟩
      cases e
      exact ⟨o, I.kIn _ o hk, hd⟩
    · have z : ∃ o, s.heap.get? p = some o ∧ o.ExactDict := by
        rcases hk with ⟨kvs, hk⟩ | ⟨kvs, hk⟩
        · obtain ⟨_, _, _, _, o, _, _, e, ex, _⟩ := I.hok p _ hk
          exact ⟨o, e, ex⟩
        · obtain ⟨_, _, _, _, o, _, _, e, ex, _⟩ := I.hok p _ hk
          exact ⟨o, e, ex⟩
      obtain ⟨o, e, ex⟩ := z
      refine ⟨⟨o, e, ex.1⟩, fun a e2 => ?_⟩
      cases e2
      exact ⟨o, e, ex.2.1⟩
    · obtain ⟨o, _, _, _, e, ex, _⟩ := I.hok p _ hk
      refine ⟨⟨o, e, ex.1⟩, fun a e2 => ?_⟩
      cases e2
      exact ⟨o, e, ex.2.1⟩
  | _ => exact False.elim ty
def tBM0 (K : PySem.W.Frag) (T : String) (r : V → List V → Hp → VK → Prop) (to : TE) : TE := fun σ H Q => to σ H fun x H1 => tyV K T x H1 ∧ r x [] H1 Q
def tBM (K : PySem.W.Frag) (T : String) (r : V → List V → Hp → VK → Prop) (to : TE) (t : TA) : TE := fun σ H Q => to σ H fun x H1 => tyV K T x H1 ∧ t σ H1 fun xs H2 => r x xs H2 Q
variable {o e : Expr} {es : List Expr} {to : TE} {t : TA} {name : Str} {apos cpos : Pos} {T id : String} {r : V → List V → Hp → VK → Prop}
theorem pe_bm0 (pa : PlainAttrs T) (slot : Slot T name id) (hty : typeOf (.builtin id) = pure (.type "method_descriptor")) (hm : MtR X id r) (ho : PE X o to)
    (hbase : attributeBase o name X.env (eval o X.env) = eval o X.env := by rfl) (hline : (apos.endLine == cpos.line) = true := by rfl) : PE X (.Call (.Attribute o name apos) [] [] cpos) (tBM0 X.K T r to) := by
  intro pins s σ H Q I h
  refine wpAny_Call_method0_late hbase hline (thn (ho pins s σ H _ I h) fun v s1 ⟨x, H1, I1, r1, ty, q1⟩ => ?_)
  obtain ⟨h1, h2⟩ := tyV_is I1 r1 ty
  exact ⟨T, id, pa, slot, hty, h1, h2, Calls.callWith_builtin rfl (PySem.evalArgs_none (hm pins s1 σ H1 x [] v [] Q I1 r1 .nil q1))⟩
theorem pe_bm (pa : PlainAttrs T) (slot : Slot T name id) (hty : typeOf (.builtin id) = pure (.type "method_descriptor")) (hm : MtR X id r) (ho : PE X o to) (ha : PA X (e :: es) t)
    (hbase : attributeBase o name X.env (eval o X.env) = eval o X.env := by rfl)
    (hfew : ((backTo cpos (starEach (e :: es) X.env)).all (fun x => !x.1) && (backToKw cpos (keywordEach [] X.env)).all (fun x => x.1.isSome)
      && decide ((e :: es).length + ([] : List Keyword).length + (if ([] : List Keyword).isEmpty then 0 else 1) < 30)) = true := by rfl)
    (hline : (apos.endLine == cpos.line) = true := by rfl) (hs : starEach (e :: es) X.env = (false, eval e X.env) :: starEach es X.env := by rfl) (hplain : (backTo cpos (starEach es X.env)).any (·.1) = false := by rfl) :
    PE X (.Call (.Attribute o name apos) (e :: es) [] cpos) (tBM X.K T r to t) := by
  intro pins s σ H Q I h
  refine wpAny_Call_method_late hbase hfew hline rfl (thn (ho pins s σ H _ I h) fun v s1 ⟨x, H1, I1, r1, ty, q1⟩ => ?_)
  obtain ⟨h1, h2⟩ := tyV_is I1 r1 ty
  refine ⟨T, id, pa, slot, hty, h1, h2, ?_⟩
  have hA := ha cpos pins s1 σ H1 _ I1 q1
  rw [hs] at hA ⊢
  refine Calls.callWith_builtin (by show (false || (backTo cpos (starEach es X.env)).any (·.1)) = false; rw [hplain] <;> rfl) (Calls.evalArgs_plain ?_)
  exact thn hA fun us s2 ⟨vs, H2, I2, r2, q2⟩ => hm pins s2 σ H2 x vs v us Q I2 r1 r2 q2
end
end L2
namespace L2
open PySem PySem.Spec PyProof.Rows
def MtM (X : Cx) (id : String) (r : V → List V → Hp → VK → Prop) : Prop :=
  ∀ (pins : List (Addr × Obj)) (s : Shared) (σ : St) (H : Hp) (x : V) (xs : List V) (v : Value) (us : List Value) (Q : VK), Inv X pins σ H s → RelV x v → Vals xs us → r x xs H Q →
    wpAny (model X.prog X.w) X.A (call (.builtin id) (v :: us)) (EP X pins σ Q) X.xe s
theorem Vals.one : ∀ {x : V} {us : List Value}, Vals [x] us → ∃ u, us = [u] ∧ RelV x u
  | _, _, .cons r .nil => ⟨_, rfl, r⟩
theorem Vals.two : ∀ {x y : V} {us : List Value}, Vals [x, y] us → ∃ u v, us = [u, v] ∧ RelV x u ∧ RelV y v
  | _, _, _, .cons r (.cons q .nil) => ⟨_, _, rfl, r, q⟩
theorem Vals.zero : ∀ {us : List Value}, Vals [] us → us = []
  | _, .nil => rfl
theorem Vals.reverse {xs : List V} {us : List Value} (h : Vals xs us) : Vals xs.reverse us.reverse := by
  induction h with
  | nil => exact .nil
  | cons r t ih => rw [List.reverse_cons, List.reverse_cons]; exact Vals.append ih (.cons r .nil)
section
variable {X : Cx} {pins : List (Addr × Obj)} {σ : St} {H : Hp} {s : Shared} {l b : Addr} {xs ys zs : List V}
theorem Inv.lset {its its' : List Value} {n : Nat} {f : Array Value → Array Value} {t' : Nat} (I : Inv X pins σ H s) (hH : H l = some (.lst xs))
    (e : s.heap.get? l = some { cls := .type "list", data := .seq its.toArray n }) (hf : f its.toArray = its'.toArray) (hv : Vals ys its') (hz : ys.length ≤ sizeLine) :
    Inv X pins σ (upd H l (.lst ys)) { s with heap := s.heap.update l (Obj.mapSeq f), toks := t' } := by
  have q := PySem.IsL.update e f
  rw [hf] at q
  refine I.write (x := l) (e := l) (by rw [hH]; exact trivial) (.inl rfl) (fun b' u hb hu => (Heap.get?_update_other s.heap (Obj.mapSeq f) (Ne.symm hb)).trans hu) ⟨_, q⟩ ?_
  exact ⟨hz, its', _, hv, q⟩
theorem Inv.lnew {its : List Value} {t' : Nat} (I : Inv X pins σ H s) (hv : Vals ys its) (hz : ys.length ≤ sizeLine) :
    Inv X pins σ (upd H s.heap.objs.size (.lst ys)) { s with heap := s.heap.push { cls := .type "list", data := .seq its.toArray }, toks := t' } :=
  I.laid (fun _ _ q => Heap.get?_push_of_some _ q) (Nat.le_refl _) ⟨hz, its, 0, hv, Heap.get?_push_size _ rfl⟩
theorem Inv.fresh (I : Inv X pins σ H s) : H s.heap.objs.size = none := I.hok.fresh (Nat.le_refl _)
theorem Inv.lstM (I : Inv X pins σ H s) (hH : H l = some (.lst xs)) : xs.length ≤ sizeLine ∧ ∃ (its : List Value) (n : Nat), Vals xs its ∧ xs.length = its.length ∧ s.heap.get? l = some { cls := .type "list", data := .seq its.toArray n } := by
  obtain ⟨z, its, n, r, e⟩ := I.hok l _ hH
  exact ⟨z, its, n, r, r.length, e⟩
theorem notLongL {n : Nat} (h : n ≤ sizeLine) : Builtin.List.listTooLong n = false := by
  unfold Builtin.List.listTooLong
  exact decide_eq_false (by omega)
end
section
variable {X : Cx}
def rAppend : V → List V → Hp → VK → Prop := fun x vs H Q => ∃ l xs y, x = .ref l ∧ vs = [y] ∧ H l = some (.lst xs) ∧ xs.length < sizeLine ∧ Q .non (upd H l (.lst (xs ++ [y])))
theorem mt_append : MtM X "list.append" rAppend := by
  intro pins s σ H x vs v us Q I rx rv h
  obtain ⟨l, xs, y, rfl, rfl, hH, hz, q⟩ := h
  cases rx
  obtain ⟨u, rfl, ru⟩ := rv.one
  obtain ⟨z, its, n, r, hl, e⟩ := I.lstM hH
  refine call_meets F.slot_list_append ⟨_, e, rfl⟩ F.entry_list_append (F.args_list_append_2 _ _) (PySem.list_append l its.toArray n u (by rw [List.size_toArray]; omega)) ⟨e, ?_⟩
  refine ⟨.non, _, I.lset (its' := its ++ [u]) hH e (by simp) (r.append (.cons ru .nil)) ?_, rfl, q⟩
  rw [List.length_append, List.length_singleton]
  omega
def rExtend : V → List V → Hp → VK → Prop := fun x vs H Q => ∃ l b xs zs, x = .ref l ∧ vs = [.ref b] ∧ H l = some (.lst xs) ∧ H b = some (.lst zs) ∧ xs.length + zs.length ≤ sizeLine ∧ Q .non (upd H l (.lst (xs ++ zs)))
theorem mt_extend : MtM X "list.extend" rExtend := by
  intro pins s σ H x vs v us Q I rx rv h
  obtain ⟨l, b, xs, zs, rfl, rfl, hH, hB, hz, q⟩ := h
  cases rx
  obtain ⟨u, rfl, ru⟩ := rv.one
  cases ru
  obtain ⟨z, its, n, r, hl, e⟩ := I.lstM hH
  obtain ⟨z2, its2, n2, r2, hl2, e2⟩ := I.lstM hB
  have hsz : its.toArray.size + its2.toArray.size ≤ sizeLine := by rw [List.size_toArray, List.size_toArray]; omega
  have hlong : ¬ (!its.toArray.isEmpty && Builtin.List.listTooLong (its.toArray.size + its2.toArray.size)) = true := by
    rw [notLongL hsz, Bool.and_false]
    exact Bool.false_ne_true
  refine call_meets F.slot_list_extend ⟨_, e, rfl⟩ F.entry_list_extend (F.args_list_extend_2 _ _)
    (AutoSeq1.list_extend_list_list_0 l its.toArray n b its2.toArray n2 hlong (by rw [List.size_toArray]; omega) (by omega)) ⟨e, e2, ?_⟩
  refine ⟨.non, _, I.lset (its' := its ++ its2) hH e (by simp) (r.append r2) ?_, rfl, q⟩
  rw [List.length_append]
  omega
def rCat : R2 := fun x y H Q => ∃ l b xs zs, x = .ref l ∧ y = .ref b ∧ H l = some (.lst xs) ∧ H b = some (.lst zs) ∧ xs.length + zs.length ≤ sizeLine ∧ ∀ p, H p = none → Q (.ref p) (upd H p (.lst (xs ++ zs)))
theorem op_cat : OpR X (binaryOp .Add) rCat := by
  intro pins s σ H x y v u Q I rx ry h
  obtain ⟨l, b, xs, zs, rfl, rfl, hH, hB, hz, q⟩ := h
  cases rx
  cases ry
  obtain ⟨z, its, n, r, hl, e⟩ := I.lstM hH
  obtain ⟨z2, its2, n2, r2, hl2, e2⟩ := I.lstM hB
  refine PySem.P.add_list e e2 ?_ (by rw [List.size_toArray, List.size_toArray]; omega)
  have ea : its.toArray ++ its2.toArray = (its ++ its2).toArray := by simp
  rw [ea]
  exact ⟨.ref _, _, I.lnew (t' := s.toks) (r.append r2) (by rw [List.length_append]; omega), rfl, q _ I.fresh⟩
end
section
variable {prog : Program} {w : World} {A : Around} {E : Value → Shared → Prop} {s : Shared}
end
section
variable {X : Cx}
end
end L2
namespace Att
open PySem PySem.W PySem.Calls PyProof.Rows
theorem ints_of_wellAll {P : Params} {h : Heap} : ∀ (ns : List Int) (vs : List Value), WellAll P h vs (ns.map WData.int) → IntsAre vs ns := by
  intro ns
  induction ns with
  | nil =>
    intro vs w
    rw [List.map_nil] at w
    cases w
    exact .nil
  | cons n ns ih =>
    intro vs w
    rw [List.map_cons] at w
    cases w with
    | cons a b =>
      cases a
      exact .cons _ _ (ih _ b)
theorem script_of {l : OpenLaw} {n : Nat} (hn : l.most = some n) {P : Params} {h : Heap} {args : List WData} {vals : List Value}
    (hpre : l.row.toRowW.claim.pre args = true) (hwl : WellAll P h vals args) :
    ∃ a vs ns, vals = [Value.ref a] ∧ args = [WData.list (ns.map WData.int)] ∧ h.get? a = some { cls := .type "list", data := .seq vs.toArray } ∧ IntsAre vs ns ∧ ns.length ≤ n := by
  have hsh : WShape.hasAll [] args [.list .int] = true := (pre_splitW hpre).1
  have hc : l.pre.holds [] { args := args } = true := (pre_splitW hpre).2
  obtain ⟨d, r, rfl, h1, h2⟩ := hasAllW_cons hsh
  obtain rfl := hasAllW_nil h2
  obtain ⟨xs, rfl, h3⟩ := hasW_list h1
  obtain ⟨ns, rfl⟩ := items_int h3
  have hlen : ns.length ≤ n := by
    unfold OpenLaw.pre at hc
    have h4 : (WTm.not (.lt (.lit (.int (n : Int))) (.len (.arg 0)))).holds [] { args := [.list (ns.map .int)] } = true := by
      have h4 := (holds_andW hc).1
      rw [hn] at h4
      exact h4
    have h5 := condW_of h4 (w_not (w_lt w_lit (w_len_list (w_arg rfl))))
    rw [List.length_map] at h5
    refine Nat.le_of_not_lt fun q => ?_
    have q' : (n : Int) < ((ns.length : Nat) : Int) := by omega
    first
      | (rw [decide_eq_true q'] at h5; exact absurd h5 (by decide))
      | (simp at h5; omega)
  cases hwl with
  | cons w1 w2 =>
    cases w2
    cases w1 with
    | list ho hall => exact ⟨_, _, ns, rfl, rfl, ho, ints_of_wellAll ns _ hall, hlen⟩
theorem post_true (l : OpenLaw) (args : List WData) : l.row.toRowW.claim.post args (.bool true) args = true :=
  postW_of (r := l.row.toRowW) (X := (true == true))
    (show WShape.has [] (.bool true) .bool = true by first | rfl | decide | simp [WShape.has, WShape.arms, WShape.armsAll])
    (show (WTm.eq .res (.lit (.bool true))).value [] { args := args, res := some (.bool true), after := args } = some (.bool (true == true)) from w_eq_bool (w_res rfl) w_lit) rfl
theorem attach_call {l : OpenLaw} {n : Nat} {q : Program} {loose : List Str} {XP : (Str → Option Value) → Heap → Prop} {YP : World → Heap → Prop} {d : DefRec}
    (hn : l.most = some n) (hdf : d.params.defaults = [])
    (call : ∀ (w : World) (s₀ s₁ : Shared) (mg mb : Str → Option Value) (fa : Addr) (o : Obj) (pm cd doc : Value) (a : Addr) (vs : List Value) (ns : List Int),
      Ground q loose [] XP w s₀ mg mb s₁.heap → YP w s₁.heap →
      s₁.heap.get? fa = some o → o.data = .func (docDef d.name d.params d.body d.scope pm cd doc) → s₁.heap.CodeRec cd d.name → mg d.name = some (.ref fa) →
      s₁.heap.get? a = some { cls := .type "list", data := .seq vs.toArray } → IntsAre vs ns → ns.length ≤ n → s₁.gens = #[] →
      codeAny (model l.prog w) callerA (.call (.ref fa) ⟨[.ref a], []⟩) (fun r s' => r = .ok (.ret (.bool true)) ∧ OldK s₁.heap s'.heap ∧ s'.os = s₁.os ∧ AllBare s'.gens) s₁) :
    WalkO q loose XP YP l.row.toRowW d [] (fun f vs => PySem.call f vs) := by
  intro w s₀ s₁ mg mb G Y fa o pm cd doc dV kV ho hd hcd hD hmg hg args vals as hpre hlay hrd hwl hlo
  obtain rfl : dV = .none := Dflts.none hD hdf
  obtain rfl : kV = .none := Dflts.noKw hD
  obtain ⟨a, vs, ns, rfl, rfl, hobj, hints, hlen⟩ := script_of hn hpre hwl
  refine enter_call (codeAny_mono (call w s₀ s₁ mg mb fa o pm cd doc a vs ns G Y ho (fd_plain hd) hcd hmg hobj hints hlen hg) fun r s' hq => ?_)
  obtain ⟨rfl, h2, h3, h4⟩ := hq
  exact ⟨.inl ⟨.bool true, .bool true, [], rfl, fun _ => rfl, .bool true, post_true l _, fun _ => ⟨List.Pairwise.nil, fun _ hm => (nomatch hm)⟩⟩, h2, h3, h4⟩
section
variable {prog : Program} {w : World} {A : Around} {E : Value → Shared → Prop} {s : Shared} {K : Frag}
end
end Att
namespace L2
open PySem PySem.Spec PyProof.Rows
theorem vals_ints : ∀ {vs : List Value} {ns : List Int}, IntsAre vs ns → Vals (ns.map V.int) vs
  | _, _, .nil => .nil
  | _, _, .cons n t h => .cons ⟨t, rfl⟩ (vals_ints h)
def Only (H : Hp) : Prop := ∀ b, H b = none ∨ ∃ o xs, H b = some (.frz o (.lst xs))
theorem law_call {P : Program} {w : World} {K : PySem.W.Frag} {mg mb : Str → Option Value} {CX : CXT} {k : Nat} {fa a : Addr} {fd : FuncData} {x : Str} {sp : Sp} {s₁ : Shared} {vs : List Value} {ns : List Int}
    (KX : K.In s₁.heap) (hns : s₁.heap.Ns mainGlobals mg) (hb : s₁.heap.Ns builtinsNs mb) (hbb : ∀ x : Str, x ≠ "__name__" → mb x = bootBuiltins x) (hlim : s₁.heap.NoLimit) (hg : s₁.gens = #[])
    (ha : s₁.heap.get? a = some { cls := .type "list", data := .seq vs.toArray }) (hi : IntsAre vs ns) (hl : ns.length ≤ sizeLine) (hr : Room k callerA)
    (F : ∀ base : Heap, K.In base → base.Ns mainGlobals mg → FnOk P w K mg base CX k fa fd [x] sp) (hbind : ∀ (s : Shared) (u : Value), BindsTo s fd ⟨[u], []⟩ [(x, u)])
    (hsp : ∀ H : Hp, Only H → SqL K H a (ns.map V.int) → sp [.ref a] H (fun v _ => v = .bl true) fun _ _ _ => False)
    (hCX : ∀ H e s', CX [] H s₁ (fun _ _ _ => False) e s' → False) :
    codeAny (model P w) callerA (.call (.ref fa) ⟨[.ref a], []⟩) (fun r s' => r = .ok (.ret (.bool true)) ∧ OldK s₁.heap s'.heap ∧ s'.os = s₁.os ∧ AllBare s'.gens) s₁ := by
  have rv := vals_ints hi
  have lenV := hi.length
  -- from an abstract heap in which nothing but the script may be tracked
  have core : ∀ H : Hp, Only H → SqL K H a (ns.map V.int) → HOk P w H s₁.heap → (∀ b, H b ≠ none → b = a) → (H a ≠ none → K.lookup a = none) →
      codeAny (model P w) callerA (.call (.ref fa) ⟨[.ref a], []⟩) (fun r s' => r = .ok (.ret (.bool true)) ∧ OldK s₁.heap s'.heap ∧ s'.os = s₁.os ∧ AllBare s'.gens) s₁ := by
    intro H hO hS hok hA hK
    have base_of : ∀ {b : Addr} {o : Obj}, s₁.heap.get? b = some o → H b = none → (hidT s₁.heap H).get? b = some o := fun e n => hidT_get e n
    have noA : ∀ {b : Addr} {o : Obj} {es : Array DictEntry} {ep : Nat}, s₁.heap.get? b = some o → o.data = .dict es ep → H b = none := fun {b o es ep} e d => by
      cases q : H b with
      | none => rfl
      | some u =>
        have e' : b = a := hA b (by rw [q]; simp)
        subst e'
        rw [ha] at e; cases e
        have d' : Data.seq vs.toArray _ = Data.dict es ep := d
        cases d'
    have nsK : ∀ {b : Addr} {m : Str → Option Value}, s₁.heap.Ns b m → (hidT s₁.heap H).Ns b m := fun {b m} ⟨o, es, ep, e, d, r⟩ => ⟨o, es, ep, base_of e (noA e d), d, r⟩
    have hKb : K.In (hidT s₁.heap H) := fun b o e => base_of (KX b o e) (by
      cases q : H b with
      | none => rfl
      | some u =>
        have e' : b = a := hA b (by rw [q]; simp)
        subst e'
        rw [hK (by rw [q]; simp)] at e; cases e)
    have hM : Mod K mg (hidT s₁.heap H) := ⟨hKb, nsK hns, ⟨mb, nsK hb, hbb⟩, let ⟨mc, h1, h2⟩ := hlim; ⟨mc, nsK h1, h2⟩⟩
    have e0 : Env0 P w K mg (hidT s₁.heap H) callerA [] s₁ H := ⟨rfl, hM, fun b o e => of_hidT e, Nat.le_of_eq (hidT_size _ _), trivial, fun b hb => absurd (show b ∈ ([] : List Addr) from hb) (by simp), hok, .of_eq hg⟩
    refine codeAny_mono ((F _ hKb (nsK hns)).run callerA [] s₁ H ⟨[.ref a], []⟩ [.ref a] [.ref a] _ _ hr e0 (hbind s₁ (.ref a)) (.cons rfl .nil) (hsp H hO hS)) fun r s' h => ?_
    cases r with
    | error e => exact (hCX H e s' h).elim
    | ok fl =>
      cases fl with
      | next => exact False.elim h
      | brk => exact False.elim h
      | cont => exact False.elim h
      | ret u =>
        obtain ⟨v, H', os, bare, un, hok', r', q⟩ := h
        have q' : v = .bl true := q
        subst q'
        obtain rfl : u = Value.bool true := r'
        refine ⟨rfl, OldK.of_keep fun b o e => ?_, os, bare⟩
        cases q : H b with
        | none => exact un.keep b o e q (by intro z; exact absurd (show b ∈ ([] : List Addr) from z) (by simp)) (by simp)
        | some u =>
          rcases hO b with z | ⟨ob, xs, z⟩
          · rw [q] at z; cases z
          · have z2 := un.frzs b ob _ z
            obtain ⟨e1, _⟩ := hok b _ z
            obtain ⟨e2, _⟩ := hok' b _ z2
            rw [e] at e1; cases e1
            exact e2
  cases hk : K.lookup a with
  | some o =>
    -- the script is one of the module's own objects
    have e := KX a o hk
    rw [ha] at e
    cases e
    refine core (fun _ => none) (fun _ => .inl rfl) (.inr ⟨_, vs.toArray, _, hk, rfl, rfl, rfl, by rw [List.size_toArray, lenV]; exact hl, by simpa using rv⟩) (fun b u z => by have z' : (none : Option HO) = some u := z; cases z') (fun b z => absurd rfl z) fun z => absurd rfl z
  | none =>
    refine core (fun b => if b = a then some (.frz { cls := .type "list", data := .seq vs.toArray } (.lst (ns.map V.int))) else none) (fun b => ?_) (.inl (.inr ⟨{ cls := .type "list", data := .seq vs.toArray }, if_pos rfl⟩)) (fun b u z => ?_) (fun b z => ?_) fun _ => hk
    · by_cases hb : b = a
      · exact .inr ⟨_, _, if_pos hb⟩
      · exact .inl (if_neg hb)
    · by_cases hb : b = a
      · have z' := (if_pos hb).symm.trans z
        cases z'
        subst hb
        exact ⟨ha, by rw [List.length_map]; exact hl, vs, _, rv, ha⟩
      · have z' := (if_neg hb).symm.trans z
        cases z'
    · by_cases hb : b = a
      · exact hb
      · exact absurd (if_neg hb) z
end L2
namespace L2
open PySem PySem.Spec PyProof.Rows
theorem walk_of {l : PySem.W.OpenLaw} {n k : Nat} {q : Program} {loose : List Str} {XP : (Str → Option Value) → Heap → Prop} {YP : World → Heap → Prop} {d : DefRec} {K : Params → PySem.W.Frag} {CX : World → CXT} {sp : World → Sp} {x : Str}
    (hn : l.most = some n) (hn2 : n ≤ sizeLine) (hdf : d.params.defaults = []) (hr : Room k callerA)
    (hY : ∀ (w : World) (h : Heap), YP w h → (K w.params).In h)
    (F : ∀ (w : World) (mg : Str → Option Value) (fa : Addr) (h : Heap), (K w.params).In h → h.Ns mainGlobals mg → mg d.name = some (.ref fa) →
      ∃ fd : FuncData, (∀ (s : Shared) (u : Value), BindsTo s fd ⟨[u], []⟩ [(x, u)]) ∧
        ∀ base : Heap, (K w.params).In base → base.Ns mainGlobals mg → FnOk l.prog w (K w.params) mg base (CX w) k fa fd [x] (sp w))
    (hsp : ∀ (w : World) (H : Hp) (a : Addr) (ns : List Int), ns.length ≤ n → Only H → SqL (K w.params) H a (ns.map V.int) → sp w [.ref a] H (fun v _ => v = .bl true) fun _ _ _ => False)
    (hCX : ∀ (w : World) (H : Hp) (s : Shared) (e : Value) (s' : Shared), CX w [] H s (fun _ _ _ => False) e s' → False) :
    PySem.W.WalkO q loose XP YP l.row.toRowW d [] (fun f vs => PySem.call f vs) := by
  refine Att.attach_call hn hdf fun w s₀ s₁ mg mb fa o pm cd doc a vs ns G Y ho hd hcd hmg hobj hints hlen hg => ?_
  have KX := hY w _ Y
  obtain ⟨fd, hb, hF⟩ := F w mg fa _ KX G.T.g hmg
  exact law_call KX G.T.g G.T.b G.T.builtins G.T.nolimit hg hobj hints (Nat.le_trans hlen hn2) hr hF hb (fun H hO hS => hsp w H a ns hlen hO hS) fun H e s' => hCX w H s₁ e s'
end L2
namespace L2
open PySem PySem.Spec PyProof.Rows
def inClass (s : Stmt) (j : Nat) : Stmt := match s with
  | .ClassDef _ _ _ body _ _ _ _ _ _ _ => body.getD j (.Pass ⟨0, 0, 0, 0⟩)
  | _ => .Pass ⟨0, 0, 0, 0⟩
def defArgs (s : Stmt) : Arguments := match s with
  | .FunctionDef _ a _ _ _ _ _ _ _ _ => a
  | _ => { posonlyargs := [], args := [], vararg := none, kwonlyargs := [], kw_defaults := [], kwarg := none, defaults := [] }
def defBody (s : Stmt) : List Stmt := match s with
  | .FunctionDef _ _ b _ _ _ _ _ _ _ => b
  | _ => []
def defScope (s : Stmt) : Scope := match s with
  | .FunctionDef _ _ _ _ _ _ sc _ _ _ => sc
  | _ => { kind := .function, names := [], isGenerator := false, isCoroutine := false }
abbrev CX0 : CXT := fun _ _ _ _ _ _ => False
abbrev E0 : XK := fun _ _ _ => False
theorem pass0 {X : Cx} : Passes CX0 X E0 := fun _ _ _ _ _ _ _ h => h.elim
structure Fun (K : PySem.W.Frag) (x qual : Str) (st : Stmt) (f : Addr) (fd : FuncData) : Prop where
  ex : ∃ (oc : Value) (od : Option Addr) (kV doc pm : Value) (an : Option Addr) (cdv ct : Value) (osl : Array (Option Value)),
    fd = PySem.W.fnOf x qual (defArgs st) (defBody st) (defScope st) .none kV doc pm an cdv ct ∧ K.lookup f = some ⟨oc, od, .func fd, osl⟩ ∧ PySem.W.codeIn K cdv qual = true
  kp : PySem.W.keepIn K (.ref f) = true
section
variable {P : Program} {w : World} {K : PySem.W.Frag} {mg : Str → Option Value} {base : Heap}
theorem Fun.ok {x qual : Str} {st : Stmt} {f : Addr} {fd : FuncData} {N ps : List Str} {k : Nat} {sp : Sp} (F : Fun K x qual st f fd) (S : FnScope N ps (defScope st)) (len : ∀ vs H Q E, sp vs H Q E → vs.length = ps.length)
    (hbody : ∀ (cdv : Value) (A : Around) (outer : List Env) (s : Shared) (H : Hp) (vs : List V) (Q : VK) (E : XK), Room k (A.deeper (envOfC qual (defScope st) s.heap.objs.size f cdv)) → sp vs H Q E →
      ∃ t, PSs (cxOf CX0 P w K mg base N qual (defScope st) f cdv A outer s H E).nox (defBody st) t ∧ t { nx := fun _ H' => Q .non H', rt := Q } (start N vs) H) : FnOk P w K mg base CX0 (k + 1) f fd ps sp := by
  obtain ⟨oc, od, kV, doc, pm, an, cdv, ct, osl, rfl, lk, hcd⟩ := F.ex
  refine fn_of lk hcd S len fun A outer s H vs Q E hr hsp => ?_
  obtain ⟨t, h, q⟩ := hbody cdv A outer s H vs Q E hr hsp
  exact ⟨t, h.nox, q⟩
theorem Fun.binds {x qual : Str} {st : Stmt} {f : Addr} {fd : FuncData} {ps : List Str} (F : Fun K x qual st f fd)
    (h : ∀ (kV doc pm : Value) (an : Option Addr) (cdv ct : Value) (us : List Value), us.length = ps.length → bindArgs (PySem.W.fnOf x qual (defArgs st) (defBody st) (defScope st) .none kV doc pm an cdv ct) ⟨us, []⟩ = pure (ps.zip us)) : Binds K fd ps [] := by
  obtain ⟨oc, od, kV, doc, pm, an, cdv, ct, osl, rfl, lk, hcd⟩ := F.ex
  exact .all (h kV doc pm an cdv ct)
theorem fun_mk {x qual : Str} {st : Stmt} {f : Addr} {oc : Value} {od an : Option Addr} {osl : Array (Option Value)} {kV doc pm cdv ct : Value} (l : K.lookup f = some ⟨oc, od, .func (PySem.W.fnOf x qual (defArgs st) (defBody st) (defScope st) .none kV doc pm an cdv ct), osl⟩)
    (c : PySem.W.codeIn K cdv qual = true) (k : PySem.W.keepIn K (.ref f) = true) : Fun K x qual st f (PySem.W.fnOf x qual (defArgs st) (defBody st) (defScope st) .none kV doc pm an cdv ct) := ⟨⟨oc, od, kV, doc, pm, an, cdv, ct, osl, rfl, l, c⟩, k⟩
end
theorem hu_of {A : Around} {k : Nat} (hr : Room k A) : A.units + 1 < cLine := Nat.lt_of_le_of_lt (Nat.add_le_add_left (by decide : 1 ≤ 64) _) hr.units
theorem small1000 {n : Nat} (h : n ≤ 1000) : n < sizeLine := Nat.lt_of_le_of_lt h (by decide)
section
variable {X : Cx}
theorem pv (i : Nat) {x : Str} {pos : Pos} (hN : X.N[i]? = some x := by rfl) (hv : Vis X.env.scope x := by first | exact Or.inl rfl | exact Or.inr (Or.inl rfl) | exact Or.inr (Or.inr rfl)) (hd : (x == ("__debug__" : Str)) = false := by decide)
    (hcd : (x == ("__classdict__" : Str)) = false := by decide) : PE X (.Name x pos) (tVar i) := pe_var hN hv hd hcd
end
theorem iteF {A B : Prop} (h : B) : if false = true then A else B := by
  rw [if_neg Bool.false_ne_true]
  exact h
theorem iteT {A B : Prop} (h : A) : if true = true then A else B := by
  rw [if_pos rfl]
  exact h
theorem ite2 {c A B : Prop} [Decidable c] (h1 : c → A) (h2 : ¬ c → B) : if c then A else B := by
  by_cases h : c
  · rw [if_pos h]
    exact h1 h
  · rw [if_neg h]
    exact h2 h
def Same (H H' : Hp) : Prop := ∀ b o, H b = some o → H' b = some o
theorem Same.refl (H : Hp) : Same H H := fun _ _ h => h
theorem Same.trans {H H1 H2 : Hp} (a : Same H H1) (b : Same H1 H2) : Same H H2 := fun c o h => b c o (a c o h)
theorem Same.free {H H' : Hp} (e : Same H H') {l : Addr} (h : H' l = Option.none) : H l = Option.none := by
  cases q : H l with
  | none => rfl
  | some o =>
    rw [e l o q] at h
    cases h
theorem Same.seq {K : PySem.W.Frag} {H H' : Hp} {a : Addr} {xs : List V} (e : Same H H') (h : SqL K H a xs) : SqL K H' a xs := by
  rcases h with (h | ⟨o, h⟩) | h
  · exact .inl (.inl (e _ _ h))
  · exact .inl (.inr ⟨o, e _ _ h⟩)
  · exact .inr h
section
variable {κ : Type} [DecidableEq κ]
end
end L2
namespace GX
open PySem
theorem forIn_fold {α β : Type} {f : α → β → Sem (ForInStep β)} (g : α → β → β) : ∀ (l : List α) (b : β), (∀ x ∈ l, ∀ b, f x b = pure (.yield (g x b))) →
    forIn l b f = pure (l.foldl (fun b x => g x b) b)
  | [], b, _ => rfl
  | x :: l, b, h => by
    simp only [List.forIn_cons, h x (.head _), pure_bind]
    exact forIn_fold g l (g x b) fun y hy => h y (List.mem_cons_of_mem _ hy)
def closeF (env : Env) (x : Str × NameKind) (cs : List (Str × Addr)) : List (Str × Addr) := if x.2 == .free then (x.1, (env.cells.lookup x.1).getD 0) :: cs else cs
theorem closure_eq {env : Env} {sc : Scope} (h : ∀ y ∈ sc.names, y.2 = .free → ∃ c, env.cells.lookup y.1 = some c) :
    closureFor sc env = pure (sc.names.foldl (fun b x => closeF env x b) []) := by
  simp only [closureFor]
  rw [forIn_fold (closeF env) sc.names [] (fun x hx b => by
    obtain ⟨n, k⟩ := x
    unfold closeF
    by_cases hk : k = .free
    · subst hk
      obtain ⟨c, hc⟩ := h _ hx rfl
      have e : cellOf env n = pure c := by unfold cellOf; rw [hc]
      simp [e, hc]
    · have hb : (k == NameKind.free) = false := by simpa using hk
      simp only [hb, Bool.false_eq_true, if_false])]
  rfl
theorem closeF_sub {env : Env} : ∀ (l : List (Str × NameKind)) (acc : List (Str × Addr)), (∀ y ∈ l, y.2 = .free → ∃ c, env.cells.lookup y.1 = some c) → (∀ p ∈ acc, env.cells.lookup p.1 = some p.2) →
    ∀ p ∈ l.foldl (fun b x => closeF env x b) acc, env.cells.lookup p.1 = some p.2
  | [], acc, _, ha => ha
  | x :: l, acc, h, ha => by
    refine closeF_sub l _ (fun y hy => h y (List.mem_cons_of_mem _ hy)) fun p hp => ?_
    unfold closeF at hp
    dsimp only at hp
    by_cases hk : x.2 = .free
    · obtain ⟨c, hc⟩ := h x List.mem_cons_self hk
      rw [hk] at hp
      simp only [beq_self_eq_true, if_true] at hp
      rcases List.mem_cons.mp hp with rfl | hp
      · rw [hc]; rfl
      · exact ha p hp
    · have hb : (x.2 == NameKind.free) = false := by simpa using hk
      simp only [hb, Bool.false_eq_true, if_false] at hp
      exact ha p hp
theorem closeF_has {env : Env} {n : Str} : ∀ (l : List (Str × NameKind)) (acc : List (Str × Addr)), ((∃ c, (n, c) ∈ acc) ∨ (n, NameKind.free) ∈ l) → ∃ c, (n, c) ∈ l.foldl (fun b x => closeF env x b) acc
  | [], acc, h => by
    rcases h with h | h
    · exact h
    · cases h
  | x :: l, acc, h => by
    refine closeF_has l _ ?_
    unfold closeF
    dsimp only
    rcases h with ⟨c, h⟩ | h
    · refine .inl ⟨c, ?_⟩
      split
      · exact List.mem_cons_of_mem _ h
      · exact h
    · rcases List.mem_cons.mp h with h | h
      · refine .inl ?_
        subst h
        exact ⟨_, by rw [if_pos (by rfl)]; exact .head _⟩
      · exact .inr h
theorem lookup_of_mem {n : Str} {c : Addr} : ∀ {l : List (Str × Addr)}, (n, c) ∈ l → ∃ c', l.lookup n = some c'
  | [], h => by cases h
  | (m, d) :: l, h => by
    rw [List.lookup_cons]
    cases e : n == m with
    | true => exact ⟨d, rfl⟩
    | false =>
      rcases List.mem_cons.mp h with h | h
      · cases h
        simp at e
      · exact lookup_of_mem h
theorem mem_lk {n : Str} {c : Addr} : ∀ {l : List (Str × Addr)}, l.lookup n = some c → (n, c) ∈ l
  | [], h => by cases h
  | (m, d) :: l, h => by
    rw [List.lookup_cons] at h
    cases e : n == m with
    | true =>
      rw [e] at h
      have e' : n = m := by simpa using e
      have h' : d = c := Option.some.inj h
      rw [e', h']
      exact List.mem_cons_self
    | false =>
      rw [e] at h
      exact List.mem_cons_of_mem _ (mem_lk h)
theorem closure_ok {env : Env} {sc : Scope} (h : ∀ y ∈ sc.names, y.2 = .free → ∃ c, env.cells.lookup y.1 = some c) :
    ∃ cl, closureFor sc env = pure cl ∧ (∀ x c, cl.lookup x = some c → env.cells.lookup x = some c) ∧ (∀ n, (n, NameKind.free) ∈ sc.names → ∃ c, cl.lookup n = some c) := by
  refine ⟨_, closure_eq h, fun x c e => ?_, fun n hn => ?_⟩
  · exact closeF_sub sc.names [] h (fun p hp => by cases hp) (x, c) (mem_lk e)
  · obtain ⟨c, hc⟩ := closeF_has (env := env) sc.names [] (.inr hn)
    exact lookup_of_mem hc
theorem lookup_relabel {env : Env} {x : Str} {names : List (Str × NameKind)} :
    (names.map fun (n, k) => if (k == NameKind.free && env.scope.kind == .function && env.kindOf n == some .cell) then (n, NameKind.cell) else (n, k)).lookup x
      = (names.lookup x).map fun k => if (k == NameKind.free && env.scope.kind == .function && env.kindOf x == some .cell) then NameKind.cell else k := by
  induction names with
  | nil => rfl
  | cons p r ih =>
    obtain ⟨n, k⟩ := p
    rw [List.map_cons]
    by_cases e : x = n
    · subst e
      dsimp only
      split <;> simp_all
    · have e' : (x == n) = false := by simpa using e
      dsimp only
      split <;> simp only [List.lookup_cons, e'] <;> exact ih
def oneTurn (elt target : Expr) (ifs : List Expr) (it acc : Value) (env : Env) : Sem Bool := do
  match ← pyNext it with
  | none => pure false
  | some v =>
    letOwnedTupleGo target it v
    assign target env v
    let ok ← forIn ifs true fun c r => if r = true then do let ok ← isTrue c env (eval c env); pure (ForInStep.yield ok) else pure (ForInStep.yield r)
    if ok = true then do
      let x ← eval elt env
      let _ ← call (.builtin "list.append") [acc, x]
      pure true
    else pure true
theorem turn_is (elt target iter : Expr) (ifs : List Expr) (scope : Scope) (pos : Pos) (it acc : Value) (env : Env) :
    compTurn (.ListComp elt [⟨target, iter, ifs, 0⟩] scope pos) 0 it acc env = (do
      standAt iter.pos
      let more ← oneTurn elt target ifs it acc env
      if more = true then again (.compLoop (.ListComp elt [⟨target, iter, ifs, 0⟩] scope pos) 0 it acc env) else pure (.done .next)) := by
  rw [compTurn_list, oneTurn]
  simp only [bind_assoc]
  congr 1
  funext _
  congr 1
  funext r
  cases r with
  | none => simp
  | some v =>
    simp only [bind_assoc]
    congr 1
    funext _
    congr 1
    funext _
    congr 1
    funext ok
    cases ok <;> simp
theorem compLoop_go {prog : Program} {w : World} {A : Around} {R : Result → Shared → Prop} {s : Shared} {elt target iter : Expr} {ifs : List Expr} {scope : Scope} {pos : Pos} {it acc : Value} {env : Env} (I : Nat → Shared → Prop)
    (turn : ∀ n s, I n s → wpAny (model prog w) A (oneTurn elt target ifs it acc env) (fun more s' => if more = true then ∃ m, m < n ∧ I m s' else R (.ok .next) s') (fun _ _ => False) s) (n : Nat) (h : I n s) :
    codeAny (model prog w) A (.compLoop (.ListComp elt [⟨target, iter, ifs, 0⟩] scope pos) 0 it acc env) R s := by
  apply codeAny_loop rfl I _ n h
  intro n s hI
  apply wpAny_noted
  rw [turn_is]
  change wpAny _ A _ _ _ _
  apply wpAny_bind
  apply wpAny_standAt
  apply wpAny_bind
  refine wpAny_mono (turn n s hI) (fun more s' q => ?_) fun _ _ z => z.elim
  cases more
  · exact wpAny_pure q
  · exact wpAny_pure ⟨rfl, q⟩
end GX
set_option Elab.async false
set_option linter.all false
set_option maxRecDepth 100000
namespace GX
open PySem PySem.Spec PyProof.Rows
def kept : Option (Value × Value) → Array Value
  | none => #[]
  | some (x, k) => #[x, k]
abbrev lstO (a : Array Value) (c : Nat) : Obj := { cls := .type "list", dict := none, data := .seq a c, slots := #[] }
abbrev put (S : Addr) (a : Array Value) (s : Shared) : Shared := { s with heap := s.heap.update S (Obj.mapSeq fun _ => a) }
def KeyOf (prog : Program) (w : World) (A : Around) (key v : Value) (Q : Value → Shared → Prop) (s : Shared) : Prop :=
  match key with
  | .none => Q v s
  | f => wpAny (model prog w) A.in1 (call f [v]) Q (fun _ _ => False) s
def After (prog : Program) (w : World) (op : CmpOp) (lp : String) (I S : Addr) (key : Value) (kw : List (Str × Value)) (b : Option (Value × Value)) (A : Around) (R : Result → Shared → Prop) : Option Value → Shared → Prop
  | none, s => (∃ c, s.heap.get? S = some (lstO (kept b) c)) ∧ match b with
    | some (x, _) => R (.ok (.ret x)) (put S #[] s)
    | none => ∃ n d r, kw = (n, d) :: r ∧ R (.ok (.ret d)) s
  | some v, s => KeyOf prog w A key v (fun k s => (∃ c, s.heap.get? S = some (lstO (kept b) c)) ∧ match b with
    | none => codeAny (model prog w) A (.builtin lp ⟨[.ref I, key, .ref S], kw⟩) R (put S #[v, k] s)
    | some (_, k') => wpAny (model prog w) A.in1 (richCompare op k k') (fun a s => ∃ y c, a = .bool y ∧ s.heap.get? S = some (lstO (kept b) c) ∧ codeAny (model prog w) A (.builtin lp ⟨[.ref I, key, .ref S], kw⟩) R (if y then put S #[v, k] s else s)) (fun _ _ => False) s) s
abbrev Turn (prog : Program) (w : World) (op : CmpOp) (lp : String) (B : Builtin) : Prop := ∀ (I S : Addr) (key : Value) (kw : List (Str × Value)) (b : Option (Value × Value)) (c : Nat),
  MeetsIn prog w (B ⟨[.ref I, key, .ref S], kw⟩) fun A R s => s.heap.get? S = some (lstO (kept b) c) ∧ wpAny (model prog w) A.in1 (pyNext (.ref I)) (After prog w op lp I S key kw b A R) (fun _ _ => False) s
section
variable {prog : Program} {w : World}
theorem enter {id : String} {B : Builtin} {args : Args} {Sp : PySem.Spec} {A : Around} {R : Result → Shared → Prop} {s : Shared} (he : entryFor table id = some B) (hp : plainId id = true) (m : MeetsIn prog w (B args) Sp) (h : Sp A R s) :
    codeAny (model prog w) A (.builtin id args) R s := codeAny_builtin he (by rw [Around.under_plainId hp]; exact m A R s h)
structure Best (prog : Program) (w : World) (A : Around) (key : Value) (op : CmpOp) (l I S : Addr) (vs : List Value) (bt : Nat → Nat → Bool) (G : List (Nat × Value) → Shared → Prop) : Prop where
  irr : ∀ i, bt i i = false
  asy : ∀ i j, bt i j = true → bt j i = false
  cov : ∀ a b c, bt a b = true → bt c b = false → bt a c = true
  tail : ∀ p q L s, G (p :: q :: L) s → G (q :: L) s
  head : ∀ p L s, G (p :: L) s → G [p] s
  calm : ∀ x L s h tk, x = I ∨ x = S → G L s → (∀ b o, b ≠ x → s.heap.get? b = some o → h.get? b = some o) → G L { s with heap := h, toks := tk }
  list : ∀ L s, G L s → s.heap.IsList l vs.toArray
  keys : ∀ L s j v a c m, G L s → vs[j]? = some v → s.heap.get? S = some (lstO a c) → s.heap.IsListIter I l m → KeyOf prog w A key v (fun k s => G ((j, k) :: L) s ∧ s.heap.get? S = some (lstO a c) ∧ s.heap.IsListIter I l m) s
  cmp : ∀ i j k k' s, G [(j, k), (i, k')] s → wpAny (model prog w) A.in1 (richCompare op k k') (fun a s' => a = .bool (bt j i) ∧ s' = s) (fun _ _ => False) s
variable {A : Around} {key : Value} {op : CmpOp} {lp : String} {B : Builtin} {l I S : Addr} {vs : List Value} {bt : Nat → Nat → Bool} {G : List (Nat × Value) → Shared → Prop} {R : Result → Shared → Prop} {kw : List (Str × Value)}
theorem Best.put (M : Best prog w A key op l I S vs bt G) {L : List (Nat × Value)} {s : Shared} {a b : Array Value} {c m : Nat} (SI : S ≠ I) (g : G L s) (hS : s.heap.get? S = some (lstO a c)) (hI : s.heap.IsListIter I l m) :
    G L (put S b s) ∧ (∃ c, (put S b s).heap.get? S = some (lstO b c)) ∧ (put S b s).heap.IsListIter I l m :=
  ⟨M.calm S L s _ s.toks (.inr rfl) g fun x o n e => (Heap.get?_update_other _ _ (Ne.symm n)).trans e, ⟨_, Heap.get?_update_self _ hS rfl⟩, hI.at fun o e => (Heap.get?_update_other _ _ SI).trans e⟩
abbrev Grown (h h' : Heap) : Prop := ∀ b o, h.get? b = some o → h'.get? b = some o
end
end GX
namespace GX
open PySem
theorem filterMap_all {α β : Type} (f : α → Option β) (g : α → β) : ∀ (l : List α), (∀ x ∈ l, f x = some (g x)) → l.filterMap f = l.map g
  | [], _ => rfl
  | x :: l, h => by
    rw [List.filterMap_cons, h x List.mem_cons_self, List.map_cons]
    exact congrArg _ (filterMap_all f g l fun y hy => h y (List.mem_cons_of_mem _ hy))
theorem pick_rev (its : List Value) : slicePick its.toArray none none (some (-1)) = its.reverse.toArray := by
  unfold slicePick
  have e : sliceBounds none none (some (-1)) its.toArray.size = ((its.length : Int) - 1, -1, -1) := by
    unfold sliceBounds
    simp
  rw [e]
  have r : sliceRange ((its.length : Int) - 1) (-1) (-1) = (List.range its.length).map fun k => its.length - 1 - k := by
    unfold sliceRange
    by_cases z : its.length = 0
    · rw [z]; rfl
    · have c : (if ((-1 : Int) > 0) then (if (its.length : Int) - 1 < -1 then (-1 - ((its.length : Int) - 1) + -1 - 1) / -1 else 0) else (if (its.length : Int) - 1 > -1 then ((its.length : Int) - 1 - -1 - -1 - 1) / (- -1) else 0)) = (its.length : Int) := by
        rw [if_neg (by decide), if_pos (by omega)]
        have : (- -1 : Int) = 1 := by decide
        rw [this, Int.ediv_one]
        omega
      simp only [c, Int.toNat_natCast]
      apply List.map_congr_left
      intro k hk
      have := List.mem_range.mp hk
      omega
  rw [r]
  congr 1
  rw [filterMap_all _ (fun j => its.getD j .none) _ (fun j hj => ?_)]
  · apply List.ext_getElem?
    intro i
    rw [List.getElem?_map, List.getElem?_map]
    by_cases hi : i < its.length
    · rw [List.getElem?_eq_getElem (by rw [List.length_range]; exact hi), List.getElem_range, List.getElem?_reverse hi]
      show some (its.getD (its.length - 1 - i) .none) = _
      rw [List.getD_eq_getElem?_getD, List.getElem?_eq_getElem (by omega)]
      rfl
    · rw [List.getElem?_eq_none (by rw [List.length_range]; omega), List.getElem?_eq_none (by rw [List.length_reverse]; omega)]
      rfl
  · obtain ⟨k, hk, e⟩ := List.mem_map.mp hj
    have hk := List.mem_range.mp hk
    have hl : j < its.length := by omega
    rw [List.getD_eq_getElem?_getD]
    simp [hl]
end GX
namespace GB
theorem and_pow (n h : Nat) : (n &&& 2 ^ h = 0) ↔ n.testBit h = false := by
  constructor
  · intro e
    have q : (n &&& 2 ^ h).testBit h = false := by rw [e]; exact Nat.zero_testBit h
    rw [Nat.testBit_and, Nat.testBit_two_pow_self, Bool.and_true] at q
    exact q
  · intro e
    apply Nat.eq_of_testBit_eq
    intro i
    rw [Nat.testBit_and, Nat.zero_testBit, Nat.testBit_two_pow]
    by_cases hi : h = i
    · subst hi; rw [e]; rfl
    · rw [decide_eq_false hi, Bool.and_false]
def hnds (n : Nat) : List Nat := (List.range 63).filter fun h => n.testBit h
theorem bit_high {n b h : Nat} (hn : n < 2 ^ b) (hb : b ≤ h) : n.testBit h = false :=
  Nat.testBit_lt_two_pow (Nat.lt_of_lt_of_le hn (Nat.pow_le_pow_right (by decide) hb))
theorem filter_range {p : Nat → Bool} {b c : Nat} (hb : b ≤ c) (hp : ∀ h, b ≤ h → p h = false) : (List.range c).filter p = (List.range b).filter p := by
  induction c with
  | zero =>
    have : b = 0 := by omega
    subst this; rfl
  | succ c ih =>
    by_cases e : b = c + 1
    · subst e; rfl
    · rw [List.range_succ, List.filter_append, ih (by omega)]
      have : [c].filter p = [] := by
        rw [List.filter_cons, hp c (by omega)]
        rfl
      rw [this, List.append_nil]
theorem hnds_eq {n b : Nat} (hb : b ≤ 63) (hn : n < 2 ^ b) : (List.range b).filter (fun h => n.testBit h) = hnds n :=
  (filter_range hb fun _ hh => bit_high hn hh).symm
theorem mem_hnds {n h : Nat} : h ∈ hnds n ↔ h < 63 ∧ n.testBit h = true := by
  unfold hnds
  rw [List.mem_filter, List.mem_range]
theorem hnds_len (n : Nat) : (hnds n).length ≤ 63 := by
  have := List.length_filter_le (fun h => n.testBit h) (List.range 63)
  rw [List.length_range] at this
  exact this
theorem hnds_sorted (n : Nat) : (hnds n).Pairwise (· < ·) := List.Pairwise.filter _ List.pairwise_lt_range
def hl (n : Int) : List Int := (hnds n.toNat).map (fun (h : Nat) => (h : Int))
theorem hl_len (n : Int) : (hl n).length ≤ 63 := by
  unfold hl
  rw [List.length_map]
  exact hnds_len _
theorem hl_mem {n : Int} {h : Nat} : (h : Int) ∈ hl n ↔ h < 63 ∧ n.toNat.testBit h = true := by
  unfold hl
  rw [List.mem_map]
  constructor
  · rintro ⟨a, ha, e⟩
    have : a = h := by omega
    subst this
    exact mem_hnds.mp ha
  · intro q
    exact ⟨h, mem_hnds.mpr q, rfl⟩
end GB
namespace GB
def setN (l : List Nat) : Nat := l.foldl (fun a h => a ||| 2 ^ h) 0
theorem fold_bit (h : Nat) : ∀ (l : List Nat) (a : Nat), (l.foldl (fun a h => a ||| 2 ^ h) a).testBit h = (a.testBit h || decide (h ∈ l))
  | [], a => by simp
  | x :: l, a => by
    rw [List.foldl_cons, fold_bit h l, Nat.testBit_or, Nat.testBit_two_pow, Bool.or_assoc]
    congr 1
    rw [Bool.eq_iff_iff]
    simp only [Bool.or_eq_true, decide_eq_true_iff, List.mem_cons]
    constructor
    · rintro (e | e)
      · exact .inl e.symm
      · exact .inr e
    · rintro (e | e)
      · exact .inl e.symm
      · exact .inr e
theorem setN_bit (l : List Nat) (h : Nat) : (setN l).testBit h = decide (h ∈ l) := by
  unfold setN
  rw [fold_bit, Nat.zero_testBit, Bool.false_or]
theorem setN_lt {l : List Nat} {b : Nat} (h : ∀ x ∈ l, x < b) : setN l < 2 ^ b := by
  apply Nat.lt_pow_two_of_testBit
  intro i hi
  rw [setN_bit]
  exact decide_eq_false fun z => by have := h i z; omega
end GB
namespace L2
open PySem PySem.Spec PyProof.Rows
def capOk (N : List Str) (sc : Scope) (x : Str) : Option Nat → Bool
  | none => true
  | some j => decide (N[j]? = some x) && decide (sc.names.lookup x = some .free)
def BlkP (N N' : List Str) (src : List (Option Nat)) (esc sc : Scope) : Prop :=
  (∀ y ∈ sc.names, y.2 ≠ .cell) ∧ (∀ y ∈ sc.names, y.2 = .local → sc.names.lookup y.1 = some .local) ∧
  (∀ y ∈ sc.names, y.2 = .free → esc.names.lookup y.1 = some .cell ∨ esc.names.lookup y.1 = some .free) ∧
  N'.Nodup ∧ src.length = N'.length ∧ ∀ p ∈ N'.zip src, capOk N sc p.1 p.2 = true
instance (N N' : List Str) (src : List (Option Nat)) (esc sc : Scope) : Decidable (BlkP N N' src esc sc) := by unfold BlkP; infer_instance
def blkSt (src : List (Option Nat)) (σ : St) : St := src.map fun o => o.bind fun j => (σ[j]?).bind fun v => v
def Cx.blk (X : Cx) (N' : List Str) (sc : Scope) (cl : List (Str × Addr)) (C : Addr) (s2 : Shared) (H2 : Hp) (fp : List Addr) : Cx :=
  { X with N := N', s₀ := s2, H₀ := H2, env := compEnvC sc cl C X.env, outer := X.stack, ex := fp, fn := fun _ => false, pn := [], xe := fun _ _ => False }
def PIf (X : Cx) (ifs : List Expr) (t : TT) : Prop :=
  ∀ (pins : List (Addr × Obj)) (s : Shared) (σ : St) (H : Hp) (Q : Bool → Hp → Prop), Inv X pins σ H s → t σ H Q →
    wpAny (model X.prog X.w) X.A (forIn ifs true fun c r => if r = true then do let ok ← isTrue c X.env (eval c X.env); pure (ForInStep.yield ok) else pure (ForInStep.yield r)) (TP X pins σ Q) X.xe s
def tYes : TT := fun _ H Q => Q true H
theorem pif_nil {X : Cx} : PIf X [] tYes := fun _ _ _ H _ I h => wpAny_tests_nil ⟨H, I, h⟩
theorem pif_one {X : Cx} {c : Expr} {t : TT} (h : PT X c t) : PIf X [c] t := fun pins s σ H Q I hw => wpAny_tests_one (h pins s σ H Q I hw)
theorem Un.but {fs ex : List Addr} {H H' : Hp} {h h1 h2 : Heap} {C : Addr} (u : Un fs ex H H' h h1) (sb : Heap.SameBut C h1 h2) (hC : h.get? C = none) : Un fs ex H H' h h2 :=
  have ne : ∀ b o, h.get? b = some o → b ≠ C := fun b o e z => by rw [z, hC] at e; cases e
  ⟨fun b o e n hb hx => (sb.2 b (ne b o e)).trans (u.keep b o e n hb hx), fun b o e n hb hx => let ⟨sl, z⟩ := u.slot b o e n hb hx; ⟨sl, (sb.2 b (ne b o e)).trans z⟩, u.free,
    fun b o e hx => let ⟨o', z⟩ := u.there b o e hx; ⟨o', (sb.2 b (ne b o e)).trans z⟩, u.tups, u.frzs, u.tbls⟩
theorem HOk.but {P : Program} {w : World} {H : Hp} {h h' : Heap} {C : Addr} (x : HOk P w H h) (sb : Heap.SameBut C h h') (hC : H C = none) : HOk P w H h' := fun b ob e => by
  refine (x b ob e).stay (fun c v hc q => (sb.2 c ?_).trans q) (fun _ q => q) fun _ _ q => q
  rintro rfl
  rcases hc with rfl | hc
  · rw [hC] at e; cases e
  · rw [hC] at hc; cases hc
def cTurn (g : TG) (tt : TT) (te : TE) (D : Addr) (N : St → Hp → Prop) (x : V) (σ : St) (H : Hp) : Prop :=
  g x σ H fun σ2 H2 => tt σ2 H2 fun b H3 => if b = true then te σ2 H3 fun y H4 => ∃ ys, H4 D = some (.lst ys) ∧ ys.length < sizeLine ∧ N σ2 (upd H4 D (.lst (ys ++ [y]))) else N σ2 H3
def tComp (src : List (Option Nat)) (wi : TI) (g : TG) (tt : TT) (te : TE) : TE := fun σ H Q => wi σ H fun J H1 => ∀ D, H1 D = none → ∃ W : Nat → Nat → St → Hp → Prop, (∃ m, W 0 m (blkSt src σ) (upd H1 D (.lst []))) ∧
  ∀ i m σ' H', W i m σ' H' → (J.stop i H' ∧ Q (.ref D) H') ∨ (J.go i H' ∧ ∃ N : St → Hp → Prop, (∀ σ2 H2, N σ2 H2 → ∃ m', m' < m ∧ W (i + 1) m' σ2 H2) ∧
    ∀ x H'', J.yld i H' x H'' → cTurn g tt te D N x σ' H'')
theorem comp_core {X : Cx} {elt tg iter : Expr} {ifs : List Expr} {sc : Scope} {pos : Pos} {g : TG} {tt : TT} {te : TE} {N' : List Str} {src : List (Option Nat)} {cl : List (Str × Addr)} {pins : List (Addr × Obj)} {σ : St} {H2 : Hp} {s2 : Shared} {it : Addr} {fp : List Addr}
    {tn : Nat → Heap → Prop} {J : It} {W : Nat → Nat → St → Hp → Prop} {m0 : Nat} {Qe : Hp → Prop} {RR : Value → Addr → Result → Shared → Prop}
    (hc : X.calm = true) (hk : sc.kind = .function) (hB : BlkP X.N N' src X.env.scope sc) (hsub : ∀ x c, cl.lookup x = some c → X.env.cells.lookup x = some c) (hhas : ∀ n, (n, NameKind.free) ∈ sc.names → ∃ c, cl.lookup n = some c)
    (hg : ∀ cl C s2 H2 fp, N'.Nodup → PG (X.blk N' sc cl C s2 H2 fp) tg g)
    (ht : ∀ cl C s2 H2 fp, PIf (X.blk N' sc cl C s2 H2 fp) ifs tt)
    (he : ∀ cl C s2 H2 fp, PE (X.blk N' sc cl C s2 H2 fp) elt te)
    (I2 : Inv X pins σ H2 s2) (T : Turn X.prog X.w X.K tg J fp it tn) (st2 : tn 0 s2.heap) (f2 : ∀ b ∈ fp, FpOk X pins H2 b)
    (w0 : W 0 m0 (blkSt src σ) (upd H2 s2.heap.objs.size (.lst [])))
    (turn : ∀ i m σ' H', W i m σ' H' → (J.stop i H' ∧ Qe H') ∨ (J.go i H' ∧ ∃ N : St → Hp → Prop, (∀ σ2 H2, N σ2 H2 → ∃ m', m' < m ∧ W (i + 1) m' σ2 H2) ∧
      ∀ x H'', J.yld i H' x H'' → cTurn g tt te s2.heap.objs.size N x σ' H''))
    (fin : ∀ C s4 σ3 H3, s2.heap.objs.size ≤ C → Inv (X.blk N' sc cl C s2 H2 fp) [] σ3 H3 s4 → Qe H3 → RR (.ref s2.heap.objs.size) C (.ok .next) s4) :
    wpAny (model X.prog X.w) X.A (newList []) (fun acc s₃ => wpAny (model X.prog X.w) X.A (newFunctionEnv sc X.env.globals cl [] X.env.qual none .none (some X.env)) (fun cenv s₄ =>
      codeAny (model X.prog X.w) X.A (.compStart (.ListComp elt [⟨tg, iter, ifs, 0⟩] sc pos) 0 (.ref it) acc { cenv with scope := relabel sc X.env }) (RR acc cenv.locals) s₄) X.xe s₃) X.xe s2 := by
  obtain ⟨b1, b2, b3, b4, b5, b6⟩ := hB
  refine wpAny_newObj_type (wpAny_newFunctionEnv b1 (by intro y hy; simp at hy) (fun h₁ ns₁ sb₁ => ?_) hk)
  dsimp only at ns₁ sb₁ ⊢
  generalize hP : s2.heap.push { cls := .type "list", dict := none, data := .seq ([] : List Value).toArray } = Hl at ns₁ sb₁ ⊢
  have hC : Hl.objs.size = s2.heap.objs.size + 1 := by rw [← hP, Heap.size_push]
  have nDC : s2.heap.objs.size ≠ Hl.objs.size := by rw [hC]; exact Nat.ne_of_lt (Nat.lt_succ_self _)
  have below : ∀ {b : Addr} {o : Obj}, s2.heap.get? b = some o → b ≠ Hl.objs.size := fun {b o} z => by
    have := Heap.lt_size z
    rw [hC]
    exact Nat.ne_of_lt (Nat.lt_succ_of_lt this)
  have old : ∀ b o, s2.heap.get? b = some o → h₁.get? b = some o := fun b o z => sb₁.extBut b o (below z) (Heap.get?_push_of_some _ (hP ▸ Heap.get?_push_of_some _ z))
  have hD1 : h₁.get? s2.heap.objs.size = some { cls := .type "list", data := .seq ([] : List Value).toArray } := sb₁.extBut _ _ nDC (Heap.get?_push_of_some _ (hP ▸ Heap.get?_push_size _ rfl))
  have fD : H2 s2.heap.objs.size = none := I2.hok.fresh (Nat.le_refl _)
  have fC : H2 Hl.objs.size = none := I2.hok.fresh (by rw [hC]; exact Nat.le_succ _)
  have ok : (X.blk N' sc cl Hl.objs.size s2 H2 fp).Ok := by
    refine ⟨I2.ok.mod, hk, I2.ok.glob, I2.ok.blt, ?_, fun x y c h1 h2 => I2.ok.inj x y c (hsub x c h1) (hsub y c h2), fun x hx => ?_, fun x c z => ?_, I2.ok.hd, I2.ok.frames, .inl rfl, fun b hb => ⟨?_, fun x c z => (f2 b hb).2.2.2.2.1 x c (hsub x c z)⟩,
      I2.bs, Nat.le_trans I2.ok.bsz I2.sz, fun b o z hb => ?_, fun b hb z => ?_, I2.stack, I2.stkFree⟩
    · show s2.heap.objs.size ≤ Hl.objs.size
      rw [hC]; exact Nat.le_succ _
    · have hx' : (sc.names.map fun (n, k) => if (k == NameKind.free && X.env.scope.kind == .function && X.env.kindOf n == some .cell) then (n, NameKind.cell) else (n, k)).lookup x = some .cell ∨
          (sc.names.map fun (n, k) => if (k == NameKind.free && X.env.scope.kind == .function && X.env.kindOf n == some .cell) then (n, NameKind.cell) else (n, k)).lookup x = some .free := hx
      rw [GX.lookup_relabel] at hx'
      cases e : sc.names.lookup x with
      | none =>
        rw [e] at hx'
        simp at hx'
      | some k =>
        rw [e] at hx'
        by_cases hf : k = .free
        · subst hf
          exact hhas x (PySem.mem_of_lookup e)
        · have hb : (k == NameKind.free) = false := by simpa using hf
          have e2 : ((some k).map fun k => if (k == NameKind.free && X.env.scope.kind == .function && X.env.kindOf x == some .cell) then NameKind.cell else k) = some k := by
            show some (if (k == NameKind.free && X.env.scope.kind == .function && X.env.kindOf x == some .cell) = true then NameKind.cell else k) = some k
            rw [hb, Bool.false_and, Bool.false_and]
            rfl
          rw [e2] at hx'
          rcases hx' with z | z
          · exact absurd (Option.some.inj z) (b1 _ (PySem.mem_of_lookup e))
          · exact absurd (Option.some.inj z) hf
    · cases z
    · obtain ⟨o, z, _⟩ := T.obj 0 _ st2 b hb
      exact below z
    · rcases (f2 b hb).2.2.2.1 with f3 | f3
      · exact I2.ok.noex b o z f3
      · have l1 := Heap.lt_size z
        have l2 := I2.ok.bsz
        exact absurd (Nat.lt_of_lt_of_le l1 (Nat.le_trans l2 f3)) (Nat.lt_irrefl _)
    · rcases List.mem_cons.mp (I2.stkSub b z) with z | z
      · exact (f2 b hb).2.1 z
      · exact (f2 b hb).2.2.1 z
  have IY : Inv (X.blk N' sc cl Hl.objs.size s2 H2 fp) [] (blkSt src σ) (upd H2 s2.heap.objs.size (.lst [])) { s2 with heap := h₁, toks := s2.toks + ([] : List (Str × Value)).length } := by
    refine ⟨ok, rfl, I2.bare, Un.laid old (Nat.le_refl _) fD, ⟨_, ns₁, fun i x v e1 e2 _ => ?_⟩, fun x c z => ?_, ?_, fun x c z => ?_, fun p hp => ?_, I2.hok.laid old (Nat.le_refl _) ⟨Nat.zero_le _, [], 0, .nil, hD1⟩, ?_⟩
    · have e1' : N'[i]? = some x := e1
      unfold blkSt at e2
      rw [List.getElem?_map] at e2
      cases es : src[i]? with
      | none => rw [es] at e2; cases e2
      | some o =>
        rw [es] at e2
        cases o with
        | none => cases e2
        | some j =>
          have e3 : (σ[j]?).bind (fun v => v) = some v := Option.some.inj e2
          have e4 : σ[j]? = some (some v) := by
            cases q : σ[j]? with
            | none => rw [q] at e3; cases e3
            | some w => rw [q] at e3; exact congrArg some e3
          have hz : (x, some j) ∈ N'.zip src := List.mem_of_getElem? (i := i) (by rw [List.getElem?_zip_eq_some]; exact ⟨e1', es⟩)
          have hcap := b6 _ hz
          have hcap' : (decide (X.N[j]? = some x) && decide (sc.names.lookup x = some .free)) = true := hcap
          rw [Bool.and_eq_true] at hcap'
          have c1 : X.N[j]? = some x := of_decide_eq_true hcap'.1
          have c2 : sc.names.lookup x = some .free := of_decide_eq_true hcap'.2
          have hfree := PySem.mem_of_lookup c2
          have vis := b3 _ hfree rfl
          obtain ⟨m, hn, hl⟩ := I2.loc
          obtain ⟨u, ru, lk⟩ := hl j x v c1 e4 (.inr vis)
          rcases lk with ⟨k1, _⟩ | ⟨_, c, k2, z⟩
          · have k1' : X.env.scope.names.lookup x = some .local := k1
            rcases vis with v | v <;> (rw [k1'] at v; cases v)
          · obtain ⟨c', k3⟩ := hhas x hfree
            have k4 := hsub x c' k3
            rw [k2] at k4
            cases k4
            refine ⟨u, ru, .inr ⟨?_, c, k3, z.keeps old⟩⟩
            show (sc.names.map fun (n, k) => if (k == NameKind.free && X.env.scope.kind == .function && X.env.kindOf n == some .cell) then (n, NameKind.cell) else (n, k)).lookup x = some .cell ∨
              (sc.names.map fun (n, k) => if (k == NameKind.free && X.env.scope.kind == .function && X.env.kindOf n == some .cell) then (n, NameKind.cell) else (n, k)).lookup x = some .free
            rw [GX.lookup_relabel, c2]
            show some (if _ then NameKind.cell else NameKind.free) = _ ∨ some (if _ then NameKind.cell else NameKind.free) = _
            split
            · exact .inl rfl
            · exact .inr rfl
    · obtain ⟨v, q⟩ := I2.cell x c (hsub x c z)
      exact ⟨v, q.keeps old⟩
    · show upd H2 s2.heap.objs.size (.lst []) Hl.objs.size = none
      rw [upd_ne (Ne.symm nDC)]
      exact fC
    · obtain ⟨v, q⟩ := I2.cell x c (hsub x c z)
      rw [upd_ne (Nat.ne_of_lt q.lt)]
      exact I2.freeC x c (hsub x c z)
    · exact absurd (show p ∈ ([] : List (Addr × Obj)) from hp) (by simp)
    · show (src.map _).length = N'.length
      rw [List.length_map]
      exact b5
  have stat : ∀ {H' : Hp}, (∀ b ∈ fp, H' b = none) → ∀ b ∈ fp, FpOk (X.blk N' sc cl Hl.objs.size s2 H2 fp) [] H' b := fun hn b hb =>
    ⟨hn b hb, (ok.exf b hb).1, ok.exfs b hb, .inl hb, (ok.exf b hb).2, fun p hp => absurd (show p ∈ ([] : List (Addr × Obj)) from hp) (by simp)⟩
  have loop : codeAny (model X.prog X.w) X.A (.compLoop (.ListComp elt [⟨tg, iter, ifs, 0⟩] sc pos) 0 (.ref it) (.ref s2.heap.objs.size) (compEnvC sc cl Hl.objs.size X.env))
      (RR (.ref s2.heap.objs.size) Hl.objs.size) { s2 with heap := h₁, toks := s2.toks + ([] : List (Str × Value)).length } := by
    refine GX.compLoop_go (fun n s' => ∃ i σ' H', Inv (X.blk N' sc cl Hl.objs.size s2 H2 fp) [] σ' H' s' ∧ tn i s'.heap ∧ (∀ b ∈ fp, H' b = none) ∧ W i n σ' H') ?_ m0
      ⟨0, _, _, IY, T.keep 0 _ _ st2 (fun b _ o z => old b o z), fun b hb => ?_, w0⟩
    · rintro n s3 ⟨i, σ3, H3, I3, st3, fr3, w3⟩
      rcases turn i n σ3 H3 w3 with ⟨stop, qn⟩ | ⟨go, N, hN, step⟩
      · refine wpAny_bind (thn (T.done (X.blk N' sc cl Hl.objs.size s2 H2 fp) rfl rfl rfl hc i [] s3 σ3 H3 (fun _ _ => False) I3 (stat fr3) st3 stop) fun r s4 ⟨hr, I4⟩ => ?_)
        subst hr
        exact wpAny_pure <| fin _ s4 σ3 H3 (by rw [hC]; exact Nat.le_succ _) I4 qn
      · refine wpAny_bind (thn (T.item (X.blk N' sc cl Hl.objs.size s2 H2 fp) rfl rfl rfl hc i [] s3 σ3 H3 (fun _ _ => False) I3 (stat fr3) st3 go) fun r s4 ⟨u, hr, h4⟩ => ?_)
        subst hr
        refine wpAny_bind (thn h4 fun _ s5 ⟨x, H5, I5, r5, y5, st5, fr5⟩ => ?_)
        have I5' := I5.pinned (stat fr5) (T.obj _ _ st5)
        have again : ∀ {σ7 : St} {H7 : Hp} {s7 : Shared}, Inv (X.blk N' sc cl Hl.objs.size s2 H2 fp) ([] ++ pinsAt fp s5.heap) σ7 H7 s7 → N σ7 H7 →
            ∃ m, m < n ∧ ∃ i σ' H', Inv (X.blk N' sc cl Hl.objs.size s2 H2 fp) [] σ' H' s7 ∧ tn i s7.heap ∧ (∀ b ∈ fp, H' b = none) ∧ W i m σ' H' := fun {σ7 H7 s7} I7 n7 => by
          obtain ⟨m', hm, w7⟩ := hN σ7 H7 n7
          refine ⟨m', hm, i + 1, σ7, H7, I7.unpinned, T.keep _ _ _ st5 fun b hb o z => (I7.pin (b, o) (List.mem_append_right _ (List.mem_append_right _ (mem_pinsAt hb z)))).1, fun b hb => ?_, w7⟩
          obtain ⟨o, z, _⟩ := T.obj _ _ st5 b hb
          exact (I7.pin (b, o) (List.mem_append_right _ (List.mem_append_right _ (mem_pinsAt hb z)))).2.1
        refine wpAny_bind (thn (hg cl Hl.objs.size s2 H2 fp b4 _ s5 σ3 H5 x u _ I5' r5 (step x H5 y5)) fun _ s6 ⟨σ6, H6, I6, q6⟩ => ?_)
        refine wpAny_bind (thn (ht cl Hl.objs.size s2 H2 fp _ s6 σ6 H6 _ I6 q6) fun ok s7 ⟨H7, I7, q7⟩ => ?_)
        cases ok with
        | true =>
          rw [if_pos rfl] at q7 ⊢
          refine wpAny_bind (thn (he cl Hl.objs.size s2 H2 fp _ s7 σ6 H7 _ I7 q7) fun yv s8 ⟨y, H8, I8, r8, ys, hD, hz, n8⟩ => ?_)
          exact wpAny_bind <| thn (mt_append (X := X.blk N' sc cl Hl.objs.size s2 H2 fp) _ s8 σ6 H8 (.ref s2.heap.objs.size) [y] (.ref s2.heap.objs.size) [yv] (fun _ H' => N σ6 H') I8 rfl (.cons r8 .nil) ⟨_, ys, y, rfl, rfl, hD, hz, n8⟩)
            fun _ s9 ⟨_, H9, I9, _, n9⟩ => wpAny_pure (again I9 n9)
        | false =>
          rw [if_neg Bool.false_ne_true] at q7 ⊢
          exact wpAny_pure (again I7 q7)
    · obtain ⟨o, z, _⟩ := T.obj 0 _ st2 b hb
      rw [upd_ne (Nat.ne_of_lt (Heap.lt_size z))]
      exact (f2 b hb).1
  exact codeAny_compStart_list loop (T.self X.A 0 _ _ _ (T.keep 0 _ _ st2 (fun b _ o z => old b o z)) loop)
theorem pe_comp {X : Cx} {elt tg iter : Expr} {ifs : List Expr} {sc : Scope} {pos : Pos} {wi : TI} {g : TG} {tt : TT} {te : TE} (N' : List Str) (src : List (Option Nat))
    (hc : X.calm = true) (hk : sc.kind = .function) (hB : decide (BlkP X.N N' src X.env.scope sc) = true) (hi : PI X tg iter wi)
    (hg : ∀ cl C s2 H2 fp, N'.Nodup → PG (X.blk N' sc cl C s2 H2 fp) tg g)
    (ht : ∀ cl C s2 H2 fp, PIf (X.blk N' sc cl C s2 H2 fp) ifs tt)
    (he : ∀ cl C s2 H2 fp, PE (X.blk N' sc cl C s2 H2 fp) elt te)
    (hs : ∀ x, foldedSetIterable iter X.env x = pure x := by intro _; rfl) :
    PE X (.ListComp elt [⟨tg, iter, ifs, 0⟩] sc pos) (tComp src wi g tt te) := by
  intro pins s σ H Q I h
  have B := of_decide_eq_true hB
  obtain ⟨cl, hclos, hsub, hhas⟩ := GX.closure_ok (env := X.env) (sc := sc) fun y hy hf => I.ok.has y.1 (B.2.2.1 y hy hf)
  rw [eval_ListComp]
  refine wpAny_comprehension_free (use := none) rfl hs hclos hk B.2.1 (thn (hi pins s σ H _ I h) fun v s1 h1 => thn h1 fun itv s2 h2 => ?_)
  obtain ⟨it, fp, tn, J, H2, e, I2, T, st2, f2, q⟩ := h2
  subst e
  obtain ⟨W, ⟨m0, w0⟩, turn⟩ := q s2.heap.objs.size (I2.hok.fresh (Nat.le_refl _))
  refine comp_core (RR := fun acc C => compPost (model X.prog X.w) X.A X.xe none (EP X pins σ Q) acc C) (Qe := fun H' => Q (.ref s2.heap.objs.size) H') hc hk B hsub hhas hg ht he I2 T st2 f2 w0 turn fun C s4 σ3 H3 hC I4 qn => ?_
  obtain ⟨m, hn, _⟩ := I4.loc
  refine ⟨m, hn, fun h' sb => ⟨.ref s2.heap.objs.size, H3, ?_, rfl, qn⟩⟩
  exact I2.call' (s' := { s4 with heap := h' }) (ch := fp) I4.os (I4.base.but sb (Heap.get?_none_of_le hC)) (I4.hok.but sb I4.free) I4.bare fun b hb => ⟨(f2 b hb).2.2.2.1, (f2 b hb).2.1, (f2 b hb).2.2.2.2.1, (f2 b hb).2.2.2.2.2⟩
theorem ps_comp {X : Cx} {elt tg iter : Expr} {ifs : List Expr} {sc : Scope} {pos py spos : Pos} {y : Str} {i : Nat} {wi : TI} {g : TG} {tt : TT} {te : TE} (N' : List Str) (src : List (Option Nat))
    (hN : X.N.Nodup) (hy : X.N[i]? = some y) (hl : Loc X.env.scope y) (hc : X.calm = true) (hk : sc.kind = .function) (hB : decide (BlkP X.N N' src X.env.scope sc) = true) (hi : PI X tg iter wi)
    (hg : ∀ cl C s2 H2 fp, N'.Nodup → PG (X.blk N' sc cl C s2 H2 fp) tg g)
    (ht : ∀ cl C s2 H2 fp, PIf (X.blk N' sc cl C s2 H2 fp) ifs tt)
    (he : ∀ cl C s2 H2 fp, PE (X.blk N' sc cl C s2 H2 fp) elt te)
    (hsw : swapsWith (.ListComp elt [⟨tg, iter, ifs, 0⟩] sc pos) (some (.Name y py)) spos.line X.env = pure true := by rfl)
    (hs : ∀ x, foldedSetIterable iter X.env x = pure x := by intro _; rfl) (hf : X.fn y = true ∨ X.env.scope.names.lookup y = some .local := by first | exact .inl rfl | exact .inr rfl) :
    PS X (.Assign [.Name y py] (.ListComp elt [⟨tg, iter, ifs, 0⟩] sc pos) spos) (tAsg (tComp src wi g tt te) (gName i)) := by
  intro pins s σ H D I h
  have B := of_decide_eq_true hB
  obtain ⟨cl, hclos, hsub, hhas⟩ := GX.closure_ok (env := X.env) (sc := sc) fun y hy hf => I.ok.has y.1 (B.2.2.1 y hy hf)
  rw [exec_Assign_Name_used _ _ _ _ hsw]
  refine wpAny_bind (wpAny_standAt (wpAny_bind ?_))
  show wpAny _ X.A (do let _ ← comprehension (.ListComp elt [⟨tg, iter, ifs, 0⟩] sc pos) sc X.env _ (newList []) false (eval iter X.env) (some (assign (.Name y py) X.env))) _ _ s
  refine wpAny_bind (wpAny_mono (wpAny_comprehension_free (use := some (assign (.Name y py) X.env)) (Q := fun _ s' => SP X pins D .next s') rfl hs hclos hk B.2.1
    (thn (hi pins s σ H _ I h) fun v s1 h1 => thn h1 fun itv s2 h2 => ?_)) (fun _ s' hq => wpAny_pure (wpAny_pure hq)) fun _ _ e => e)
  obtain ⟨it, fp, tn, J, H2, e, I2, T, st2, f2, q⟩ := h2
  subst e
  obtain ⟨W, ⟨m0, w0⟩, turn⟩ := q s2.heap.objs.size (I2.hok.fresh (Nat.le_refl _))
  refine comp_core (RR := fun acc C => compPost (model X.prog X.w) X.A X.xe (some (assign (.Name y py) X.env)) (fun _ s' => SP X pins D .next s') acc C) (Qe := fun H' => D.nx (σ.set i (some (.ref s2.heap.objs.size))) H') hc hk B hsub hhas hg ht he I2 T st2 f2 w0 turn
    fun C s4 σ3 H3 hC I4 qn => ?_
  have IX : Inv X pins σ H3 s4 := I2.call' (ch := fp) I4.os I4.base I4.hok I4.bare fun b hb => ⟨(f2 b hb).2.2.2.1, (f2 b hb).2.1, (f2 b hb).2.2.2.2.1, (f2 b hb).2.2.2.2.2⟩
  have nC : ∀ {b : Addr} {o : Obj}, s2.heap.get? b = some o → C ≠ b := fun {b o} z => Nat.ne_of_gt (Nat.lt_of_lt_of_le (Heap.lt_size z) hC)
  have nL : C ≠ X.env.locals := Nat.ne_of_gt (Nat.lt_of_lt_of_le I2.lt hC)
  have nK : ∀ x c, X.env.cells.lookup x = some c → c ≠ C := fun x c z => by
    obtain ⟨v, o, ho, _⟩ := I2.cell x c z
    exact Ne.symm (nC ho)
  obtain ⟨m, hn, _⟩ := I4.loc
  show wpAny _ X.A (assign (.Name y py) X.env (.ref s2.heap.objs.size)) _ _ s4
  refine wpAny_assign_Name (store_ok2 IX hN hy hl (v := .ref s2.heap.objs.size) rfl (fun s5 I5 h5 => ?_) hf)
  obtain ⟨a, sb, ha⟩ := h5
  have na : C ≠ a := by
    rcases ha with z | z
    · rw [z]; exact nL
    · exact Ne.symm (nK _ _ z)
  refine ⟨m, hn.sameBut sb na, fun h' sb' => ⟨_, H3, ?_, qn⟩⟩
  exact I5.turned (it := C) (t' := s5.toks) (fun b o hb z => (sb'.2 b hb).trans z) I4.free nL (.inr (Nat.le_trans I2.sz hC)) nK fun p hp => Ne.symm (nC (I2.pin p hp).1)
theorem cT_yes {i : Nat} {te : TE} {D : Addr} {N : St → Hp → Prop} {x : V} {σ : St} {H : Hp} (h : te (σ.set i (some x)) H fun y H4 => ∃ ys, H4 D = some (.lst ys) ∧ ys.length < sizeLine ∧ N (σ.set i (some x)) (upd H4 D (.lst (ys ++ [y])))) : cTurn (gName i) tYes te D N x σ H := by
  show (if true = true then te (σ.set i (some x)) H (fun y H4 => ∃ ys, H4 D = some (.lst ys) ∧ ys.length < sizeLine ∧ N (σ.set i (some x)) (upd H4 D (.lst (ys ++ [y])))) else N (σ.set i (some x)) H)
  rw [if_pos rfl]
  exact h
theorem comp_range {lo : Int} {n : Nat} {g : TG} {tt : TT} {te : TE} {σ : St} {H : Hp} {D : Addr} {Qe : Hp → Prop} (Pv : Nat → St → Hp → Prop) (h0 : Pv 0 σ H)
    (hs : ∀ i σ H, i < n → Pv i σ H → cTurn g tt te D (Pv (i + 1)) (.int (lo + i)) σ H) (hd : ∀ σ H, Pv n σ H → Qe H) :
    ∃ W : Nat → Nat → St → Hp → Prop, (∃ m, W 0 m σ H) ∧ ∀ i m σ' H', W i m σ' H' → ((Itr lo n).stop i H' ∧ Qe H') ∨ ((Itr lo n).go i H' ∧ ∃ N : St → Hp → Prop, (∀ σ2 H2, N σ2 H2 → ∃ m', m' < m ∧ W (i + 1) m' σ2 H2) ∧
      ∀ x H'', (Itr lo n).yld i H' x H'' → cTurn g tt te D N x σ' H'') := by
  refine ⟨fun i m σ H => m = n - i ∧ i ≤ n ∧ Pv i σ H, ⟨n, by simp, Nat.zero_le _, h0⟩, ?_⟩
  rintro i m σ H ⟨rfl, hi, p⟩
  by_cases hlt : i < n
  · refine .inr ⟨hlt, Pv (i + 1), fun σ' H' p' => ⟨n - (i + 1), by omega, rfl, hlt, p'⟩, fun x H' y => ?_⟩
    obtain ⟨e, y⟩ := y
    subst e y
    exact hs i σ _ hlt p
  · have e : i = n := by omega
    subst e
    exact .inl ⟨Nat.le_refl _, hd σ H p⟩
theorem comp_list {K : PySem.W.Frag} {a : Addr} {xs : List V} {g : TG} {tt : TT} {te : TE} {σ : St} {H : Hp} {D : Addr} {Qe : Hp → Prop} (Pv : Nat → St → Hp → Prop) (h0 : Pv 0 σ H) (hl : ∀ i σ H, i ≤ xs.length → Pv i σ H → SqL K H a xs)
    (hs : ∀ i x σ H, xs[i]? = some x → Pv i σ H → cTurn g tt te D (Pv (i + 1)) x σ H) (hd : ∀ σ H, Pv xs.length σ H → Qe H) :
    ∃ W : Nat → Nat → St → Hp → Prop, (∃ m, W 0 m σ H) ∧ ∀ i m σ' H', W i m σ' H' → ((Itl K a).stop i H' ∧ Qe H') ∨ ((Itl K a).go i H' ∧ ∃ N : St → Hp → Prop, (∀ σ2 H2, N σ2 H2 → ∃ m', m' < m ∧ W (i + 1) m' σ2 H2) ∧
      ∀ x H'', (Itl K a).yld i H' x H'' → cTurn g tt te D N x σ' H'') := by
  refine ⟨fun i m σ H => m = xs.length - i ∧ i ≤ xs.length ∧ Pv i σ H, ⟨xs.length, by simp, Nat.zero_le _, h0⟩, ?_⟩
  rintro i m σ H ⟨rfl, hi, p⟩
  have q := hl i σ H hi p
  by_cases hlt : i < xs.length
  · refine .inr ⟨⟨xs, xs[i], q, by simp [hlt]⟩, Pv (i + 1), fun σ' H' p' => ⟨xs.length - (i + 1), by omega, rfl, hlt, p'⟩, fun x H' y => ?_⟩
    obtain ⟨e, y⟩ := y
    subst e
    exact hs i x σ _ (y xs q) p
  · have e : i = xs.length := by omega
    subst e
    exact .inl ⟨⟨xs, q, Nat.le_refl _⟩, hd σ H p⟩
end L2
namespace L2
open PySem PySem.Spec PyProof.Rows
section
variable {X : Cx}
def CDivB (_ j : Int) : Prop := 0 < j ∧ j < 18446744073709551616
theorem op_fdivB : OpR X (binaryOp .FloorDiv) (rI CDivB fun i j => .int (i / j)) := opI fun i j _ _ _ _ _ hc q => by
  have h1 : (0 : Int) < j := hc.1
  have h2 : j < 18446744073709551616 := hc.2
  refine floordiv_int (by omega) (by rw [Int.fdiv_eq_ediv_of_nonneg i (by omega)]; exact q) (.inl (PyProof.noPylong_of_log2 ?_))
  have h3 : j.natAbs.log2 < 64 := (Nat.log2_lt (by omega)).mpr (by omega)
  omega
theorem call_isinst : CallR X (.builtin "isinstance") (fun xs H Q => ∃ (x : V) (t : Value) (T : String) (b : Bool), xs = [x, .ty T] ∧ TyOf X.K H x t ∧ PySem.W.kitOne X.K t (.type T) = some b ∧ Q (.bl b) H) := by
  intro pins s σ H xs us Q I r h
  obtain ⟨x, t, T, b, rfl, ty, e, q⟩ := h
  obtain ⟨u, w', rfl, r1, r2⟩ := vals2 r
  obtain rfl : w' = Value.type T := r2
  exact isinst_ok I r1 ty e fun tk => ⟨.bl b, H, I.tok tk, rfl, q⟩
theorem mt_bitlen : MtR X "int.bit_length" (fun x vs H Q => ∃ i, x = .int i ∧ vs = [] ∧ Q (.int (Builtin.Int.intBits i)) H) := by
  intro pins s σ H x xs v us Q I rx rv h
  obtain ⟨i, rfl, rfl, q⟩ := h
  obtain ⟨t, rfl⟩ := rx
  cases rv
  exact call_int_bit_length ⟨.int (Builtin.Int.intBits i), H, I.tok _, ⟨_, rfl⟩, q⟩
end
structure Cal (K : PySem.W.Frag) (mg : Str → Option Value) (x : Str) (f : Addr) (fd : FuncData) (ps : List Str) : Prop where
  mg : mg x = some (.ref f)
  kp : PySem.W.keepIn K (.ref f) = true
  bd : Binds K fd ps []
theorem pcall {X : Cx} {k : Nat} {f : Addr} {fd : FuncData} {ps : List Str} {sp : Sp} {x : Str} {e : Expr} {es : List Expr} {t : TA} {p pos : Pos} (F : FnOk X.prog X.w X.K X.mg X.base CX0 k f fd ps sp) (c : Cal X.K X.mg x f fd ps) (hr : Room k X.A) (ha : PA X (e :: es) t)
    (hg : Gl X x := by rfl) (hdb : (x == ("__debug__" : Str)) = false := by decide) (he : starEach (e :: es) X.env = (false, eval e X.env) :: starEach es X.env := by rfl) (hpl : (backTo pos (starEach es X.env)).any (·.1) = false := by rfl) :
    PE X (.Call (.Name x p) (e :: es) [] pos) (tCall sp [] E0 t) := pe_call F hr hg c.mg c.kp c.bd .nil pass0 ha hdb he hpl
theorem pe_type {X : Cx} {x : Str} {T : String} {pos : Pos} (hm : X.mg x = none) (hv : bootBuiltins x = some (.type T)) (hg : Gl X x := by rfl) (hn : x ≠ "__name__" := by decide) (hdb : (x == ("__debug__" : Str)) = false := by decide) : PE X (.Name x pos) (tC (.ty T)) :=
  pe_bltn hg hm hv rfl hn hdb
def tTru (K : PySem.W.Frag) (t : TE) : TT := fun σ H Q => t σ H fun x H' => ∃ k, TruV K x H' k ∧ Q k H'
theorem pt_callK {X : Cx} (K : PySem.W.Frag) {f : Expr} {es : List Expr} {kws : List Keyword} {pos : Pos} {t : TE} (hK : X.K = K) (h : PE X (.Call f es kws pos) t) : PT X (.Call f es kws pos) (tTru K t) := by
  subst hK
  exact pt_truth h fun _ => rfl
end L2
namespace L2
open PySem PySem.Spec PyProof.Rows
section
variable {X : Cx}
theorem bitOr_pp {x y : Int} (hx : 0 ≤ x) (hy : 0 ≤ y) : Builtin.bitOr x y = ((x.toNat ||| y.toNat : Nat) : Int) := by
  have nn : ∀ z : Int, Builtin.bitNot (Builtin.bitNot z) = z := fun z => by unfold Builtin.bitNot; omega
  have ng : ∀ z : Int, 0 ≤ z → ¬ 0 ≤ Builtin.bitNot z := fun z hz => by unfold Builtin.bitNot; omega
  unfold Builtin.bitOr
  rw [bitAnd_nn (ng x hx) (ng y hy), nn, nn, nn]
def SlR3 (X : Cx) (r : V → Option Int → Option Int → Option Int → Hp → VK → Prop) : Prop :=
  ∀ (pins : List (Addr × Obj)) (s : Shared) (σ : St) (H : Hp) (x : V) (v vl vu vt : Value) (lo hi st : Option Int) (sl : Addr) (Q : VK), Inv X pins σ H s → RelV x v → s.heap.IsSliceOf sl vl vu vt → IsPart vl lo → IsPart vu hi → IsPart vt st → r x lo hi st H Q →
    ∃ T id, typeLookup (.type T) "__getitem__" = pure (some (.builtin id)) ∧ s.TypeIs v T ∧ wpAny (model X.prog X.w) X.A (getItem v (.ref sl)) (EP X pins σ Q) X.xe s
def tSl3 (r : V → Option Int → Option Int → Option Int → Hp → VK → Prop) (te : TE) (tl th tk : TO) : TE := fun σ H Q => te σ H fun x H1 => tl σ H1 fun l H2 => th σ H2 fun u H3 => tk σ H3 fun k H4 => r x l u k H4 Q
theorem pe_slice3 {e est : Expr} {lo hi : Option Expr} {te : TE} {tl th tk : TO} {pos p2 : Pos} {r : V → Option Int → Option Int → Option Int → Hp → VK → Prop} (hr : SlR3 X r) (he : PE X e te) (hl : PO X lo tl) (hu : PO X hi th) (hk : PO X (some est) tk) :
    PE X (.Subscript e (.Slice lo hi (some est) p2) pos) (tSl3 r te tl th tk) := by
  intro pins s σ H Q I h
  refine Subscript_ (thn (he pins s σ H _ I h) fun v s1 ⟨x, H1, I1, r1, q1⟩ => ?_)
  refine wpAny_Slice (thn (hl pins s1 σ H1 _ I1 q1) fun vl s2 ⟨l, H2, I2, pl, q2⟩ => thn (hu pins s2 σ H2 _ I2 q2) fun vu s3 ⟨u, H3, I3, pu, q3⟩ => thn (hk pins s3 σ H3 _ I3 q3) fun vt s4 ⟨k, H4, I4, pt, q4⟩ => ?_)
  have I5 : Inv X pins σ H4 { s4 with heap := s4.heap.push { cls := .type "slice", data := .fields #[vl, vu, vt] } } := I4.kept (t' := s4.toks) fun b ob q => Heap.get?_push_of_some _ q
  obtain ⟨T, id, hT, ht, hg⟩ := hr pins { s4 with heap := s4.heap.push { cls := .type "slice", data := .fields #[vl, vu, vt] } } σ H4 x v vl vu vt l u k s4.heap.objs.size Q I5 r1 (Heap.IsSliceOf.new ..) pl pu pt q4
  show wpAny (model X.prog X.w) X.A (subscriptTail e (.Slice lo hi (some est) p2) v (.ref s4.heap.objs.size)) (EP X pins σ Q) X.xe { s4 with heap := s4.heap.push { cls := .type "slice", data := .fields #[vl, vu, vt] } }
  exact tail_any (ops := [v, .ref s4.heap.objs.size]) ht hT hg (by with_unfolding_all rfl)
theorem sl3_rev : SlR3 X (fun x lo hi st H Q => lo = none ∧ hi = none ∧ st = some (-1) ∧ ∃ a xs, x = .ref a ∧ SqL X.K H a xs ∧ ∀ p, H p = none → Q (.ref p) (upd H p (.lst xs.reverse))) := by
  intro pins s σ H x v vl vu vt lo hi st sl Q I rx hs pl pu pt h
  obtain ⟨rfl, rfl, rfl, a, xs, rfl, hx, q⟩ := h
  cases rx
  obtain ⟨its, r, ht, hz⟩ := I.list hx
  have hlen := r.length
  refine ⟨"list", _, slot_list_getitem.lookup, ht.isList.typeIs, ?_⟩
  refine wpAny_getItem_list_slice ht.isList hs pl pu pt (by decide) ?_ (by rw [List.size_toArray] <;> omega)
  rw [GX.pick_rev]
  refine ⟨.ref s.heap.objs.size, _, I.laid (t' := s.toks) (o := .lst xs.reverse) (fun b ob q => Heap.get?_push_of_some _ q) (Nat.le_refl _) ?_, rfl, q _ (I.hok.fresh (Nat.le_refl _))⟩
  exact ⟨by rw [List.length_reverse]; exact hz, its.reverse, 0, r.reverse, Heap.get?_push_size _ rfl⟩
end
end L2
set_option Elab.async false
set_option linter.all false
set_option maxRecDepth 100000
namespace GX
open PySem
theorem keys_list : typeLookup (.type "list") (Str.ofString "keys") = pure none := am_miss_of_fast (by kernel_rfl)
theorem keys_tuple : typeLookup (.type "tuple") (Str.ofString "keys") = pure none := am_miss_of_fast (by kernel_rfl)
section
variable {prog : Program} {w : World} {A : Around} {E : Value → Shared → Prop} {s : Shared} {l : Addr} {items : Array Value} {n : Nat} {Q : Option Value → Shared → Prop}
theorem run_slot {T id : String} {nm : Str} {B : Builtin} {x : Value} {R : Result → Shared → Prop} {S : PySem.Spec} (slot : Slot T nm id) (en : entryFor table id = some B) (hT : s.TypeIs (.ref l) T) (ar : argsOk id ⟨[.ref l, x], []⟩) (m : Meets (B ⟨[.ref l, x], []⟩) S) (h : S A R s) :
    codeAny (model prog w) A (.call (.builtin id) ⟨[.ref l, x], []⟩) R s := codeAny_call_builtin slot.plain en (slot.check _ _ _ _ _ _ _ _ hT ar (m prog w A R s h))
theorem no_attr {T id : String} {nm : Str} {o : Obj} (slot : Slot T "__getattribute__" id) (ga : typeLookup (.type T) "__getattr__" = pure none) (en : entryFor table id = some Builtin.«object.__getattribute__») (ar : ∀ a b, argsOk id ⟨[a, b], []⟩)
    (hl : s.heap.get? l = some o) (hc : o.cls = .type T) (m : ∀ u, Meets (Builtin.«object.__getattribute__» ⟨[.ref l, .str nm u], []⟩) (fun A R s => s.heap.get? l = some o ∧ raisesAttr (.ref l) nm A R s))
    (hA : A.handled = none) (h : ∀ h' tk, Grown s.heap h' → Q none { s with heap := h', toks := tk }) : wpAny (model prog w) A (getAttr? (.ref l) nm) Q E s := by
  obtain ⟨c, dd, dt, sl⟩ := o
  cases hc
  obtain ⟨hp, g, d, tk, os⟩ := s
  have hT : ∀ tk, Shared.TypeIs ⟨hp, g, d, tk, os⟩ (.ref l) T := fun _ => ⟨_, hl, rfl⟩
  have := slot.lookup
  have := slot.bind (.ref l)
  have := sub_AttributeError
  unfold getAttr? getAttrBy? getAttrBy
  repeat' first | assumption | exact hT _ | wp_step
  refine run_slot slot en (hT _) (ar _ _) (m _) ⟨hl, hA, fun h' tk' e x => ?_⟩
  obtain ⟨t', u', _⟩ := x.there
  have q := h h' tk' x.keeps
  unfold getattributeRaised
  repeat' first | assumption | wp_step
theorem no_keys (hA : A.handled = none) (hl : s.heap.get? l = some (lstO items n)) (h : ∀ h' tk, Grown s.heap h' → Q none { s with heap := h', toks := tk }) : wpAny (model prog w) A (getAttr? (.ref l) (Str.ofString "keys")) Q E s :=
  no_attr F.slot_list_getattribute am_list_getattr_none am_entry_list_getattribute F.args_list_getattribute_2 hl rfl (fun u => meets_getattribute_miss_list l items n _ _ u keys_list (by decide)) hA h
theorem no_keysT (hA : A.handled = none) (hl : s.heap.get? l = some { cls := .type "tuple", dict := none, data := .seq items n, slots := #[] }) (h : ∀ h' tk, Grown s.heap h' → Q none { s with heap := h', toks := tk }) : wpAny (model prog w) A (getAttr? (.ref l) (Str.ofString "keys")) Q E s :=
  no_attr F.slot_tuple_getattribute am_tuple_getattr_none am_entry_tuple_getattribute F.args_tuple_getattribute_2 hl rfl (fun u => meets_getattribute_miss_tuple l items n _ _ u keys_tuple (by decide)) hA h
end
end GX
set_option Elab.async false
set_option linter.all false
set_option maxRecDepth 100000
namespace GX
open PySem
theorem entry_upd_loop : entryFor table "dict.update.loop" = some Builtin.«dict.update.loop» := entryFor_of_tree (by kernel_rfl)
theorem plain_upd_loop : plainId "dict.update.loop" = true := by decide +kernel
section
variable {prog : Program} {w : World} {A : Around} {R : Result → Shared → Prop} {I d : Addr} {fp wr : List Addr} {n : Nat} {P : Nat → Value → Prop} {St : Nat → Heap → Prop} {K : Type} [DecidableEq K] {knd : KeyKind prog w K}
theorem merged_len (kx : List (K × Value)) : (merged [] kx).length ≤ kx.length := by
  have := merged_length_le [] kx
  simpa using this
theorem turn_upd (I d : Addr) (i : Int) (t : Tok) : MeetsIn prog w (Builtin.«dict.update.loop» ⟨[.ref d, .ref I, .int i t, .none], []⟩) fun A R s => wpAny (model prog w) A.in1 (pyNext (.ref I)) (fun r s => match r with
    | none => R (.ok (.ret .none)) s
    | some v => ∃ a o k x c, v = .ref a ∧ s.heap.get? a = some o ∧ o.cls = .type "tuple" ∧ o.data = .seq #[k, x] c ∧
      wpAny (model prog w) A.in1 (dictSet d k x) (fun _ s => codeAny (model prog w) A (.builtin "dict.update.loop" ⟨[.ref d, .ref I, .int (i + 1) 0, .none], []⟩) R s) (fun _ _ => False) s) (fun _ _ => False) s := by
  intro A R s nx
  show wpAny _ _ (pyNext (.ref I) >>= _) _ _ s
  apply wpAny_bind
  refine wpAny_mono nx (fun r s1 h => ?_) fun _ _ z => z.elim
  rcases r with _ | v
  · wp_walk
    exact h
  · obtain ⟨a, o, k, x, c, rfl, ha, hc, hd, q⟩ := h
    have ty : s1.TypeIs (.ref a) "tuple" := ⟨o, ha, hc⟩
    apply wpAny_bind
    apply wpAny_holding
    apply wpAny_bind
    apply wpAny_tryCatch
    wp_walk using wpAny_seqItems ha hd, wpAny_mono q
    · exact fun _ _ e => wpAny_pure ⟨plainId_quiet plain_upd_loop _, e⟩
    · exact fun _ _ z => z.elim
theorem upd_go {D : Nat → Heap → Prop} (W : Walks prog w A.in1 I fp wr n P St) (nd : d ∉ fp) (calm : ∀ i h h', D i h → (∀ b o, b ∉ wr → h.get? b = some o → h'.get? b = some o) → D i h')
    (turn : ∀ i v s, P i v → D i s.heap → ∃ a o k x c, v = .ref a ∧ s.heap.get? a = some o ∧ o.cls = .type "tuple" ∧ o.data = .seq #[k, x] c ∧
      ∀ Q : Unit → Shared → Prop, (∀ h, D (i + 1) h → (∀ b, b ≠ d → h.get? b = s.heap.get? b) → ∀ tk, Q () { s with heap := h, toks := tk }) → wpAny (model prog w) A.in1 (dictSet d k x) Q (fun _ _ => False) s) :
    ∀ (k i : Nat) (s : Shared) (t : Tok), n = i + k → St i s.heap → D i s.heap → (∀ h tk, D n h → R (.ok (.ret .none)) { s with heap := h, toks := tk }) →
      codeAny (model prog w) A (.builtin "dict.update.loop" ⟨[.ref d, .ref I, .int i t, .none], []⟩) R s := by
  intro k
  induction k with
  | zero =>
    intro i s t e st di fin
    obtain rfl : n = i := e
    exact enter entry_upd_loop plain_upd_loop (turn_upd I d _ t) (W.done s _ _ st fun h tk q => fin h tk (calm _ _ _ di q))
  | succ k ih =>
    intro i s t e st di fin
    refine enter entry_upd_loop plain_upd_loop (turn_upd I d _ t) (W.item i s _ _ (by omega) st fun v h tk pv st1 q => ?_)
    obtain ⟨a, o, y, x, c, e1, e2, e3, e4, set⟩ := turn i v { s with heap := h, toks := tk } pv (calm _ _ _ di q)
    refine ⟨a, o, y, x, c, e1, e2, e3, e4, set _ fun h2 d2 sb tk => ?_⟩
    exact ih (i + 1) { s with heap := h2, toks := tk } 0 (by omega) (W.frame _ _ _ st1 fun b hb o e => (sb b fun z => nd (z ▸ hb)).trans e) d2 fin
theorem upd_loop (W : Walks prog w A.in1 I fp wr n P St) (nd : d ∉ fp) (h₀ : Heap) (kx : List (K × Value)) (hn : kx.length = n) (hz : n ≤ sizeLine)
    (hP : ∀ i v, P i v → ∃ a key k x o c, v = .ref a ∧ kx[i]? = some (k, x) ∧ knd.is k key = true ∧ h₀.get? a = some o ∧ o.cls = .type "tuple" ∧ o.data = .seq #[key, x] c ∧ a ≠ d ∧ a ∉ wr) :
    ∀ (k i : Nat) (s : Shared) (t : Tok), n = i + k → St i s.heap → (∀ b o, b ∉ wr → b ≠ d → h₀.get? b = some o → s.heap.get? b = some o) → s.heap.DictOf knd d (merged [] (kx.take i)) →
    (∀ h' tk, (∀ b o, b ∉ wr → b ≠ d → h₀.get? b = some o → h'.get? b = some o) → h'.DictOf knd d (merged [] kx) → R (.ok (.ret .none)) { s with heap := h', toks := tk }) →
    codeAny (model prog w) A (.builtin "dict.update.loop" ⟨[.ref d, .ref I, .int i t, .none], []⟩) R s := by
  have nw : d ∉ wr := fun z => nd (W.sub _ z)
  intro k i s t en st kp dd fin
  refine upd_go (D := fun i h => (∀ b o, b ∉ wr → b ≠ d → h₀.get? b = some o → h.get? b = some o) ∧ h.DictOf knd d (merged [] (kx.take i))) W nd ?_ ?_ k i s t en st ⟨kp, dd⟩ fun h tk q => fin h tk q.1 ?_
  · rintro i h h' ⟨kp, od, es, ep, ho, r⟩ q
    exact ⟨fun b o nb nb' e => q b o nb (kp b o nb nb' e), od, es, ep, q d od nw ho, r⟩
  · rintro i v s pv ⟨kp, dd⟩
    obtain ⟨a, key, k, x, o, c, rfl, hx, hk, ha, hc, hd, na, naw⟩ := hP i v pv
    refine ⟨a, o, key, x, c, rfl, kp a o naw na ha, hc, hd, fun Q q => wpAny_dictSet_pairs hk dd (fun h2 d2 sb => q h2 ⟨fun b o nb nb' e => (sb.2 b nb').trans (kp b o nb nb' e), ?_⟩ sb.2 _) (Nat.le_trans (merged_len _) (by rw [List.length_take]; omega))⟩
    rw [merged_take_succ [] kx i (k, x) hx]
    exact d2
  · have z := q.2
    rwa [← hn, List.take_length] at z
end
section
variable {prog : Program} {w : World} {A : Around} {E : Value → Shared → Prop} {s : Shared} {K : Type} [DecidableEq K] {knd : KeyKind prog w K}
abbrev newD (h : Heap) : Heap := h.push { cls := .type "dict", data := .dict #[] }
theorem dict_opens {T : String} {l : Addr} {Q : Value → Shared → Prop} (ty : Shared.TypeIs { s with heap := newD s.heap } (.ref l) T) (nT : (Value.type T != .type "dict") = true)
    (h : wpAny (model prog w) A.in1.in1 (getAttr? (.ref l) (Str.ofString "keys")) (fun r s1 => r = none ∧ wpAny (model prog w) A.in1.in1 (pyIter (.ref l))
      (fun it s2 => codeAny (model prog w) A.in1 (.builtin "dict.update.loop" ⟨[.ref s.heap.objs.size, it, .int 0 0, .none], []⟩) (wants (fun r s3 => r = .none ∧ Q (.ref s.heap.objs.size) s3) E) s2) E s1) E { s with heap := newD s.heap }) :
    wpAny (model prog w) A (call (.type "dict") [.ref l]) Q E s := by
  apply callType_codes F.kt_called_dict (F.kt_typeCall_dict_1 _) F.entry_dict_init (kt_code_dict_new (Q₁ := fun v s1 => v = .ref s.heap.objs.size ∧ s1 = { s with heap := newD s.heap }) _ ⟨rfl, rfl⟩)
  rintro _ _ ⟨rfl, rfl⟩
  have td : Shared.TypeIs { s with heap := newD s.heap } (.ref s.heap.objs.size) "dict" := ⟨_, Heap.get?_push_size _ rfl, rfl⟩
  refine ⟨td, F.args_dict_init_2 _ _, ?_⟩
  show wpAny _ _ (Builtin.Dict.selfAndRest _ _ >>= _) _ _ _
  wp_walk using wpAny_notOrdered_dict td, wpAny_ite_true nT, wpAny_mono h
  · rintro _ s1 ⟨rfl, q⟩
    wp_walk using wpAny_mono q
    · exact fun _ _ e => wpAny_pure ⟨plainId_quiet plain_upd_loop _, e⟩
    · exact fun _ _ e => e
  · exact fun _ _ e => e
theorem dict_of_list {l : Addr} {vs : List Value} {n : Nat} {kx : List (K × Value)} {Q : Value → Shared → Prop} (hA : A.handled = none)
    (hl : s.heap.get? l = some { cls := .type "list", dict := none, data := .seq vs.toArray n, slots := #[] }) (hz : vs.length ≤ sizeLine) (hlen : kx.length = vs.length)
    (hP : ∀ (i : Nat) v, vs[i]? = some v → ∃ a key k x o c, v = .ref a ∧ kx[i]? = some (k, x) ∧ knd.is k key = true ∧ s.heap.get? a = some o ∧ o.cls = .type "tuple" ∧ o.data = .seq #[key, x] c)
    (h : ∀ h' tk, (∀ b o, s.heap.get? b = some o → h'.get? b = some o) → h'.DictOf knd s.heap.objs.size (merged [] kx) → Q (.ref s.heap.objs.size) { s with heap := h', toks := tk }) :
    wpAny (model prog w) A (call (.type "dict") [.ref l]) Q E s := by
  have hl' : (newD s.heap).get? l = some { cls := .type "list", dict := none, data := .seq vs.toArray n, slots := #[] } := Heap.get?_push_of_some _ hl
  refine dict_opens (T := "list") ⟨_, hl', rfl⟩ (by decide) (no_keys hA hl' fun h1 tk1 k1 => ⟨rfl, ?_⟩)
  have hl1 := k1 l _ hl'
  have lt1 : l < h1.objs.size := Heap.lt_size hl1
  have ld : l < s.heap.objs.size := Heap.lt_size hl
  have il : h1.IsList l vs.toArray := ⟨_, hl1, rfl, n, rfl⟩
  have d1 : h1.DictOf knd s.heap.objs.size [] := by
    obtain ⟨od, es, ep, ho, r⟩ := Heap.DictOf.new (knd := knd) s.heap
    exact ⟨od, es, ep, k1 _ _ ho, r⟩
  have dlt : s.heap.objs.size < h1.objs.size := by
    obtain ⟨od, es, ep, ho, r⟩ := d1
    exact Heap.lt_size ho
  have hI : ∀ {b : Addr}, b < h1.objs.size → b ≠ h1.objs.size := fun z => Nat.ne_of_lt z
  refine wpAny_pyIter_list (s := { s with heap := h1, toks := tk1 }) il ?_
  have W := Walks.list (prog := prog) (w := w) (A := A.in1.in1) hA h1.objs.size l (hI lt1) vs.toArray
  refine upd_loop (A := A.in1) (knd := knd) W (d := s.heap.objs.size) ?_ s.heap kx (by rw [hlen, List.size_toArray]) (by rw [List.size_toArray]; exact hz) (fun i v hv => ?_) vs.toArray.size 0 _ 0 (by omega)
    ⟨⟨_, Heap.get?_push_size _ rfl, rfl, rfl⟩, il.push _⟩ (fun b o _ nb e => Heap.get?_push_of_some _ (k1 b o (Heap.get?_push_of_some _ e))) ?_ fun h2 tk2 k2 d2 => ?_
  · intro z
    have z' : s.heap.objs.size = h1.objs.size ∨ s.heap.objs.size = l := by simpa using z
    rcases z' with z' | z'
    · exact absurd dlt (by rw [z']; exact Nat.lt_irrefl _)
    · exact absurd ld (by rw [z']; exact Nat.lt_irrefl _)
  · obtain ⟨a, key, k, x, o, c, e1, e2, e3, e4, e5, e6⟩ := hP i v (by simpa using hv)
    refine ⟨a, key, k, x, o, c, e1, e2, e3, e4, e5, e6, Nat.ne_of_lt (Heap.lt_size e4), fun z => ?_⟩
    have z' : a = h1.objs.size := by simpa using z
    exact absurd (Nat.lt_trans (Heap.lt_size e4) dlt) (by rw [z']; exact Nat.lt_irrefl _)
  · exact d1.push _
  · exact ⟨rfl, h h2 tk2 (fun b o e => k2 b o (fun z => by
      have z' : b = h1.objs.size := by simpa using z
      exact absurd (Nat.lt_trans (Heap.lt_size e) dlt) (by rw [z']; exact Nat.lt_irrefl _)) (Nat.ne_of_lt (Heap.lt_size e)) e) d2⟩
end
end GX
namespace GX
open PySem PyProof.Rows
section
variable {prog : Program} {w : World} {A : Around} {E : Value → Shared → Prop} {s : Shared}
theorem sorted_in {x : Value} {kw : List (Str × Value)} {Q : Value → Shared → Prop} (ok : argsOk "sorted" ⟨[x], kw⟩)
    (h : wpAny (model prog w) A.in1 (collect x) (fun vs s1 => wpAny (model prog w) A.in1 (newList vs >>= fun l => holding [l] (call (.builtin "list.sort") [l] kw) >>= fun _ => ret l) (fun f s2 => ∃ v, f = .done (.ret v) ∧ Q v s2) E s1) E s) :
    wpAny (model prog w) A (call (.builtin "sorted") [x] kw) Q E s :=
  call_function_entry_kw kind_sorted plain_sorted entry_sorted ok (wpAny_bind (m := checkCount _ _ _ _) (wpAny_pure (wpAny_bind (wpAny_mono h (fun _ _ q => q) fun _ _ e => e))))
end
end GX
namespace L2
open PySem PySem.Spec PyProof.Rows
def dI (m : List (Int × Int)) : List (Key × V) := m.map fun p => (Sum.inl p.1, V.int p.2)
theorem dI_len (m : List (Int × Int)) : (dI m).length = m.length := List.length_map ..
def lkI : List (Int × Int) → Int → Option Int
  | [], _ => none
  | p :: m, k => if p.1 = k then some p.2 else lkI m k
theorem dI_val : ∀ (m : List (Int × Int)) (k : Int), valV (dI m) (Sum.inl k : Key) = (lkI m k).map V.int
  | [], _ => rfl
  | p :: m, k => by
    show valV ((Sum.inl p.1, V.int p.2) :: dI m) (Sum.inl k) = _
    unfold lkI
    by_cases e : p.1 = k
    · rw [if_pos e, valV_pos (by rw [e])]
      rfl
    · rw [if_neg e, valV_neg (fun z => e (Sum.inl.inj z)), dI_val m k]
def putI : List (Int × Int) → Int → Int → List (Int × Int)
  | [], k, v => [(k, v)]
  | p :: m, k, v => if p.1 = k then (p.1, v) :: m else p :: putI m k v
theorem lk_put : ∀ (m : List (Int × Int)) (k v j : Int), lkI (putI m k v) j = if j = k then some v else lkI m j
  | [], k, v, j => by
    show (if k = j then some v else none) = _
    by_cases e : j = k
    · rw [if_pos e, if_pos e.symm]
    · rw [if_neg e, if_neg (fun z => e z.symm)]
      rfl
  | p :: m, k, v, j => by
    show lkI (if p.1 = k then (p.1, v) :: m else p :: putI m k v) j = if j = k then some v else (if p.1 = j then some p.2 else lkI m j)
    by_cases e : p.1 = k
    · rw [if_pos e]
      show (if p.1 = j then some v else lkI m j) = _
      by_cases e2 : j = k
      · rw [if_pos e2, if_pos (e.trans e2.symm)]
      · rw [if_neg e2, if_neg (fun z => e2 (z.symm.trans e)), if_neg (fun z => e2 (z.symm.trans e))]
    · rw [if_neg e]
      show (if p.1 = j then some p.2 else lkI (putI m k v) j) = _
      rw [lk_put m k v j]
      by_cases e2 : j = k
      · rw [if_pos e2, if_neg (fun z => e (z.trans e2)), if_pos e2]
      · rw [if_neg e2, if_neg e2]
theorem put_keys : ∀ (m : List (Int × Int)) (k v x : Int), x ∈ (putI m k v).map (·.1) ↔ x = k ∨ x ∈ m.map (·.1)
  | [], k, v, x => by simp [putI]
  | p :: m, k, v, x => by
    show x ∈ (if p.1 = k then (p.1, v) :: m else p :: putI m k v).map (·.1) ↔ _
    by_cases e : p.1 = k
    · rw [if_pos e]
      simp only [List.map_cons, List.mem_cons]
      constructor
      · exact fun h => .inr h
      · rintro (h | h)
        · exact .inl (h.trans e.symm)
        · exact h
    · rw [if_neg e]
      simp only [List.map_cons, List.mem_cons]
      have := put_keys m k v x
      constructor
      · rintro (h | h)
        · exact .inr (.inl h)
        · rcases this.mp h with h | h
          · exact .inl h
          · exact .inr (.inr h)
      · rintro (h | h | h)
        · exact .inr (this.mpr (.inl h))
        · exact .inl h
        · exact .inr (this.mpr (.inr h))
theorem put_nd : ∀ (m : List (Int × Int)) (k v : Int), (m.map (·.1)).Nodup → ((putI m k v).map (·.1)).Nodup
  | [], k, v, _ => by simp [putI]
  | p :: m, k, v, h => by
    show ((if p.1 = k then (p.1, v) :: m else p :: putI m k v).map (·.1)).Nodup
    rw [List.map_cons, List.nodup_cons] at h
    by_cases e : p.1 = k
    · rw [if_pos e, List.map_cons, List.nodup_cons]
      exact h
    · rw [if_neg e, List.map_cons, List.nodup_cons]
      refine ⟨fun z => ?_, put_nd m k v h.2⟩
      rcases (put_keys m k v p.1).mp z with z | z
      · exact e z
      · exact h.1 z
theorem put_vals : ∀ (m : List (Int × Int)) (k v : Int) (p : Int × Int), p ∈ putI m k v → p = (k, v) ∨ p ∈ m
  | [], k, v, p, h => .inl (by simpa [putI] using h)
  | q :: m, k, v, p, h => by
    have h' : p ∈ (if q.1 = k then (q.1, v) :: m else q :: putI m k v) := h
    by_cases e : q.1 = k
    · rw [if_pos e] at h'
      rcases List.mem_cons.mp h' with z | z
      · exact .inl (by rw [z, e])
      · exact .inr (List.mem_cons_of_mem _ z)
    · rw [if_neg e] at h'
      rcases List.mem_cons.mp h' with z | z
      · exact .inr (by rw [z]; exact List.mem_cons_self)
      · rcases put_vals m k v p z with z | z
        · exact .inl z
        · exact .inr (List.mem_cons_of_mem _ z)
theorem dI_any (k : Int) : ∀ m : List (Int × Int), ((dI m).any fun kv => decide (kv.1 = (Sum.inl k : Key))) = m.any fun p => decide (p.1 = k)
  | [] => rfl
  | p :: m => by
    show (decide ((Sum.inl p.1 : Key) = Sum.inl k) || (dI m).any _) = (decide (p.1 = k) || m.any _)
    rw [dI_any k m]
    congr 1
    rw [decide_eq_decide]
    exact ⟨fun h => Sum.inl.inj h, fun h => congrArg _ h⟩
theorem put_new : ∀ (m : List (Int × Int)) (k v : Int), (m.any fun p => decide (p.1 = k)) = false → putI m k v = m ++ [(k, v)]
  | [], _, _, _ => rfl
  | p :: m, k, v, h => by
    rw [List.any_cons, Bool.or_eq_false_iff] at h
    show (if p.1 = k then (p.1, v) :: m else p :: putI m k v) = _
    rw [if_neg (of_decide_eq_false h.1), put_new m k v h.2]
    rfl
theorem put_old : ∀ (m : List (Int × Int)) (k v : Int), (m.map (·.1)).Nodup → (m.any fun p => decide (p.1 = k)) = true → putI m k v = m.map fun p => if p.1 = k then (p.1, v) else p
  | [], _, _, _, h => by cases h
  | p :: m, k, v, nd, h => by
    rw [List.map_cons, List.nodup_cons] at nd
    show (if p.1 = k then (p.1, v) :: m else p :: putI m k v) = (if p.1 = k then (p.1, v) else p) :: m.map _
    by_cases e : p.1 = k
    · rw [if_pos e, if_pos e]
      congr 1
      have : m.map (fun p => if p.1 = k then (p.1, v) else p) = m.map id := List.map_congr_left fun q hq => by
        rw [if_neg (fun z => nd.1 (by rw [e, ← z]; exact List.mem_map_of_mem hq))]
        rfl
      rw [this, List.map_id]
    · rw [if_neg e, if_neg e, put_old m k v nd.2 (by
        rw [List.any_cons, decide_eq_false e, Bool.false_or] at h
        exact h)]
theorem dI_put (m : List (Int × Int)) (k v : Int) (nd : (m.map (·.1)).Nodup) : putK (dI m) (Sum.inl k : Key) (V.int v) = dI (putI m k v) := by
  unfold putK
  rw [dI_any]
  cases e : m.any fun p => decide (p.1 = k) with
  | false =>
    rw [put_new m k v e]
    unfold dI
    rw [List.map_append]
    rfl
  | true =>
    rw [put_old m k v nd e]
    unfold dI
    rw [List.map_map, if_pos rfl, List.map_map]
    apply List.map_congr_left
    intro p _
    show (if (Sum.inl p.1 : Key) = Sum.inl k then ((Sum.inl p.1 : Key), V.int v) else (Sum.inl p.1, V.int p.2)) = ((Sum.inl (if p.1 = k then (p.1, v) else p).1 : Key), V.int (if p.1 = k then (p.1, v) else p).2)
    by_cases z : p.1 = k
    · rw [if_pos (congrArg _ z), if_pos z]
    · rw [if_neg (fun q => z (Sum.inl.inj q)), if_neg z]
theorem lk_mem : ∀ {m : List (Int × Int)} {k v : Int}, lkI m k = some v → (k, v) ∈ m
  | [], _, _, h => by cases h
  | p :: m, k, v, h => by
    have h' : (if p.1 = k then some p.2 else lkI m k) = some v := h
    by_cases e : p.1 = k
    · rw [if_pos e] at h'
      have : p = (k, v) := by rw [← e, ← Option.some.inj h']
      rw [this]
      exact List.mem_cons_self
    · rw [if_neg e] at h'
      exact List.mem_cons_of_mem _ (lk_mem h')
theorem lk_of : ∀ {m : List (Int × Int)} {k v : Int}, (m.map (·.1)).Nodup → (k, v) ∈ m → lkI m k = some v
  | [], _, _, _, h => by cases h
  | p :: m, k, v, nd, h => by
    rw [List.map_cons, List.nodup_cons] at nd
    show (if p.1 = k then some p.2 else lkI m k) = some v
    rcases List.mem_cons.mp h with z | z
    · rw [← z, if_pos rfl]
    · rw [if_neg (fun e => nd.1 (by rw [e]; exact List.mem_map_of_mem (f := (·.1)) z)), lk_of nd.2 z]
theorem lk_none {m : List (Int × Int)} {k : Int} (h : k ∉ m.map (·.1)) : lkI m k = none := by
  cases e : lkI m k with
  | none => rfl
  | some v => exact absurd (List.mem_map_of_mem (f := (·.1)) (lk_mem e)) h
theorem lk_some {m : List (Int × Int)} {k : Int} (h : k ∈ m.map (·.1)) : ∃ v, lkI m k = some v := by
  cases e : lkI m k with
  | some v => exact ⟨v, rfl⟩
  | none =>
    exfalso
    induction m with
    | nil => cases h
    | cons p m ih =>
      have e' : (if p.1 = k then some p.2 else lkI m k) = none := e
      by_cases z : p.1 = k
      · rw [if_pos z] at e'; cases e'
      · rw [if_neg z] at e'
        rw [List.map_cons] at h
        rcases List.mem_cons.mp h with q | q
        · exact z q.symm
        · exact ih q e'
def ct (m : List (Int × Int)) (k : Int) : Int := (lkI m k).getD 0
section
variable {X : Cx}
theorem keys_ints {P : Program} {w : World} : ∀ {m : List (Int × Int)} {vs : List (Key × Value)} {us : List Value}, KV (dI m) vs → us.length = vs.length → (∀ (j : Nat) v, us[j]? = some v → ∃ k x, vs[j]? = some (k, x) ∧ (mixKind P w).is k v = true) → IntsAre us (m.map (·.1))
  | [], _, us, r, hl, h => by
    have r' : KV [] _ := r
    cases r'
    cases us with
    | nil => exact .nil
    | cons _ _ => cases hl
  | p :: m, vs, us, r, hl, h => by
    have r' : KV ((Sum.inl p.1, V.int p.2) :: dI m) vs := r
    cases r' with
    | cons r1 r2 =>
      rename_i q qs
      cases us with
      | nil => cases hl
      | cons u us =>
        obtain ⟨k, x, e1, e2⟩ := h 0 u rfl
        have e1' : q = (k, x) := Option.some.inj e1
        subst e1'
        have ek : (Sum.inl p.1 : Key) = k := r1.1
        subst ek
        rcases keyIs_shape (show keyIs (Sum.inl p.1) u = true from e2) with ⟨i, t, z1, z2⟩ | ⟨_, _, z, _⟩
        · have z1' : p.1 = i := Sum.inl.inj z1
          rw [z2, ← z1']
          exact .cons _ t (keys_ints (P := P) (w := w) r2 (Nat.succ.inj hl) fun j v e => h (j + 1) v e)
        · cases z
theorem sort_tail {A : Around} {E : Value → Shared → Prop} {prog : Program} {w : World} {s : Shared} {vs : List Value} {ns : List Int} {Q : Value → Shared → Prop} (hi : IntsAre vs ns) (h64 : vs.length < 64) (hz : vs.length ≤ sizeLine)
    (h : ∀ h' out ns' e, (∀ b o, s.heap.get? b = some o → h'.get? b = some o) → h'.get? s.heap.objs.size = some (seqObj "list" out e) → IntsAre out.toList ns' → ns'.Perm ns → ns'.Pairwise (· ≤ ·) → Q (.ref s.heap.objs.size) { s with heap := h' }) :
    wpAny (model prog w) A (do let l ← newList vs; let _ ← holding [l] (call (.builtin "list.sort") [l] []); ret l) (fun fin s' => ∃ v, fin = .done (.ret v) ∧ Q v s') E s := by
  refine wpAny_bind (wpAny_newList ?_ hz)
  have ho : (s.heap.push (seqObj "list" vs.toArray 0)).get? s.heap.objs.size = some (seqObj "list" vs.toArray 0) := Heap.get?_push_size _ rfl
  refine wpAny_bind (wpAny_holding (wpAny_call_entry slot_list_sort ⟨_, ho, rfl⟩ entry_list_sort (list_sort_tree ho hi h64 fun out ns' a1 a2 a3 => ⟨_, rfl, ?_⟩) (args_list_sort _)))
  obtain ⟨e, he⟩ := sortedHeap_at (out := out) ho
  refine wpAny_pure ⟨_, rfl, h _ out ns' e (fun b o q => ?_) he a1 a2 a3⟩
  have l := Heap.lt_size q
  rw [sortedHeap_old (Nat.ne_of_lt l) (by rw [size_push']; exact Nat.lt_succ_of_lt l)]
  exact Heap.get?_push_of_some _ q
theorem Inv.lay_ints {pins : List (Addr × Obj)} {σ : St} {H : Hp} {s : Shared} {h' : Heap} {out : Array Value} {ns : List Int} {e tk : Nat} (I : Inv X pins σ H s) (k : ∀ b o, s.heap.get? b = some o → h'.get? b = some o) (he : h'.get? s.heap.objs.size = some (seqObj "list" out e)) (hi : IntsAre out.toList ns) (hz : ns.length ≤ sizeLine) :
    Inv X pins σ (upd H s.heap.objs.size (.lst (ns.map V.int))) { s with heap := h', toks := tk } :=
  I.laid k (Nat.le_refl _) ⟨by rw [List.length_map]; exact hz, out.toList, e, vals_ints hi, he⟩
theorem call_sortedD (hc : X.calm = true) : CallR X (.builtin "sorted") (fun xs H Q => ∃ (d : Addr) (m : List (Int × Int)), xs = [.ref d] ∧ Rd H d (.dK (dI m)) ∧ m.length < 64 ∧ ∀ (l : Addr) (ns : List Int), H l = none → ns.Perm (m.map (·.1)) → ns.Pairwise (· ≤ ·) → Q (.ref l) (upd H l (.lst (ns.map V.int)))) := by
  intro pins s σ H xs us Q I r h
  obtain ⟨d, m, rfl, hd, hlen, q⟩ := h
  obtain ⟨u, rfl, rx⟩ := vals1 r
  cases rx
  obtain ⟨z, hS, vs, rel, dd⟩ := dk_rd I.hok hd
  obtain ⟨ep, hat⟩ := dd.dictAt
  have hl : vs.length = m.length := by rw [← rel.length, dI_len]
  refine GX.sorted_in (args_sorted1 _) (PySem.W.kdu_collect (A := X.A.in1) (PySem.W.kdl_dict (knd := mixKind X.prog X.w) (kvs := vs) (ep := ep) hS) (I.ok.hd hc) hat (by rw [hl]; exact Nat.le_of_lt (small1000 (by omega))) fun h' tk acc hk hacc => ?_)
  have hi : IntsAre acc.toList (m.map (·.1)) := keys_ints (P := X.prog) (w := X.w) rel (by rw [Array.length_toList]; exact hacc.1) fun j v e => hacc.2 j v (by rw [← Array.getElem?_toList]; exact e)
  have ha : acc.toList.length = m.length := by rw [hi.length, List.length_map]
  have I1 : Inv X pins σ H { s with heap := h', toks := tk } := I.kept hk
  refine sort_tail hi (by rw [ha]; exact hlen) (by rw [ha]; exact Nat.le_of_lt (small1000 (by omega))) fun h2 out ns' e k2 he a1 a2 a3 => ?_
  have ln : ns'.length ≤ sizeLine := by rw [a2.length_eq, List.length_map]; exact Nat.le_of_lt (small1000 (by omega))
  exact ⟨.ref h'.objs.size, _, I1.lay_ints (tk := tk) k2 he a1 ln, rfl, q _ ns' (I1.hok.fresh (Nat.le_refl _)) a2 a3⟩
def Pr (H : Hp) (x : V) (p : Int × Int) : Prop := ∃ a, x = .ref a ∧ H a = some (.tup [.int p.1, .int p.2])
abbrev Prs (H : Hp) : List V → List (Int × Int) → Prop := Paired (Pr H)
theorem Prs.mono {H H' : Hp} (h : ∀ a xs, H a = some (.tup xs) → H' a = some (.tup xs)) {xs : List V} {ps : List (Int × Int)} (r : Prs H xs ps) : Prs H' xs ps := Paired.mapP r fun _ _ ⟨a, e1, e2⟩ => ⟨a, e1, h a _ e2⟩
theorem Prs.snoc {H : Hp} {x : V} {p : Int × Int} : ∀ {xs : List V} {ps : List (Int × Int)}, Prs H xs ps → Pr H x p → Prs H (xs ++ [x]) (ps ++ [p])
  | _, _, .nil, h => .cons h .nil
  | _, _, .cons r t, h => .cons r (Prs.snoc t h)
theorem Prs.get {H : Hp} : ∀ {xs : List V} {ps : List (Int × Int)} {i : Nat} {x : V}, Prs H xs ps → xs[i]? = some x → ∃ p, ps[i]? = some p ∧ Pr H x p
  | _, _, _, _, .nil, e => by simp at e
  | _, _, 0, _, .cons r _, e => by simp at e; subst e; exact ⟨_, rfl, r⟩
  | _, _, i + 1, x, .cons _ t, e => by
    obtain ⟨p, h1, h2⟩ := Prs.get (i := i) (x := x) t (by simpa using e)
    exact ⟨p, by simpa using h1, h2⟩
theorem Prs.at {H : Hp} : ∀ {xs : List V} {ps : List (Int × Int)} {i : Nat} {p : Int × Int}, Prs H xs ps → ps[i]? = some p → ∃ x, xs[i]? = some x ∧ Pr H x p
  | _, _, _, _, .nil, e => by simp at e
  | _, _, 0, _, .cons r _, e => by simp at e; subst e; exact ⟨_, rfl, r⟩
  | _, _, i + 1, p, .cons _ t, e => by
    obtain ⟨x, h1, h2⟩ := Prs.at (i := i) (p := p) t (by simpa using e)
    exact ⟨x, by simpa using h1, h2⟩
theorem Prs.len {H : Hp} {xs : List V} {ps : List (Int × Int)} (r : Prs H xs ps) : xs.length = ps.length := Paired.length r
end
end L2
namespace L2
open PySem PySem.Spec PyProof.Rows
section
variable {X : Cx}
theorem hits_of {A : Around} {s : Shared} {n : List (Int × Int)} {ws : List (Key × Value)} (rn : KV (dI n) ws) : ∀ {m : List (Int × Int)} {vs : List (Key × Value)}, KV (dI m) vs → (∀ p ∈ m, lkI n p.1 = some p.2) → PySem.W.KeqHits A s ws vs true
  | [], _, r, _ => by
    have r' : KV [] _ := r
    cases r'
    exact .nil
  | p :: m, vs, r, h => by
    have r' : KV ((Sum.inl p.1, V.int p.2) :: dI m) vs := r
    cases r' with
    | cons r1 r2 =>
      rename_i q qs
      obtain ⟨k, v⟩ := q
      have ek : (Sum.inl p.1 : Key) = k := r1.1
      subst ek
      obtain ⟨t, ev⟩ := (show ∃ t, v = Value.int p.2 t from r1.2)
      subst ev
      have z := rn.val (Sum.inl p.1)
      rw [dI_val, h p List.mem_cons_self] at z
      obtain ⟨y, hy, ry⟩ := RelO.some_of z
      obtain ⟨t', ey⟩ := (show ∃ t, y = Value.int p.2 t from ry)
      subst ey
      have e := SeqAt.EqAt.int_int (A := A) (s := s) p.2 t p.2 t'
      have rest := hits_of (A := A) (s := s) rn r2 fun q hq => h q (List.mem_cons_of_mem _ hq)
      have := PySem.W.KeqHits.hit hy e rest
      rw [beq_self_eq_true, Bool.true_and] at this
      exact this
theorem merge_nd : ∀ (ps acc : List (Int × Int)), ((acc ++ ps).map (·.1)).Nodup → mergeK (dI acc) (dI ps) = dI (acc ++ ps)
  | [], acc, _ => by rw [List.append_nil]; rfl
  | p :: ps, acc, h => by
    show mergeK (putK (dI acc) (Sum.inl p.1) (V.int p.2)) (dI ps) = _
    have h1 : (acc.map (·.1)).Nodup := by
      rw [List.map_append] at h
      exact (List.nodup_append.mp h).1
    have h2 : (acc.any fun q => decide (q.1 = p.1)) = false := by
      rw [List.any_eq_false]
      intro q hq z
      have z' := of_decide_eq_true z
      rw [List.map_append, List.map_cons] at h
      exact (List.nodup_append.mp h).2.2 q.1 (List.mem_map_of_mem (f := (·.1)) hq) p.1 List.mem_cons_self z'
    rw [dI_put acc p.1 p.2 h1, put_new acc p.1 p.2 h2, merge_nd ps (acc ++ [(p.1, p.2)]) (by rw [List.append_assoc]; exact h), List.append_assoc]
    rfl
theorem pairs_kx {pins : List (Addr × Obj)} {σ : St} {H : Hp} {s : Shared} (I : Inv X pins σ H s) : ∀ {xs : List V} {us : List Value} {ps : List (Int × Int)}, Prs H xs ps → Vals xs us →
    ∃ kx : List (Key × Value), KV (dI ps) kx ∧ kx.length = us.length ∧ ∀ (i : Nat) v, us[i]? = some v → ∃ a key k x o c, v = .ref a ∧ kx[i]? = some (k, x) ∧ (mixKind X.prog X.w).is k key = true ∧ s.heap.get? a = some o ∧ o.cls = .type "tuple" ∧ o.data = .seq #[key, x] c
  | _, _, _, .nil, .nil => ⟨[], .nil, rfl, fun i v e => by simp at e⟩
  | x :: xs, u :: us, p :: ps, .cons h t, .cons r q => by
    obtain ⟨kx, k1, k2, k3⟩ := pairs_kx I t q
    obtain ⟨a, rfl, ha⟩ := h
    obtain rfl : u = Value.ref a := r
    obtain ⟨_, its, rv, o, ho, hc, n, hd, _⟩ : [V.int p.1, V.int p.2].length ≤ sizeLine ∧ ∃ its : List Value, Vals [V.int p.1, V.int p.2] its ∧ IsTpl s.heap a its.toArray := I.hok a _ ha
    obtain ⟨u1, u2, rfl, r1, r2⟩ := vals2 rv
    obtain ⟨t1, rfl⟩ := r1
    refine ⟨(Sum.inl p.1, u2) :: kx, .cons ⟨rfl, r2⟩ k1, congrArg (· + 1) k2, fun i v e => ?_⟩
    cases i with
    | zero =>
      have e' : Value.ref a = v := Option.some.inj e
      subst e'
      exact ⟨a, _, _, u2, o, n, rfl, rfl, mixKind_int X.prog X.w p.1 t1, ho, hc, hd⟩
    | succ i => exact k3 i v e
theorem call_dictP (hc : X.calm = true) : CallR X (.type "dict") (fun xs H Q => ∃ (a : Addr) (ys : List V) (ps : List (Int × Int)), xs = [.ref a] ∧ H a = some (.lst ys) ∧ Prs H ys ps ∧ (ps.map (·.1)).Nodup ∧ ps.length ≤ 1000 ∧ ∀ p, H p = none → Q (.ref p) (upd H p (.dK (dI ps)))) := by
  intro pins s σ H xs us Q I r h
  obtain ⟨a, ys, ps, rfl, ha, hp, nd, hl, q⟩ := h
  obtain ⟨u, rfl, rx⟩ := vals1 r
  cases rx
  obtain ⟨z, its, n, rv, hlen, e⟩ := I.lstM ha
  obtain ⟨kx, k1, k2, k3⟩ := pairs_kx I hp rv
  refine GX.dict_of_list (knd := mixKind X.prog X.w) (I.ok.hd hc) e (by rw [← hlen]; exact z) k2 k3 fun h' tk kp dd => ?_
  have rel : KV (dI ps) (merged [] kx) := by
    have := KV.merge k1 (show KV (dI []) [] from .nil)
    rw [merge_nd ps [] (by simpa using nd)] at this
    exact this
  refine ⟨.ref s.heap.objs.size, _, I.laid (t' := tk) kp (Nat.le_refl _) (dk_new ?_ (beq_eq_false_iff_ne.mpr (Ne.symm (Nat.ne_of_lt I.big))) rel dd), rfl, q _ (I.hok.fresh (Nat.le_refl _))⟩
  rw [dI_len]
  exact Nat.le_of_lt (small1000 hl)
def iSeq (K : PySem.W.Frag) (tl : TE) : TI := fun σ H R => tl σ H fun x H1 => ∃ a, x = .ref a ∧ (((∃ xs, SqL K H1 a xs) ∧ R (Itl K a) H1) ∨ ((∃ xs, SqT K H1 a xs) ∧ R (Itt K a) H1))
theorem pi_seq {tg l : Expr} {tl : TE} (hl : PE X l tl) : PI X tg l (iSeq X.K tl) := by
  intro pins s σ H R I h
  refine thn (hl pins s σ H _ I h) fun v s1 ⟨x, H1, I1, r1, q1⟩ => ?_
  obtain ⟨a, e, q1⟩ := q1
  subst e
  cases r1
  have fp : ∀ b ∈ [s1.heap.objs.size], FpOk X pins H1 b := fun b hb => by
    have e : b = s1.heap.objs.size := by simpa using hb
    subst e
    exact I1.fpOk (Nat.le_refl _) (I1.hok.fresh (Nat.le_refl _))
  rcases q1 with ⟨⟨xs, hq⟩, q⟩ | ⟨⟨xs, hq⟩, q⟩
  · obtain ⟨its, rv, p, hz⟩ := I1.list hq
    refine wpAny_pyIter_list p.isList ?_
    exact ⟨s1.heap.objs.size, [s1.heap.objs.size], _, _, H1, rfl, I1.kept (t' := s1.toks) fun b o e => Heap.get?_push_of_some _ e, turn_list a _, ⟨_, Heap.get?_push_size _ rfl, rfl, rfl⟩, fp, q⟩
  · obtain ⟨its, rv, p, hz⟩ := I1.tuple hq
    refine wpAny_pyIter_tuple (show s1.heap.IsTuple a its.toArray from p) ?_
    exact ⟨s1.heap.objs.size, [s1.heap.objs.size], _, _, H1, rfl, I1.kept (t' := s1.toks) fun b o e => Heap.get?_push_of_some _ e, turn_tuple a _, ⟨_, Heap.get?_push_size _ rfl, rfl, rfl⟩, fp, q⟩
end
theorem comp_tup {K : PySem.W.Frag} {a : Addr} {xs : List V} {g : TG} {tt : TT} {te : TE} {σ : St} {H : Hp} {D : Addr} {Qe : Hp → Prop} (Pv : Nat → St → Hp → Prop) (h0 : Pv 0 σ H) (hl : ∀ i σ H, i ≤ xs.length → Pv i σ H → SqT K H a xs)
    (hs : ∀ i x σ H, xs[i]? = some x → Pv i σ H → cTurn g tt te D (Pv (i + 1)) x σ H) (hd : ∀ σ H, Pv xs.length σ H → Qe H) :
    ∃ W : Nat → Nat → St → Hp → Prop, (∃ m, W 0 m σ H) ∧ ∀ i m σ' H', W i m σ' H' → ((Itt K a).stop i H' ∧ Qe H') ∨ ((Itt K a).go i H' ∧ ∃ N : St → Hp → Prop, (∀ σ2 H2, N σ2 H2 → ∃ m', m' < m ∧ W (i + 1) m' σ2 H2) ∧
      ∀ x H'', (Itt K a).yld i H' x H'' → cTurn g tt te D N x σ' H'') := by
  refine ⟨fun i m σ H => m = xs.length - i ∧ i ≤ xs.length ∧ Pv i σ H, ⟨xs.length, by simp, Nat.zero_le _, h0⟩, ?_⟩
  rintro i m σ H ⟨rfl, hi, p⟩
  have q := hl i σ H hi p
  by_cases hlt : i < xs.length
  · refine .inr ⟨⟨xs, xs[i], q, by simp [hlt]⟩, Pv (i + 1), fun σ' H' p' => ⟨xs.length - (i + 1), by omega, rfl, hlt, p'⟩, fun x H' y => ?_⟩
    obtain ⟨e, y⟩ := y
    subst e
    exact hs i x σ _ (y xs q) p
  · have e : i = xs.length := by omega
    subst e
    exact .inl ⟨⟨xs, q, Nat.le_refl _⟩, hd σ H p⟩
def Itm (d : Addr) (o : Obj) (kvs : List (Key × V)) : It :=
  ⟨fun i H => i < kvs.length ∧ H d = some (.frz o (.dK kvs)), fun i H x H' => ∃ k v a, kvs[i]? = some (k, v) ∧ H a = none ∧ x = .ref a ∧ H' = upd H a (.tup [kV k, v]), fun i H => kvs.length ≤ i ∧ H d = some (.frz o (.dK kvs))⟩
theorem key_rel {P : Program} {w : World} {k : Key} {u : Value} (h : (mixKind P w).is k u = true) : RelV (kV k) u := by
  rcases keyIs_shape (show keyIs k u = true from h) with ⟨i, t, rfl, rfl⟩ | ⟨x, t, rfl, rfl⟩
  · exact ⟨t, rfl⟩
  · exact ⟨t, rfl⟩
theorem KV.get {kvs : List (Key × V)} {vs : List (Key × Value)} : ∀ {i : Nat} {k : Key} {v : V}, KV kvs vs → kvs[i]? = some (k, v) → ∃ u, vs[i]? = some (k, u) ∧ RelV v u := by
  intro i k v r
  induction r generalizing i with
  | nil => intro e; simp at e
  | cons r1 r2 ih =>
    rename_i p q _ _
    intro e
    cases i with
    | zero =>
      have e' : p = (k, v) := Option.some.inj e
      subst e'
      obtain ⟨k', u⟩ := q
      have ek : k = k' := r1.1
      subst ek
      exact ⟨u, rfl, r1.2⟩
    | succ i => exact ih e
theorem Inv.turnLay {X : Cx} {pins : List (Addr × Obj)} {σ : St} {H : Hp} {s : Shared} {h' : Heap} {it a : Addr} {o : HO} (I : Inv X pins σ H s) (k : ∀ b o, b ≠ it → s.heap.get? b = some o → h'.get? b = some o) (hf : FpOk X pins H it) (hio : ∃ o, h'.get? it = some o) (ha : s.heap.objs.size ≤ a) (hai : a ≠ it)
    (new : ObjOk X.prog X.w (upd H a o) h' a o) : Inv X pins σ (upd H a o) { s with heap := h' } := by
  obtain ⟨f0, f1, f2, f3, f4, f5⟩ := hf
  have hn : H a = none := I.hok.fresh ha
  have nea : ∀ b ob, s.heap.get? b = some ob → b ≠ a := fun b ob e z => by
    have := Heap.lt_size e
    rw [z] at this
    exact absurd (Nat.lt_of_lt_of_le this ha) (Nat.lt_irrefl _)
  have nit : ∀ b u, H b = some u → b ≠ it := fun b u e z => by rw [z, f0] at e; cases e
  refine I.step (g' := s.gens) (d' := s.drawn) (t' := s.toks) (ch := [it]) (fun b hb => ?_) (fun b o _ _ hc e _ => k b o (fun z => hc (by simp [z])) e) (fun b o _ _ hc e _ => ⟨o.slots, k b o (fun z => hc (by simp [z])) e⟩) (fun b ob _ e n => by rw [upd_ne (nea b ob e)]; exact n)
    (fun b o hc e => ⟨o, k b o (fun z => hc (by simp [z])) e⟩) (fun b xs e => by rw [upd_ne (ne_of_none e hn)]; exact e) (fun b o u e => by rw [upd_ne (ne_of_none e hn)]; exact e) (fun b ps e => ⟨#[], by rw [upd_ne (ne_of_none e hn), e]; simp⟩) (fun m hm => ?_) (fun b u e => ?_) I.bare
  · have e : b = it := by simpa using hb
    subst e
    exact ⟨f3, f1, f4, f5⟩
  · obtain ⟨ob, es, ep, ho, r⟩ := hm
    exact ⟨ob, es, ep, k _ ob (Ne.symm f1) ho, r⟩
  · by_cases hb : b = a
    · subst hb
      rw [upd_same] at e
      cases e
      exact new
    · rw [upd_ne hb] at e
      refine (I.hok b u e).stay (fun c v hc q => k c v ?_ q) (fun c q => by rw [upd_ne (ne_of_none q hn)]; exact q) fun c xs q => by rw [upd_ne (ne_of_none q hn)]; exact q
      rcases hc with z | z
      · rw [z]; exact nit b u e
      · exact nit c _ z
theorem turn_items {P : Program} {w : World} {K : PySem.W.Frag} {elts : List Expr} {x1 : Nat} {tp : Pos} {d it : Addr} {o : Obj} {kvs : List (Key × V)} {vs : List (Key × Value)} {ep : Nat} (rel : KV kvs vs) (fz : ∀ h : Heap, h.get? d = some o → h.DictAt (mixKind P w) d vs ep) :
    Turn P w K (.Tuple elts x1 tp) (Itm d o kvs) [it] it (fun i h => ∃ ok ov, IsItemIter h it d i vs.length ep ok ov) where
  mem := by simp
  obj := fun i h st b hb => by
    have e : b = it := by simpa using hb
    subst e
    obtain ⟨ok, ov, e⟩ := st
    exact ⟨_, e, fun v z => by
      have z' : Data.fields _ = Data.cell v := z
      cases z'⟩
  keep := fun i h h' st k => let ⟨ok, ov, e⟩ := st; ⟨ok, ov, k it (by simp) _ e⟩
  item := by
    intro X hP hw hK hc i pins s σ H E I hf st hg
    subst hP hw hK
    obtain ⟨ok, ov, hit⟩ := st
    obtain ⟨hi, hd⟩ := hg
    have hdo : s.heap.get? d = some o := (show s.heap.get? d = some o ∧ _ from I.hok d _ hd).1
    have hx : kvs[i]? = some kvs[i] := List.getElem?_eq_getElem hi
    obtain ⟨u, hu, ru⟩ := rel.get (k := kvs[i].1) (v := kvs[i].2) hx
    refine wpAny_pyNext_items_item hit (fz _ hdo) hu fun key h' hkey hit' htup hsz kp => ?_
    have hai : s.heap.objs.size ≠ it := fun z => by
      have := Heap.lt_size hit
      rw [← z] at this
      exact Nat.lt_irrefl _ this
    have hfi := hf it (by simp)
    have I1 : Inv X pins σ (upd H s.heap.objs.size (.tup [kV kvs[i].1, kvs[i].2])) { s with heap := h' } :=
      I.turnLay kp hfi ⟨_, hit'⟩ (Nat.le_refl _) hai ⟨by show 2 ≤ sizeLine; decide, [key, u], .cons (key_rel hkey) (.cons ru .nil), _, htup, rfl, 0, rfl, rfl, rfl⟩
    refine ⟨_, rfl, wpAny_letOwnedTupleGo_items hit' fun h2 hit2 sb => ?_⟩
    obtain ⟨f0, f1, f2, f3, f4, f5⟩ := hfi
    have f0' : (upd H s.heap.objs.size (.tup [kV kvs[i].1, kvs[i].2])) it = none := by rw [upd_ne (Ne.symm hai)]; exact f0
    refine ⟨.ref s.heap.objs.size, _, I1.turned (t' := s.toks) (fun b o hb e => (sb.2 b hb).trans e) f0' f1 f3 f4 f5, rfl, ⟨_, _, _, hx, I.hok.fresh (Nat.le_refl _), rfl, rfl⟩, ⟨key, u, hit2⟩, fun b hb => ?_⟩
    have e : b = it := by simpa using hb
    rw [e]
    exact f0'
  done := by
    intro X hP hw hK hc i pins s σ H E I hf st hg
    subst hP hw hK
    obtain ⟨ok, ov, hit⟩ := st
    obtain ⟨hi, hd⟩ := hg
    have hdo : s.heap.get? d = some o := (show s.heap.get? d = some o ∧ _ from I.hok d _ hd).1
    obtain ⟨f0, f1, f2, f3, f4, f5⟩ := hf it (by simp)
    have hlen : kvs.length = vs.length := KV.length rel
    exact wpAny_pyNext_items_end (I.ok.hd hc) hit (fz _ hdo) (List.getElem?_eq_none (by omega)) fun h' eb => ⟨rfl, I.turned (t' := s.toks) (fun b o hb e => eb b o hb e) f0 f1 f3 f4 f5⟩
  self := fun _ _ _ _ _ ⟨ok, ov, st⟩ h => PySem.W.kcp_self st h
section
variable {X : Cx}
def iItems (td : TE) : TI := fun σ H R => td σ H fun x H1 => ∃ d kvs, x = .ref d ∧ H1 d = some (.dK kvs) ∧ ∀ o, R (Itm d o kvs) (upd H1 d (.frz o (.dK kvs)))
theorem pi_items {e : Expr} {apos cpos tp : Pos} {elts : List Expr} {x1 : Nat} {td : TE} (he : PE X e td) (hbase : attributeBase e "items" X.env (eval e X.env) = eval e X.env := by rfl) (hline : (apos.endLine == cpos.line) = true := by rfl) :
    PI X (.Tuple elts x1 tp) (.Call (.Attribute e "items" apos) [] [] cpos) (iItems td) := by
  intro pins s σ H R I h
  refine wpAny_Call_method0_late hbase hline (thn (he pins s σ H _ I h) fun v s1 ⟨x, H1, I1, r1, d, kvs, ex, hd, q⟩ => ?_)
  subst ex
  obtain rfl : v = Value.ref d := r1
  obtain ⟨z, hS, vs, rel, dd⟩ := dk_of I1.hok hd
  obtain ⟨h1, h2⟩ := tyV_is (T := "dict") I1 (x := .ref d) rfl (.inr (.inr (.inl ⟨rfl, .inl ⟨kvs, hd⟩⟩)))
  refine ⟨"dict", "dict.items", PySem.F.plainAttrs_dict, PySem.F.slot_dict_items, PySem.F.type_dict_items, h1, h2, Calls.callWith_builtin rfl (PySem.evalArgs_none ?_)⟩
  refine call_meetsIn PySem.F.slot_dict_items h1 PySem.F.entry_dict_items (PySem.F.args_dict_items_1 _) (meets_dict_items (mixKind X.prog X.w) d hS) ⟨⟨vs, dd⟩, ?_⟩
  have dd' : (s1.heap.push { cls := .type "dict_items", data := .fields #[.ref d] }).DictOf (mixKind X.prog X.w) d vs := dd.push _
  obtain ⟨o, es, ep, ho, rr⟩ := id dd'
  have fz : ∀ h : Heap, h.get? d = some o → h.DictAt (mixKind X.prog X.w) d vs ep := fun h hh => ⟨o, es, hh, rr⟩
  have I2 : Inv X pins σ H1 { s1 with heap := s1.heap.push { cls := .type "dict_items", data := .fields #[.ref d] } } := I1.kept (t' := s1.toks) fun b ob e => Heap.get?_push_of_some _ e
  have hv : (s1.heap.push { cls := .type "dict_items", data := .fields #[.ref d] }).IsItemsView s1.heap.objs.size d := ⟨_, Heap.get?_push_size _ rfl, rfl, rfl⟩
  show wpAny _ _ (pyIter (.ref s1.heap.objs.size)) _ _ _
  refine wpAny_pyIter_items hv (fz _ ho) ?_
  have I3 : Inv X pins σ (upd H1 d (.frz o (.dK kvs))) { s1 with heap := s1.heap.push { cls := .type "dict_items", data := .fields #[.ref d] } } :=
    I2.write (t' := s1.toks) (x := d) (e := d) (by rw [hd]; trivial) (.inl rfl) (fun _ _ _ e => e) ⟨o, ho⟩ ⟨ho, z, hS, vs, rel, dd'⟩
  refine ⟨_, [_], _, Itm d o kvs, upd H1 d (.frz o (.dK kvs)), rfl, I3.kept (t' := s1.toks) fun b ob e => Heap.get?_push_of_some _ e, turn_items rel fz, ⟨.none, .none, Heap.get?_push_size _ rfl⟩, fun b hb => ?_, q o⟩
  have eb : b = (s1.heap.push { cls := .type "dict_items", data := .fields #[.ref d] }).objs.size := by simpa using hb
  subst eb
  exact I3.fpOk (Nat.le_refl _) (I3.hok.fresh (Nat.le_refl _))
end
theorem for_items {d : Addr} {o : Obj} {kvs : List (Key × V)} {g : TG} {tb : TS} {D : Ends} {σ : St} {H : Hp} (Pv : Nat → St → Hp → Prop) (h0 : Pv 0 σ H) (hl : ∀ i σ H, i ≤ kvs.length → Pv i σ H → H d = some (.frz o (.dK kvs)))
    (hs : ∀ i k v a σ H, kvs[i]? = some (k, v) → H a = none → Pv i σ H → g (.ref a) σ (upd H a (.tup [kV k, v])) fun σ2 H2 => tb { D with nx := Pv (i + 1), ct := Pv (i + 1), bk := D.nx } σ2 H2) (hd : ∀ σ H, Pv kvs.length σ H → D.nx σ H) :
    ∃ W : Nat → Nat → St → Hp → Prop, (∃ m, W 0 m σ H) ∧ ∀ i m σ H, W i m σ H →
      ((Itm d o kvs).stop i H ∧ D.nx σ H) ∨ ((Itm d o kvs).go i H ∧ ∃ N : St → Hp → Prop, (∀ σ' H', N σ' H' → ∃ m', m' < m ∧ W (i + 1) m' σ' H') ∧ ∀ x H', (Itm d o kvs).yld i H x H' → g x σ H' fun σ2 H2 => tb { D with nx := N, ct := N, bk := D.nx } σ2 H2) := by
  refine ⟨fun i m σ H => m = kvs.length - i ∧ i ≤ kvs.length ∧ Pv i σ H, ⟨kvs.length, by simp, Nat.zero_le _, h0⟩, ?_⟩
  rintro i m σ H ⟨rfl, hi, p⟩
  have q := hl i σ H hi p
  by_cases hlt : i < kvs.length
  · refine .inr ⟨⟨hlt, q⟩, Pv (i + 1), fun σ' H' p' => ⟨kvs.length - (i + 1), by omega, rfl, hlt, p'⟩, fun x H' y => ?_⟩
    obtain ⟨k, v, a, e1, e2, e3, e4⟩ := y
    subst e3 e4
    exact hs i k v a σ H e1 e2 p
  · have e : i = kvs.length := by omega
    subst e
    exact .inl ⟨⟨Nat.le_refl _, q⟩, hd σ H p⟩
end L2
set_option Elab.async false
set_option linter.all false
set_option maxRecDepth 100000
namespace GX
open PySem PyProof.Rows
def Ris (xs : Array Nat) : Prop := xs.toList.Pairwise (· < ·)
theorem Ris.at {xs : Array Nat} (h : Ris xs) {i j : Nat} (hi : i < j) (hj : j < xs.size) : xs.getD i 0 < xs.getD j 0 := by
  have := List.pairwise_iff_getElem.mp h i j (by simp; omega) (by simpa using hj) hi
  simp only [Array.getElem_toList] at this
  rw [Array.getD_eq_getD_getElem?, Array.getD_eq_getD_getElem?, Array.getElem?_eq_getElem (by omega), Array.getElem?_eq_getElem hj]
  exact this
theorem getD_any {xs : Array Nat} {i : Nat} (h : i < xs.size) (a b : Nat) : xs.getD i a = xs.getD i b := by
  rw [Array.getD_eq_getD_getElem?, Array.getD_eq_getD_getElem?, Array.getElem?_eq_getElem h]
  rfl
theorem below_go {xs : Array Nat} (hr : Ris xs) (j : Nat) : ∀ (fuel lo hi : Nat), lo ≤ hi → hi ≤ xs.size → hi - lo ≤ fuel → (∀ i, i < lo → xs.getD i 0 < j) → (∀ i, hi ≤ i → i < xs.size → j ≤ xs.getD i 0) →
    SetTable.below.go xs j fuel lo hi ≤ xs.size ∧ (∀ i, i < SetTable.below.go xs j fuel lo hi → xs.getD i 0 < j) ∧ (∀ i, SetTable.below.go xs j fuel lo hi ≤ i → i < xs.size → j ≤ xs.getD i 0)
  | 0, lo, hi, h1, h2, h3, h4, h5 => by
    have e : lo = hi := by omega
    subst e
    unfold SetTable.below.go
    exact ⟨h2, h4, h5⟩
  | fuel + 1, lo, hi, h1, h2, h3, h4, h5 => by
    unfold SetTable.below.go
    by_cases h : lo < hi
    · rw [if_pos h]
      have hm : (lo + hi) / 2 < xs.size := by omega
      show (if xs.getD ((lo + hi) / 2) j < j then SetTable.below.go xs j fuel ((lo + hi) / 2 + 1) hi else SetTable.below.go xs j fuel lo ((lo + hi) / 2)) ≤ _ ∧ _
      by_cases hc : xs.getD ((lo + hi) / 2) j < j
      · simp only [if_pos hc]
        rw [getD_any hm j 0] at hc
        refine below_go hr j fuel _ hi (by omega) h2 (by omega) (fun i hi' => ?_) h5
        rcases Nat.lt_or_ge i ((lo + hi) / 2) with z | z
        · have := hr.at z hm
          omega
        · have : i = (lo + hi) / 2 := by omega
          rw [this]
          exact hc
      · simp only [if_neg hc]
        rw [getD_any hm j 0] at hc
        refine below_go hr j fuel lo _ (by omega) (by omega) (by omega) h4 (fun i hi' hs => ?_)
        rcases Nat.lt_or_ge ((lo + hi) / 2) i with z | z
        · have := hr.at z hs
          omega
        · have : i = (lo + hi) / 2 := by omega
          rw [this]
          omega
    · rw [if_neg h]
      have e : lo = hi := by omega
      subst e
      exact ⟨h2, h4, h5⟩
theorem below_ok {xs : Array Nat} (hr : Ris xs) (j : Nat) : SetTable.below xs j ≤ xs.size ∧ (∀ i, i < SetTable.below xs j → xs.getD i 0 < j) ∧ (∀ i, SetTable.below xs j ≤ i → i < xs.size → j ≤ xs.getD i 0) := by
  unfold SetTable.below
  exact below_go hr j _ 0 _ (Nat.zero_le _) (Nat.le_refl _) (by omega) (fun i h => by omega) (fun i h1 h2 => by omega)
theorem below_next {xs : Array Nat} (hr : Ris xs) {i : Nat} (hi : i < xs.size) : SetTable.below xs (xs.getD i 0 + 1) = i + 1 := by
  obtain ⟨h1, h2, h3⟩ := below_ok hr (xs.getD i 0 + 1)
  rcases Nat.lt_trichotomy (SetTable.below xs (xs.getD i 0 + 1)) (i + 1) with z | z | z
  · have := h3 i (by omega) hi
    omega
  · exact z
  · have q := h2 (i + 1) z
    have := hr.at (i := i) (j := i + 1) (by omega) (by omega)
    omega
theorem below_zero {xs : Array Nat} (hr : Ris xs) : SetTable.below xs 0 = 0 := by
  obtain ⟨h1, h2, h3⟩ := below_ok hr 0
  rcases Nat.eq_zero_or_pos (SetTable.below xs 0) with z | z
  · exact z
  · have := h2 0 z
    omega
def Off (xs : Array Nat) (d : Nat) : Prop := xs[SetTable.below xs d]? ≠ some d
theorem Off.no {xs : Array Nat} (hr : Ris xs) {d : Nat} (h : Off xs d) : ∀ i, i < xs.size → xs.getD i 0 ≠ d := by
  intro i hi e
  obtain ⟨h1, h2, h3⟩ := below_ok hr d
  have b1 : SetTable.below xs d ≤ i := by
    rcases Nat.lt_or_ge i (SetTable.below xs d) with z | z
    · have := h2 i z
      omega
    · exact z
  have b2 : SetTable.below xs d = i := by
    rcases Nat.lt_or_ge (SetTable.below xs d) i with z | z
    · have := hr.at z hi
      have := h3 (SetTable.below xs d) (Nat.le_refl _) (by omega)
      omega
    · omega
  apply h
  rw [b2, Array.getElem?_eq_getElem hi]
  rw [Array.getD_eq_getD_getElem?, Array.getElem?_eq_getElem hi] at e
  exact congrArg some e
theorem slot_off {t : SetTable} {j : Nat} (h : ∀ i, t.slot j ≠ .live i) : Off t.place j := by
  intro z
  apply h (SetTable.below t.place j)
  unfold SetTable.slot
  simp only [z, beq_self_eq_true, if_true]
theorem adv_dummy (t : SetTable) (p : SetTable.Probe) : (t.advance p).dummy = p.dummy := by
  unfold SetTable.advance
  split <;> rfl
theorem probe_off {t : SetTable} {f : Nat → Int} {h : Int} : ∀ (fuel : Nat) (p : SetTable.Probe) (j : Nat) (dm : Option Nat), (∀ d, p.dummy = some d → Off t.place d) → SetTable.probe.go t f h fuel p = some (.empty j dm) → Off t.place j ∧ ∀ d, dm = some d → Off t.place d
  | 0, p, j, dm, hp, e => by
    unfold SetTable.probe.go at e
    cases e
  | fuel + 1, p, j, dm, hp, e => by
    unfold SetTable.probe.go at e
    cases hs : t.slot p.j with
    | empty =>
      rw [hs] at e
      dsimp only at e
      cases e
      exact ⟨slot_off (fun i z => by rw [hs] at z; cases z), hp⟩
    | dummy =>
      rw [hs] at e
      dsimp only at e
      refine probe_off fuel _ j dm (fun d hd => ?_) e
      rw [adv_dummy] at hd
      cases hd
      exact slot_off (fun i z => by rw [hs] at z; cases z)
    | live i =>
      rw [hs] at e
      dsimp only at e
      split at e
      · cases e
      · exact probe_off fuel _ j dm (fun d hd => hp d (by rw [adv_dummy] at hd; exact hd)) e
theorem free_off {t : SetTable} {h : Int} {sl : Nat} {b : Bool} (e : t.freeSlot h = some (sl, b)) : Off t.place sl := by
  unfold SetTable.freeSlot SetTable.probe at e
  generalize hg : SetTable.probe.go t (fun _ => h + 1) h (10 * SetTable.turns t.mask) (t.probeStart h) = g at e
  cases g with
  | none => cases e
  | some m =>
    cases m with
    | candidate j i n => cases e
    | empty j dm =>
      obtain ⟨h1, h2⟩ := probe_off _ _ j dm (fun d hd => by cases hd) hg
      dsimp only at e
      have e' := Option.some.inj e
      cases dm with
      | none =>
        have : j = sl := congrArg Prod.fst e'
        rw [← this]
        exact h1
      | some d =>
        have : d = sl := congrArg Prod.fst e'
        rw [← this]
        exact h2 d rfl
theorem mem_getD {xs : Array Nat} {x : Nat} {p : Nat} (h : x ∈ xs.toList.take p) : ∃ i, i < p ∧ i < xs.size ∧ xs.getD i 0 = x := by
  obtain ⟨i, hi, e⟩ := List.getElem_of_mem h
  rw [List.length_take, Array.length_toList] at hi
  refine ⟨i, by omega, by omega, ?_⟩
  rw [List.getElem_take, Array.getElem_toList] at e
  rw [Array.getD_eq_getD_getElem?, Array.getElem?_eq_getElem (by omega)]
  exact e
theorem mem_getD' {xs : Array Nat} {x : Nat} {p : Nat} (h : x ∈ xs.toList.drop p) : ∃ i, p ≤ i ∧ i < xs.size ∧ xs.getD i 0 = x := by
  obtain ⟨i, hi, e⟩ := List.getElem_of_mem h
  rw [List.length_drop, Array.length_toList] at hi
  refine ⟨p + i, by omega, by omega, ?_⟩
  rw [List.getElem_drop, Array.getElem_toList] at e
  rw [Array.getD_eq_getD_getElem?, Array.getElem?_eq_getElem (by omega)]
  exact e
theorem put_ris {t : SetTable} {sl : Nat} (hr : Ris t.place) (ho : Off t.place sl) : Ris (t.put sl).1.place := by
  obtain ⟨h1, h2, h3⟩ := below_ok hr sl
  show (SetTable.insertAt t.place (SetTable.below t.place sl) sl).toList.Pairwise (· < ·)
  rw [SetTable.toList_insertAt, List.pairwise_append]
  refine ⟨hr.sublist (List.take_sublist _ _), ?_, ?_⟩
  · rw [List.pairwise_cons]
    refine ⟨fun x hx => ?_, hr.sublist (List.drop_sublist _ _)⟩
    obtain ⟨i, a, b, c⟩ := mem_getD' hx
    have q1 := h3 i a b
    have q2 := ho.no hr i b
    omega
  · intro x hx y hy
    obtain ⟨i, a, b, c⟩ := mem_getD hx
    have q1 := h2 i a
    rcases List.mem_cons.mp hy with z | z
    · omega
    · obtain ⟨i', a', b', c'⟩ := mem_getD' z
      have q2 := h3 i' a' b'
      omega
theorem stand_ris (t : SetTable) (n : Nat) : Ris (t.standIn n).place := by
  show (Array.range n).toList.Pairwise (· < ·)
  rw [Array.toList_range]
  exact List.pairwise_lt_range
def Tb (b : Bool) (t : SetTable) : Prop := Ris t.place ∧ t.led = b
theorem lay_tb {b : Bool} {t : SetTable} (h : Tb b t) (es : Array (Int × Value)) (k : Int) (x : Value) : Tb b (layNew t es k x).2.1 := by
  unfold layNew
  split
  · rename_i sl wd e
    dsimp only
    unfold SetTable.orStandIn
    split
    · exact ⟨put_ris h.1 (free_off e), h.2⟩
    · exact ⟨stand_ris _ _, h.2⟩
  · exact ⟨stand_ris _ _, h.2⟩
theorem relaid_tb {b : Bool} {t t' : SetTable} {hs : Array Int} {n : Nat} {o : Array Nat} (h : Tb b t) (e : t.relaid hs n = some (t', o)) : Tb b t' := by
  unfold SetTable.relaid SetTable.laid at e
  cases hc : SetTable.layClean (SetTable.sizeAbove n - 1) hs with
  | none => rw [hc] at e; cases e
  | some ow =>
    rw [hc] at e
    have e' := Option.some.inj e
    have e1 := congrArg Prod.fst e'
    dsimp only at e1
    rw [← e1]
    refine ⟨?_, h.2⟩
    show List.Pairwise _ (Array.toList (List.toArray _))
    rw [List.toList_toArray, List.map_filterMap]
    refine List.Pairwise.filterMap (R := (· < ·)) _ (fun x y hxy a ha c hc => ?_) List.pairwise_lt_range
    simp only [Option.map_map, Option.mem_def, Option.map_eq_some_iff] at ha hc
    obtain ⟨_, _, rfl⟩ := ha
    obtain ⟨_, _, rfl⟩ := hc
    exact hxy
theorem relay_tb {b : Bool} {t : SetTable} (h : Tb b t) (es : Array (Int × Value)) (n : Nat) : Tb b (relayAll t es n).2.1 := by
  unfold relayAll
  split
  · rename_i t' o e
    dsimp only
    split
    · exact relaid_tb h e
    · exact ⟨stand_ris _ _, h.2⟩
  · exact ⟨stand_ris _ _, h.2⟩
end GX
set_option Elab.async false
set_option linter.all false
set_option maxRecDepth 100000
namespace GX
open PySem PyProof.Rows
abbrev byT (w : World) : Bool := w.params.followText "set-order"
section
variable {prog : Program} {w : World} {A : Around} {E : Value → Shared → Prop} {s : Shared}
def SetI (prog : Program) (w : World) (h : Heap) (a : Addr) (S : Int → Bool) (n : Nat) : Prop :=
  ∃ o es ep t, h.get? a = some o ∧ o.ExactSet ∧ o.data = .set es ep t ∧ ElemsOf (intKind prog w) es.toList ∧ (∀ k, S k = true ↔ ∃ e ∈ es.toList, (intKind prog w).is k e.2 = true) ∧ es.size < scanBound ∧ t.fits es.size = true ∧ es.size = n ∧ Tb (!byT w) t
theorem SetI.at {h h' : Heap} {a : Addr} {S : Int → Bool} {n : Nat} (x : SetI prog w h a S n) (k : ∀ o, h.get? a = some o → h'.get? a = some o) : SetI prog w h' a S n := by
  obtain ⟨o, es, ep, t, ho, r⟩ := x
  exact ⟨o, es, ep, t, k o ho, r⟩
theorem SetI.congr {h : Heap} {a : Addr} {S S' : Int → Bool} {n n' : Nat} (x : SetI prog w h a S n) (e : ∀ k, S k = S' k) (en : n = n') : SetI prog w h a S' n' := by
  have z : S = S' := funext e
  rw [← z, ← en]
  exact x
def GoodS (prog : Program) (w : World) (es : Array (Int × Value)) (t : SetTable) (S : Int → Bool) (n : Nat) : Prop :=
  ElemsOf (intKind prog w) es.toList ∧ (∀ k, S k = true ↔ ∃ e ∈ es.toList, (intKind prog w).is k e.2 = true) ∧ es.size < scanBound ∧ t.fits es.size = true ∧ es.size = n ∧ Tb (!byT w) t
def RawS (h : Heap) (a : Addr) (es : Array (Int × Value)) (t : SetTable) : Prop := ∃ o ep, h.get? a = some o ∧ o.ExactSet ∧ o.data = .set es ep t
theorem RawS.good {h : Heap} {a : Addr} {es : Array (Int × Value)} {t : SetTable} {S : Int → Bool} {n : Nat} (r : RawS h a es t) (g : GoodS prog w es t S n) : SetI prog w h a S n := by
  obtain ⟨o, ep, r1, r2, r3⟩ := r
  exact ⟨o, es, ep, t, r1, r2, r3, g⟩
theorem RawS.put {a : Addr} {es es' : Array (Int × Value)} {t t' : SetTable} {Q : Unit → Shared → Prop} (r : RawS s.heap a es t) (hz : es'.size < scanBound) (h : ∀ h', Heap.SameBut a s.heap h' → RawS h' a es' t' → Q () { s with heap := h' }) :
    wpAny (model prog w) A (storeSet a es' t') Q E s := by
  obtain ⟨⟨c, d, b, sl⟩, ep, ho, hx, hd⟩ := r
  cases hd
  exact wpAny_storeSet_of ho rfl (h _ (Heap.SameBut.update ..) ⟨_, ep + 1, Heap.get?_update_self _ ho rfl, hx, rfl⟩) (fits_of_scanBound hz)
theorem GoodS.mix {es es' : Array (Int × Value)} {t t' : SetTable} {S : Int → Bool} {n : Nat} (g : GoodS prog w es t S n) (p : List.Perm es'.toList es.toList) (f : t'.fits es'.size = true) (b : Tb (!byT w) t') : GoodS prog w es' t' S n := by
  obtain ⟨g1, g2, g3, _, g5, _⟩ := g
  have z : es'.size = es.size := by simpa using p.length_eq
  exact ⟨g1.perm p, fun k => (g2 k).trans ⟨fun ⟨e, u, v⟩ => ⟨e, p.mem_iff.mpr u, v⟩, fun ⟨e, u, v⟩ => ⟨e, p.mem_iff.mp u, v⟩⟩, z ▸ g3, f, z.trans g5, b⟩
theorem GoodS.relaid {es : Array (Int × Value)} {t : SetTable} {S : Int → Bool} {n : Nat} (g : GoodS prog w es t S n) (m : Nat) : GoodS prog w (relayAll t es m).1 (relayAll t es m).2.1 S n :=
  g.mix (relayAll_perm t es m) (relayAll_fits t es m) (relay_tb g.2.2.2.2.2 es m)
theorem GoodS.more {es : Array (Int × Value)} {t : SetTable} {S : Int → Bool} {n : Nat} {k : Int} {x : Value} (g : GoodS prog w es t S n) (hk : (intKind prog w).is k x = true) (hx : x.scannable = true) (room : n + 1 < scanBound) :
    GoodS prog w (layNew t es ((intKind prog w).hash k) x).1 (layNew t es ((intKind prog w).hash k) x).2.1 (fun k' => S k' || decide (k' = k)) (n + 1) := by
  obtain ⟨g1, g2, g3, _, g5, g6⟩ := g
  have p : List.Perm _ (es.push ((intKind prog w).hash k, x)).toList := layNew_perm t es ((intKind prog w).hash k) x
  rw [Array.toList_push] at p
  have z : (layNew t es ((intKind prog w).hash k) x).1.size = n + 1 := by simpa [g5] using p.length_eq
  exact ⟨(g1.push hk hx).perm p, mem_push_iff hk g2 p, z ▸ room, layNew_fits t es _ x, z, lay_tb g6 es _ x⟩
theorem gave_way {b : Bool} {Q : Unit → Shared → Prop} (q : Q () s) : wpAny (model prog w) A (match b with | true => rule "set.scan.the-table-gave-way" | false => pure ()) Q E s := by
  cases b
  · exact wpAny_pure q
  · exact wpAny_rule q
theorem set_add {a : Addr} {S : Int → Bool} {n : Nat} {k : Int} {u : Tok} {Q : Bool → Shared → Prop} (x : SetI prog w s.heap a S n) (room : n + 1 < scanBound)
    (h : ∀ h' b, Heap.SameBut a s.heap h' → SetI prog w h' a (fun k' => S k' || decide (k' = k)) (if S k then n else n + 1) → Q b { s with heap := h' }) :
    wpAny (model prog w) A (setAddHashed a (.int k u) ((intKind prog w).hash k)) Q E s := by
  obtain ⟨o, es, ep, t, ho, hx, hd, g⟩ := x
  have g0 : GoodS prog w es t S n := g
  obtain ⟨he, hm, hb, hf, hn, tb⟩ := g
  have hk : (intKind prog w).is k (.int k u) = true := intKind_is _ _ _ _
  rw [setAddHashed, setAddHashedIn]
  apply wpAny_holding
  apply wpAny_bind
  apply wpAny_setState_of ho hd hf
  dsimp only
  rw [byScan_of rfl hb he, if_pos rfl]
  wp_walk using wpAny_setScan_of hk ho hd hf he
  cases hr : List.findIdx? (fun e => (intKind prog w).is k e.2) es.toList with
  | some j =>
    obtain ⟨lt, is, _⟩ := List.findIdx?_eq_some_iff_getElem.mp hr
    have sk : S k = true := (hm k).mpr ⟨_, List.getElem_mem lt, is⟩
    wp_walk
    refine h s.heap false (.refl a _) (RawS.good ⟨o, ep, ho, hx, hd⟩ ?_)
    rw [if_pos sk, show (fun k' => S k' || decide (k' = k)) = S from funext fun k' => ?_]
    · exact g0
    · by_cases e : k' = k
      · rw [e, sk]; rfl
      · rw [decide_eq_false e, Bool.or_false]
  | none =>
    have sk : ¬ S k = true := fun z => by
      obtain ⟨e, u, v⟩ := (hm k).mp z
      exact absurd v (by simpa using List.findIdx?_eq_none_iff.mp hr e u)
    have g1 := g0.more hk rfl room
    rw [if_neg sk] at h
    dsimp only
    generalize layNew t es ((intKind prog w).hash k) (.int k u) = L at g1 ⊢
    obtain ⟨es1, t1, wd, gv⟩ := L
    refine wpAny_bind (gave_way ?_)
    dsimp only
    rw [hashByValue_scannable 8 (x := .int k u) rfl]
    split
    all_goals
      refine wpAny_bind (wpAny_pure ?_)
      rw [if_pos (by rfl)]
      refine wpAny_bind (RawS.put ⟨o, ep, ho, hx, hd⟩ g1.2.2.1 fun h1 s1 r1 => ?_)
      split
      · have g2 := g1.relaid (SetTable.grown es1.size)
        refine wpAny_bind (gave_way (wpAny_bind (RawS.put (s := { s with heap := h1 }) r1 g2.2.2.1 fun h2 s2 r2 => ?_)))
        wp_walk
        exact h h2 true (s1.trans s2) (r2.good g2)
      · wp_walk
        exact h h1 true s1 (r1.good g1)
theorem turn_set (S I : Addr) : MeetsIn prog w (Builtin.«set.update.loop» ⟨[.ref S, .ref I], []⟩) fun A R s => wpAny (model prog w) A.in1 (pyNext (.ref I)) (fun r s => match r with
    | none => R (.ok (.ret .none)) s
    | some v => wpAny (model prog w) A.in1 (setAdd S v) (fun _ s => codeAny (model prog w) A (.builtin "set.update.loop" ⟨[.ref S, .ref I], []⟩) R s) (fun _ _ => False) s) (fun _ _ => False) s := by
  intro A R s nx
  show wpAny _ _ (pyNext (.ref I) >>= _) _ _ s
  apply wpAny_bind
  refine wpAny_mono nx (fun r s1 h => ?_) fun _ _ z => z.elim
  rcases r with _ | v
  · wp_walk
    exact h
  · wp_walk using wpAny_mono h
    · exact fun _ _ e => wpAny_pure ⟨plainId_quiet PyProof.Rows.F.plain_set_update_loop _, e⟩
    · exact fun _ _ z => z.elim
theorem set_loop {R : Result → Shared → Prop} {I S : Addr} {fp wr : List Addr} {n : Nat} {P : Nat → Value → Prop} {St : Nat → Heap → Prop} (W : Walks prog w A.in1 I fp wr n P St) (nS : S ∉ fp) (val : Nat → Int) (hv : ∀ i v, P i v → ∃ t, v = .int (val i) t) (hb : n + 1 < scanBound) :
    ∀ (k i : Nat) (s : Shared), n = i + k → St i s.heap → SetI prog w s.heap S (fun k' => (firstMet val i).any (· == k')) (firstMet val i).length →
      (∀ h' tk, (∀ b o, b ∉ wr → b ≠ S → s.heap.get? b = some o → h'.get? b = some o) → SetI prog w h' S (fun k' => (firstMet val n).any (· == k')) (firstMet val n).length → R (.ok (.ret .none)) { s with heap := h', toks := tk }) →
      codeAny (model prog w) A (.builtin "set.update.loop" ⟨[.ref S, .ref I], []⟩) R s := by
  have nW : S ∉ wr := fun z => nS (W.sub _ z)
  intro k
  induction k with
  | zero =>
    intro i s en st x fin
    obtain rfl : n = i := en
    exact enter PyProof.Rows.F.entry_set_update_loop PyProof.Rows.F.plain_set_update_loop (turn_set S I) (W.done s _ _ st fun h tk kp => fin h tk (fun b o nb _ e => kp b o nb e) (x.at fun o e => kp S o nW e))
  | succ k ih =>
    intro i s en st x fin
    refine enter PyProof.Rows.F.entry_set_update_loop PyProof.Rows.F.plain_set_update_loop (turn_set S I) (W.item i s _ _ (by omega) st fun v h tk pv st1 kp => ?_)
    obtain ⟨t, rfl⟩ := hv i v pv
    have len := firstMet_length_le val i
    show wpAny _ _ (setAdd S (.int (val i) t)) _ _ _
    unfold setAdd
    refine wpAny_holding (wpAny_bind ((intKind prog w).pyHash (k := val i) (intKind_is _ _ _ _) (set_add (s := { s with heap := h, toks := tk + 1 }) (x.at fun o e => kp S o nW e) (by omega) fun h2 b sb x2 => ?_)))
    refine ih (i + 1) { s with heap := h2, toks := tk + 1 } (by omega) (W.frame _ _ _ st1 fun b hb o e => (sb.2 b fun z => nS (z ▸ hb)).trans e) (x2.congr (fun k' => ?_) ?_) fun h3 tk3 k3 x3 => fin h3 tk3 (fun b o nb nb' e => k3 b o nb nb' ((sb.2 b nb').trans (kp b o nb e))) x3
    · rw [firstMet_succ, step_any]
    · rw [firstMet_succ, step_length]
theorem set_new (a : Value) {Q1 : Value → Shared → Prop} (h : Q1 (.ref s.heap.objs.size) { s with heap := s.heap.push { cls := .type "set", dict := none, data := .set #[] 0 (.fresh 0 0 (!byT w)) } }) :
    codeAny (model prog w) A (.call (.builtin "set.__new__") ⟨[.type "set", a], []⟩) (wants Q1 E) s := by
  refine codeAny_call_builtin PySem.F.plain_set_new PySem.F.entry_set_new (wpAny_of_eq (PySem.F.newCall_set_1 a) ?_)
  have sub := sub_set_self
  obtain ⟨hp, g, d, tk, os⟩ := s
  wp_walk using wpAny_askSetting
  exact h
theorem type_called {T newId initId : String} {args : List Value} {Q Q1 : Value → Shared → Prop} (ft : TypeCalled T newId initId) (ct : checkTypeCall T ⟨args, []⟩ = pure ())
    (new : codeAny (model prog w) A.in1 (.call (.builtin newId) ⟨.type T :: args, []⟩) (wants Q1 E) s)
    (init : ∀ v s1, Q1 v s1 → s1.TypeIs v T ∧ codeAny (model prog w) A.in1 (.call (.builtin initId) ⟨v :: args, []⟩) (wants (fun r s2 => r = .none ∧ Q v s2) E) s1) : wpAny (model prog w) A (call (.type T) args) Q E s := by
  obtain ⟨_, _, _⟩ := ft.mro
  have := ft.notType
  have := ft.canCreate
  have := ft.made
  have := ft.sub
  refine wpAny_call (codeAny_of_tree (wpAny_pure ⟨Code.quiet_builtin _ (by decide +kernel), codeAny_builtin PySem.F.entry_type_call ?_⟩))
  rw [Around.under_plain (weight_type_call_type T args []) rfl]
  repeat' first | assumption | wp_step
  refine codeAny_mono new fun r s1 h => ?_
  match r, h with
  | .error _, h => exact h
  | .ok (.ret v), h =>
    obtain ⟨ty, c⟩ := init v s1 h
    have := ft.init.lookup
    have := ft.init.bind v
    repeat' first | assumption | wp_step
    refine codeAny_mono c fun r s2 h => ?_
    match r, h with
    | .error _, h => exact h
    | .ok (.ret _), h =>
      obtain ⟨rfl, _⟩ := h
      repeat' first | assumption | wp_step
end
end GX
set_option Elab.async false
set_option linter.all false
set_option maxRecDepth 100000
namespace GX
open PySem PyProof.Rows
theorem sl_sit_next : Slot "set_iterator" "__next__" "set_iterator.__next__" :=
  .of (owner := "set_iterator") (n := "__next__") (by rw [typeLookup_type, builtinLookup_eq_fast]; kernel_rfl) (by decide +kernel) (by decide +kernel) (by decide +kernel) (by first | exact .inl (by decide +kernel) | exact .inr (by decide +kernel)) (by rw [isSubtype_type]; kernel_rfl)
theorem en_sit_next : entryFor table "set_iterator.__next__" = some Builtin.«set_iterator.__next__» := entryFor_of_tree (by kernel_rfl)
theorem ar_sit_next (a : Value) : argsOk "set_iterator.__next__" ⟨[a], []⟩ := by unfold argsOk; kernel_rfl
theorem sl_sit_iter : Slot "set_iterator" "__iter__" "set_iterator.__iter__" :=
  .of (owner := "set_iterator") (n := "__iter__") (by rw [typeLookup_type, builtinLookup_eq_fast]; kernel_rfl) (by decide +kernel) (by decide +kernel) (by decide +kernel) (by first | exact .inl (by decide +kernel) | exact .inr (by decide +kernel)) (by rw [isSubtype_type]; kernel_rfl)
theorem en_sit_iter : entryFor table "set_iterator.__iter__" = some Builtin.«dict_keyiterator.__iter__» := entryFor_alias (id' := "dict_keyiterator.__iter__") (by kernel_rfl) rfl (by decide +kernel) (by kernel_rfl)
theorem ar_sit_iter (a : Value) : argsOk "set_iterator.__iter__" ⟨[a], []⟩ := by unfold argsOk; kernel_rfl
theorem en_set_iter : entryFor table "set.__iter__" = some Builtin.«frozenset.__iter__» := entryFor_alias (id' := "frozenset.__iter__") (by kernel_rfl) rfl (by decide +kernel) (by kernel_rfl)
abbrev newS (w : World) (h : Heap) : Heap := h.push { cls := .type "set", dict := none, data := .set #[] 0 (.fresh 0 0 (!byT w)) }
section
variable {prog : Program} {w : World} {A : Around} {E : Value → Shared → Prop} {s : Shared}
set_option maxHeartbeats 4000000 in
theorem set_of_list {l : Addr} {items : Array Value} {ns : List Int} {Q : Value → Shared → Prop} (hh : A.handled = none) (hl : s.heap.IsList l items) (hi : IntsAre items.toList ns) (hb : items.size + 1 < scanBound)
    (h : ∀ h' tk, SetI prog w h' s.heap.objs.size (fun k' => (firstMet (fun i => ns.getD i 0) items.size).any (· == k')) (firstMet (fun i => ns.getD i 0) items.size).length → (∀ b o, s.heap.get? b = some o → h'.get? b = some o) → Q (.ref s.heap.objs.size) { s with heap := h', toks := tk }) :
    wpAny (model prog w) A (call (.type "set") [.ref l]) Q E s := by
  obtain ⟨⟨oc, od, odt, osl⟩, hol, hcl, nl, hdl⟩ := id hl
  cases hcl
  cases hdl
  have lS : l < s.heap.objs.size := Heap.lt_size hol
  refine type_called PySem.F.called_set (PySem.F.typeCall_set_1 _) (set_new (.ref l) (Q1 := fun v s1 => v = .ref s.heap.objs.size ∧ s1 = { s with heap := newS w s.heap }) ⟨rfl, rfl⟩) ?_
  rintro _ _ ⟨rfl, rfl⟩
  have new : (newS w s.heap).get? s.heap.objs.size = some { cls := .type "set", dict := none, data := .set #[] 0 (.fresh 0 0 (!byT w)) } := Heap.get?_push_size _ rfl
  have old : (newS w s.heap).get? l = some { cls := .type "list", dict := od, data := .seq items nl, slots := osl } := Heap.get?_push_of_some _ hol
  have size : (newS w s.heap).objs.size = s.heap.objs.size + 1 := Heap.size_push ..
  have ty : Shared.TypeIs { s with heap := newS w s.heap } (.ref s.heap.objs.size) "set" := ⟨_, new, rfl⟩
  refine ⟨ty, codeAny_call_builtin PySem.F.called_set.init.plain PySem.F.entry_set_init (check_set_init_1 ty ?_)⟩
  have := PySem.F.sub_list_set
  have := PySem.F.sub_list_frozenset
  have nd : (Value.type "list" == Value.type "dict") = false := by decide
  have grown : ∀ b o, s.heap.get? b = some o → (newS w s.heap).get? b = some o := fun b o e => Heap.get?_push_of_some _ e
  generalize newS w s.heap = h1 at new old size ty grown ⊢
  have il : h1.IsList l items := ⟨_, old, rfl, nl, rfl⟩
  wp_walk using wpAny_pyIter_list il
  have nf : s.heap.objs.size ∉ [h1.objs.size, l] := by
    rw [size]
    intro z
    rcases List.mem_cons.mp z with z | z
    · exact absurd z (Nat.ne_of_lt (Nat.lt_succ_self _))
    · exact Nat.ne_of_gt lS (List.mem_singleton.mp z)
  refine set_loop (Walks.list (by simpa using hh) _ l (by rw [size]; exact Nat.ne_of_lt (Nat.lt_succ_of_lt lS)) items) nf (fun i => ns.getD i 0) (fun i v hv => IntsAre.int_at hi i v (by rw [Array.getElem?_toList]; exact hv)) hb items.size 0 _ (by omega)
    ⟨⟨_, Heap.get?_push_size _ rfl, rfl, rfl⟩, il.push _⟩ ⟨_, #[], 0, _, Heap.get?_push_of_some _ new, ⟨rfl, rfl, rfl⟩, rfl, fun e he => by simp at he, fun k => by simp [firstMet_zero], by decide, by rfl, rfl, ⟨List.Pairwise.nil, rfl⟩⟩ fun h2 tk kp x => ?_
  wp_walk
  refine ⟨rfl, h h2 tk x fun b o e => ?_⟩
  have lb := Heap.lt_size e
  refine kp b o (fun z => ?_) (Nat.ne_of_lt lb) (Heap.get?_push_of_some _ (grown b o e))
  rw [List.mem_singleton.mp z, size] at lb
  exact absurd lb (Nat.not_lt.mpr (Nat.le_succ _))
end
end GX
set_option Elab.async false
set_option linter.all false
set_option maxRecDepth 100000
namespace GX
open PySem PyProof.Rows
section
variable {prog : Program} {w : World} {A : Around} {E : Value → Shared → Prop} {s : Shared}
theorem erase_perm {α : Type} : ∀ {xs : List α} {i : Nat} (h : i < xs.length), (xs[i] :: xs.eraseIdx i).Perm xs
  | x :: xs, 0, _ => .refl _
  | x :: xs, i + 1, h => (List.Perm.swap x (xs[i]'(Nat.lt_of_succ_lt_succ h)) _).trans ((erase_perm (xs := xs) (i := i) (Nat.lt_of_succ_lt_succ h)).cons x)
theorem choose_ok {src : Source} {n : Nat} {M : Model} {Q : Nat → Shared → Prop} (hn : n ≠ 0) (h : ∀ i d, i < n → Q i { s with drawn := d }) : wpAny M A (choose src n) Q E s := fun Γ p _ => by
  unfold choose
  rw [Sem.wp_choose]
  exact ⟨hn, h _ _ (Nat.mod_lt _ (Nat.pos_of_ne_zero hn))⟩
theorem draw_ok {α : Type} {M : Model} : ∀ (n : Nat) (xs : List α) (s : Shared) (Q : List α → Shared → Prop), xs.length = n → (∀ ys d, ys.Perm xs → Q ys { s with drawn := d }) → wpAny M A (drawOrder n xs) Q E s
  | 0, xs, s, Q, hl, h => by
    have e : xs = [] := List.eq_nil_of_length_eq_zero hl
    subst e
    unfold drawOrder
    exact wpAny_pure (h [] s.drawn .nil)
  | n + 1, [], s, Q, hl, h => by cases hl
  | n + 1, x :: xs, s, Q, hl, h => by
    unfold drawOrder
    refine wpAny_bind (choose_ok (by simp) fun i d hi => ?_)
    rw [List.getElem?_eq_getElem hi]
    dsimp only
    refine wpAny_bind (draw_ok n _ _ _ (by rw [List.length_eraseIdx_of_lt hi, hl]; rfl) fun ys d' pm => ?_)
    exact wpAny_pure (h _ d' ((pm.cons _).trans (erase_perm hi)))
theorem pick_go {α : Type} (f : Nat → Nat) : ∀ (n k : Nat) (xs : List α) (out : Array α), xs.length = n → (pickOrder.go f n k xs out).toList.Perm (out.toList ++ xs)
  | 0, k, xs, out, hl => by
    have e : xs = [] := List.eq_nil_of_length_eq_zero hl
    subst e
    unfold pickOrder.go
    rw [List.append_nil]
  | n + 1, k, xs, out, hl => by
    unfold pickOrder.go
    have hi : f k % xs.length < xs.length := Nat.mod_lt _ (by omega)
    rw [List.getElem?_eq_getElem hi]
    dsimp only
    refine (pick_go f n (k + 1) _ _ (by rw [List.length_eraseIdx_of_lt hi, hl]; rfl)).trans ?_
    rw [Array.toList_push, List.append_assoc]
    exact List.Perm.append_left _ (erase_perm hi)
theorem pick_perm {α : Type} (f : Nat → Nat) (xs : Array α) : (pickOrder f xs).toList.Perm xs.toList := by
  have := pick_go f xs.size 0 xs.toList #[] (by simp)
  simpa [pickOrder] using this
end
end GX
namespace GX
open PySem PyProof.Rows
section
variable {prog : Program} {w : World} {A : Around} {E : Value → Shared → Prop} {s : Shared}
def sitO (first : Value) (i : Nat) (a : Addr) (n ep : Nat) : Obj := { cls := .type "set_iterator", dict := none, data := .fields #[first, .int i 0, .ref a, .int n 0, .int ep 0], slots := #[] }
theorem upd_fields {I : Addr} {first : Value} {i n ep : Nat} {a : Addr} (h : Heap) (hI : h.get? I = some (sitO first i a n ep)) (k : Nat) (x : Value) : (h.update I (Obj.mapFields (·.setIfInBounds k x))).get? I = some { cls := .type "set_iterator", dict := none, data := .fields ((#[first, .int i 0, .ref a, .int n 0, .int ep 0] : Array Value).setIfInBounds k x), slots := #[] } :=
  Heap.get?_update_self _ hI rfl
variable {I a : Addr} {o : Obj} {es : Array (Int × Value)} {ep : Nat} {t : SetTable} {i : Nat}
theorem sit_type {first : Value} (hI : s.heap.get? I = some (sitO first i a es.size ep)) : s.TypeIs (.ref I) "set_iterator" := ⟨_, hI, rfl⟩
theorem sit_item_int {sl : Int} {nx : Nat} {x : Value} {Q : Option Value → Shared → Prop} (hI : s.heap.get? I = some (sitO (.int sl 0) i a es.size ep)) (ho : s.heap.get? a = some o) (hd : o.data = .set es ep t) (hf : t.fits es.size = true)
    (hn : ∀ (A : Around) (E : Value → Shared → Prop) (Q' : Option (Value × Nat) → Shared → Prop), Q' (some (x, nx)) s → wpAny (model prog w) A (setNext a sl.toNat i ep) Q' E s)
    (h : ∀ h', h'.get? I = some (sitO (.int nx 0) (i + 1) a es.size ep) → Heap.SameBut I s.heap h' → Q (some x) { s with heap := h' }) : wpAny (model prog w) A (pyNext (.ref I)) Q E s := by
  unfold pyNext
  refine wpAny_bind (wpAny_attempt (wpAny_callSpecial?_slot (name := Str.ofString "__next__") (sit_type hI) sl_sit_next (wpAny_call_entry sl_sit_next (sit_type hI) en_sit_next ?_ (ar_sit_next _))))
  unfold Builtin.«set_iterator.__next__»
  refine wpAny_bind (wpAny_pure (wpAny_bind (wpAny_fieldsOf hI rfl ?_)))
  show wpAny _ _ (setEntries a >>= _) _ _ _
  refine wpAny_bind (wpAny_setEntries_of ho hd hf ?_)
  show wpAny _ _ (if (((es.size : Nat) : Int) != ((es.size : Nat) : Int)) = true then _ else _) _ _ _
  rw [if_neg (by simp)]
  show wpAny _ _ (setNext a sl.toNat ((i : Int)).toNat ((ep : Int)).toNat >>= _) _ _ _
  rw [Int.toNat_natCast, Int.toNat_natCast]
  refine wpAny_bind (hn _ _ _ ?_)
  show wpAny _ _ (setField (.ref I) 0 (rawInt nx) >>= _) _ _ _
  refine wpAny_bind (wpAny_setField hI rfl (by simp) ?_)
  have h1 := upd_fields s.heap hI 0 (rawInt nx)
  refine wpAny_bind (wpAny_setField (s := { s with heap := s.heap.update I (Obj.mapFields (·.setIfInBounds 0 (rawInt nx))) }) h1 rfl (by simp) ?_)
  refine wpAny_pure ⟨_, rfl, wpAny_pure (h _ ?_ ((Heap.SameBut.update ..).trans (Heap.SameBut.update ..)))⟩
  exact Heap.get?_update_self _ h1 rfl
theorem stop_now {M : Model} {Q : Fin → Shared → Prop} {E : Value → Shared → Prop} (hh : A.handled = none) (h : ∀ h' e, (∀ b o, s.heap.get? b = some o → h'.get? b = some o) → (∃ o, h'.get? e = some o ∧ o.cls = .type "StopIteration") → E (.ref e) { s with heap := h' }) :
    wpAny M A (newExc (.type "StopIteration") [] >>= fun e => raiseNew e) Q E s := by
  refine wpAny_bind ?_
  simp only [newExc, newTuple]
  refine wpAny_bind (wpAny_newObj_type ?_ (by size_fits))
  refine wpAny_bind (m := firstArgMember _ _) (wpAny_of_eq (a := Value.none) (by first | rfl | (simp only [firstArgMember]; rfl)) ?_)
  refine wpAny_newObj_type ?_ (by size_fits)
  refine wpAny_raiseNew_none hh (h _ _ (fun b o e => Heap.get?_push_of_some _ (Heap.get?_push_of_some _ e)) ⟨_, Heap.get?_push_size _ rfl, rfl⟩)
theorem sit_done_int {sl : Int} {Q : Option Value → Shared → Prop} (hh : A.handled = none) (hI : s.heap.get? I = some (sitO (.int sl 0) i a es.size ep)) (ho : s.heap.get? a = some o) (hd : o.data = .set es ep t) (hf : t.fits es.size = true)
    (hn : ∀ (A : Around) (E : Value → Shared → Prop) (Q' : Option (Value × Nat) → Shared → Prop), Q' none s → wpAny (model prog w) A (setNext a sl.toNat i ep) Q' E s)
    (h : ∀ h', (∀ b o, b ≠ I → s.heap.get? b = some o → h'.get? b = some o) → Q none { s with heap := h' }) : wpAny (model prog w) A (pyNext (.ref I)) Q E s := by
  unfold pyNext
  refine wpAny_bind (wpAny_attempt (wpAny_callSpecial?_slot (name := Str.ofString "__next__") (sit_type hI) sl_sit_next (wpAny_call_entry sl_sit_next (sit_type hI) en_sit_next ?_ (ar_sit_next _))))
  unfold Builtin.«set_iterator.__next__»
  refine wpAny_bind (wpAny_pure (wpAny_bind (wpAny_fieldsOf hI rfl ?_)))
  show wpAny _ _ (setEntries a >>= _) _ _ _
  refine wpAny_bind (wpAny_setEntries_of ho hd hf ?_)
  show wpAny _ _ (if (((es.size : Nat) : Int) != ((es.size : Nat) : Int)) = true then _ else _) _ _ _
  rw [if_neg (by simp)]
  show wpAny _ _ (setNext a sl.toNat ((i : Int)).toNat ((ep : Int)).toNat >>= _) _ _ _
  rw [Int.toNat_natCast, Int.toNat_natCast]
  refine wpAny_bind (hn _ _ _ ?_)
  show wpAny _ _ (setField (.ref I) 2 .none >>= _) _ _ _
  refine wpAny_bind (wpAny_setField hI rfl (by simp) ?_)
  refine stop_now (A := A.in1) hh fun h' e kp ⟨oe, q1, q2⟩ => ?_
  refine wpAny_bind (wpAny_isInstance (T := "StopIteration") (b := true) ⟨oe, q1, q2⟩ isSubtype_stop ?_)
  exact wpAny_pure (h h' fun b ob nb e => kp b ob ((Heap.get?_update_other _ _ (Ne.symm nb)).trans e))
theorem sit_item_tup {tp : Addr} {c : Nat} {ps : List Nat} {x : Value} {k : Nat} {hk : Int} {Q : Option Value → Shared → Prop} (hI : s.heap.get? I = some (sitO (.ref tp) i a es.size ep)) (ho : s.heap.get? a = some o) (hd : o.data = .set es ep t) (hf : t.fits es.size = true)
    (ht : s.heap.get? tp = some { cls := .type "tuple", dict := none, data := .seq (ps.map fun (i : Nat) => rawInt i).toArray c, slots := #[] }) (hp : ps[i]? = some k) (hx : es[k]? = some (hk, x))
    (h : ∀ h', h'.get? I = some (sitO (.ref tp) (i + 1) a es.size ep) → Heap.SameBut I s.heap h' → Q (some x) { s with heap := h' }) : wpAny (model prog w) A (pyNext (.ref I)) Q E s := by
  unfold pyNext
  refine wpAny_bind (wpAny_attempt (wpAny_callSpecial?_slot (name := Str.ofString "__next__") (sit_type hI) sl_sit_next (wpAny_call_entry sl_sit_next (sit_type hI) en_sit_next ?_ (ar_sit_next _))))
  unfold Builtin.«set_iterator.__next__»
  refine wpAny_bind (wpAny_pure (wpAny_bind (wpAny_fieldsOf hI rfl ?_)))
  show wpAny _ _ (setEntries a >>= _) _ _ _
  refine wpAny_bind (wpAny_setEntries_of ho hd hf ?_)
  show wpAny _ _ (if (((es.size : Nat) : Int) != ((es.size : Nat) : Int)) = true then _ else _) _ _ _
  rw [if_neg (by simp)]
  show wpAny _ _ (seqItems? (.ref tp) >>= _) _ _ _
  refine wpAny_bind (wpAny_seqItems ht rfl ?_)
  have e1 : ((ps.map fun (i : Nat) => rawInt i).toArray)[((i : Nat) : Int).toNat]? = some (.int k 0) := by
    rw [Int.toNat_natCast, List.getElem?_toArray, List.getElem?_map, hp]
    rfl
  dsimp only
  rw [e1]
  show wpAny _ _ (setNextDrawn a ((k : Nat) : Int).toNat ((ep : Nat) : Int).toNat >>= _) _ _ _
  rw [Int.toNat_natCast, Int.toNat_natCast]
  unfold setNextDrawn
  refine wpAny_bind (wpAny_bind (wpAny_setState_of ho hd hf ?_))
  show wpAny _ _ (if (ep != ep) = true then _ else _) _ _ _
  rw [if_neg (by simp)]
  refine wpAny_bind (wpAny_pure ?_)
  rw [hx]
  refine wpAny_pure ?_
  show wpAny _ _ (setField (.ref I) 1 (rawInt ((i : Int) + 1)) >>= _) _ _ _
  refine wpAny_bind (wpAny_setField hI rfl (by simp) (wpAny_pure ⟨_, rfl, wpAny_pure (h _ ?_ (Heap.SameBut.update ..))⟩))
  exact upd_fields s.heap hI 1 (rawInt ((i : Int) + 1))
theorem sit_done_tup {tp : Addr} {c : Nat} {ps : List Nat} {Q : Option Value → Shared → Prop} (hh : A.handled = none) (hI : s.heap.get? I = some (sitO (.ref tp) i a es.size ep)) (ho : s.heap.get? a = some o) (hd : o.data = .set es ep t) (hf : t.fits es.size = true)
    (ht : s.heap.get? tp = some { cls := .type "tuple", dict := none, data := .seq (ps.map fun (i : Nat) => rawInt i).toArray c, slots := #[] }) (hp : ps[i]? = none)
    (h : ∀ h', (∀ b o, b ≠ I → s.heap.get? b = some o → h'.get? b = some o) → Q none { s with heap := h' }) : wpAny (model prog w) A (pyNext (.ref I)) Q E s := by
  unfold pyNext
  refine wpAny_bind (wpAny_attempt (wpAny_callSpecial?_slot (name := Str.ofString "__next__") (sit_type hI) sl_sit_next (wpAny_call_entry sl_sit_next (sit_type hI) en_sit_next ?_ (ar_sit_next _))))
  unfold Builtin.«set_iterator.__next__»
  refine wpAny_bind (wpAny_pure (wpAny_bind (wpAny_fieldsOf hI rfl ?_)))
  show wpAny _ _ (setEntries a >>= _) _ _ _
  refine wpAny_bind (wpAny_setEntries_of ho hd hf ?_)
  show wpAny _ _ (if (((es.size : Nat) : Int) != ((es.size : Nat) : Int)) = true then _ else _) _ _ _
  rw [if_neg (by simp)]
  show wpAny _ _ (seqItems? (.ref tp) >>= _) _ _ _
  refine wpAny_bind (wpAny_seqItems ht rfl ?_)
  have e1 : ((ps.map fun (i : Nat) => rawInt i).toArray)[((i : Nat) : Int).toNat]? = none := by
    rw [Int.toNat_natCast, List.getElem?_toArray, List.getElem?_map, hp]
    rfl
  dsimp only
  rw [e1]
  show wpAny _ _ (setField (.ref I) 0 (rawInt 0) >>= _) _ _ _
  refine wpAny_bind (wpAny_setField hI rfl (by simp) ?_)
  have h1 := upd_fields s.heap hI 0 (rawInt 0)
  refine wpAny_bind (wpAny_setField (s := { s with heap := s.heap.update I (Obj.mapFields (·.setIfInBounds 0 (rawInt 0))) }) h1 rfl (by simp) ?_)
  refine stop_now (A := A.in1) hh fun h' e kp ⟨oe, q1, q2⟩ => ?_
  refine wpAny_bind (wpAny_isInstance (T := "StopIteration") (b := true) ⟨oe, q1, q2⟩ isSubtype_stop ?_)
  exact wpAny_pure (h h' fun b ob nb e => kp b ob ((Heap.get?_update_other _ _ (Ne.symm nb)).trans ((Heap.get?_update_other _ _ (Ne.symm nb)).trans e)))
theorem next_text {sl : Nat} {Q : Option (Value × Nat) → Shared → Prop} (b : byT w = true) (ho : s.heap.get? a = some o) (hd : o.data = .set es ep t) (hf : t.fits es.size = true)
    (h : Q (((pickOrder (w.params.setOrder a ep) es)[i]?).map fun e => (e.2, sl)) s) : wpAny (model prog w) A (setNext a sl i ep) Q E s := by
  have hb : w.params.followText "set-order" = true := b
  unfold setNext
  refine wpAny_bind (wpAny_setState_of ho hd hf (wpAny_bind (wpAny_bind (wpAny_askSetting (wpAny_pure ?_)))))
  show wpAny _ _ (if w.params.followText "set-order" = true then _ else _) _ _ _
  rw [hb, if_pos rfl]
  show wpAny _ _ (if (ep != ep) = true then _ else _) _ _ _
  rw [if_neg (by simp)]
  refine wpAny_bind ?_
  unfold setWalk
  refine wpAny_bind (wpAny_setState_of ho hd hf (wpAny_bind (wpAny_bind (wpAny_askSetting (wpAny_pure ?_)))))
  show wpAny _ _ (if w.params.followText "set-order" = true then _ else _) _ _ _
  rw [hb, if_pos rfl]
  exact wpAny_bind (wpAny_askSetting (wpAny_pure (wpAny_pure h)))
theorem next_led {sl : Nat} {Q : Option (Value × Nat) → Shared → Prop} (b : byT w = false) (d : (!t.plain && decide (es.size > 1)) = false) (hl : t.led = true) (ho : s.heap.get? a = some o) (hd : o.data = .set es ep t) (hf : t.fits es.size = true)
    (h : Q (match es[SetTable.below t.place sl]?, t.place[SetTable.below t.place sl]? with | some (_, x), some j => some (x, j + 1) | _, _ => none) s) : wpAny (model prog w) A (setNext a sl i ep) Q E s := by
  have hb : w.params.followText "set-order" = false := b
  unfold setNext
  refine wpAny_bind (wpAny_setState_of ho hd hf (wpAny_bind (wpAny_bind (wpAny_askSetting (wpAny_pure ?_)))))
  show wpAny _ _ (if w.params.followText "set-order" = true then _ else _) _ _ _
  rw [hb, if_neg Bool.false_ne_true]
  refine wpAny_bind (wpAny_pure ?_)
  show wpAny _ _ (if (!t.plain && decide (es.size > 1)) = true then _ else _) _ _ _
  rw [d, if_neg Bool.false_ne_true]
  refine wpAny_bind ?_
  show wpAny _ _ (if (!t.led && !es.isEmpty) = true then _ else _) _ _ _
  rw [hl]
  show wpAny _ _ (if (false && !es.isEmpty) = true then _ else _) _ _ _
  rw [Bool.false_and, if_neg Bool.false_ne_true]
  exact wpAny_pure (wpAny_pure h)
end
end GX
set_option Elab.async false
set_option linter.all false
set_option maxRecDepth 100000
namespace GX
open PySem PyProof.Rows
section
variable {prog : Program} {w : World} {A : Around} {E : Value → Shared → Prop} {s : Shared} {I a : Addr} {o : Obj} {es : Array (Int × Value)} {ep : Nat} {t : SetTable}
theorem sit_self {i : Nat} {first : Value} {Q : Value → Shared → Prop} (hI : s.heap.get? I = some (sitO first i a es.size ep)) (h : Q (.ref I) s) : wpAny (model prog w) A (pyIter (.ref I)) Q E s := by
  refine wpAny_pyIter_slot (sit_type hI) sl_sit_iter (wpAny_call_entry sl_sit_iter (sit_type hI) en_sit_iter ?_ (ar_sit_iter _))
  show wpAny _ _ (ret (.ref I)) _ _ s
  exact wpAny_pure ⟨_, rfl, "set_iterator", _, sit_type hI, sl_sit_next.lookup, h⟩
theorem walk_text (hh : A.handled = none) (b : byT w = true) (hd : o.data = .set es ep t) (hf : t.fits es.size = true) (ne : a ≠ I) :
    Walks prog w A I [I, a] [I] ((pickOrder (w.params.setOrder a ep) es).toList.map (·.2)).length (fun i v => ((pickOrder (w.params.setOrder a ep) es).toList.map (·.2))[i]? = some v)
      (fun i h => (∃ sl : Nat, h.get? I = some (sitO (.int sl 0) i a es.size ep)) ∧ h.get? a = some o) where
  sub := fun b hb => List.mem_singleton.mp hb ▸ List.mem_cons_self
  frame := fun i h h' st hk => ⟨let ⟨sl, e⟩ := st.1; ⟨sl, hk I (by simp) _ e⟩, hk a (by simp) _ st.2⟩
  item := fun i s _ _ hi st hQ => by
    obtain ⟨⟨sl, hI⟩, ho⟩ := st
    have hi' : i < (pickOrder (w.params.setOrder a ep) es).size := by simpa using hi
    refine sit_item_int (x := ((pickOrder (w.params.setOrder a ep) es)[i]).2) (nx := sl) hI ho hd hf (fun A E Q' q => next_text b ho hd hf ?_) fun h' e sb => hQ _ h' s.toks ?_ ⟨⟨sl, e⟩, (sb.2 a ne).trans ho⟩ fun c oc nc ec => (sb.2 c (fun z => nc (by simp [z]))).trans ec
    · rw [Array.getElem?_eq_getElem hi']
      exact q
    · rw [List.getElem?_map, Array.getElem?_toList, Array.getElem?_eq_getElem hi']
      rfl
  done := fun s Q E st hQ => by
    obtain ⟨⟨sl, hI⟩, ho⟩ := st
    refine sit_done_int hh hI ho hd hf (fun A E Q' q => next_text b ho hd hf ?_) fun h' kp => hQ h' s.toks fun c oc nc ec => kp c oc (fun z => nc (by simp [z])) ec
    rw [Array.getElem?_eq_none (by simp)]
    exact q
  self := fun i s Q E st hQ => let ⟨⟨_, hI⟩, _⟩ := st; sit_self hI hQ
theorem walk_led (hh : A.handled = none) (b : byT w = false) (d : (!t.plain && decide (es.size > 1)) = false) (tb : Tb (!byT w) t) (hd : o.data = .set es ep t) (hf : t.fits es.size = true) (ne : a ≠ I) :
    Walks prog w A I [I, a] [I] (es.toList.map (·.2)).length (fun i v => (es.toList.map (·.2))[i]? = some v)
      (fun i h => (∃ sl : Nat, SetTable.below t.place sl = i ∧ h.get? I = some (sitO (.int sl 0) i a es.size ep)) ∧ h.get? a = some o) where
  sub := fun b hb => List.mem_singleton.mp hb ▸ List.mem_cons_self
  frame := fun i h h' st hk => ⟨let ⟨sl, e1, e⟩ := st.1; ⟨sl, e1, hk I (by simp) _ e⟩, hk a (by simp) _ st.2⟩
  item := fun i s _ _ hi st hQ => by
    obtain ⟨⟨sl, e1, hI⟩, ho⟩ := st
    have hi' : i < es.size := by simpa using hi
    have hl : t.led = true := by rw [tb.2, b]; rfl
    have hp : t.place.size = es.size := by
      simp only [SetTable.fits, Bool.and_eq_true, beq_iff_eq, decide_eq_true_eq] at hf
      exact hf.1
    have hip : i < t.place.size := by omega
    refine sit_item_int (x := (es[i]).2) (nx := t.place.getD i 0 + 1) hI ho hd hf (fun A E Q' q => next_led b d hl ho hd hf ?_) fun h' e sb => hQ _ h' s.toks ?_ ⟨⟨t.place.getD i 0 + 1, below_next tb.1 hip, e⟩, (sb.2 a ne).trans ho⟩ fun c oc nc ec => (sb.2 c (fun z => nc (by simp [z]))).trans ec
    · rw [Int.toNat_natCast, e1, Array.getElem?_eq_getElem hi', Array.getElem?_eq_getElem hip]
      rw [Array.getD_eq_getD_getElem?, Array.getElem?_eq_getElem hip] at q
      exact q
    · rw [List.getElem?_map, Array.getElem?_toList, Array.getElem?_eq_getElem hi']
      rfl
  done := fun s Q E st hQ => by
    obtain ⟨⟨sl, e1, hI⟩, ho⟩ := st
    have hl : t.led = true := by rw [tb.2, b]; rfl
    refine sit_done_int hh hI ho hd hf (fun A E Q' q => next_led b d hl ho hd hf ?_) fun h' kp => hQ h' s.toks fun c oc nc ec => kp c oc (fun z => nc (by simp [z])) ec
    rw [Int.toNat_natCast, e1, Array.getElem?_eq_none (by simp)]
    exact q
  self := fun i s Q E st hQ => let ⟨⟨_, _, hI⟩, _⟩ := st; sit_self hI hQ
theorem walk_drawn {tp : Addr} {c : Nat} {ps : List Nat} (hh : A.handled = none) (pm : ps.Perm (List.range es.size)) (hd : o.data = .set es ep t) (hf : t.fits es.size = true) (ne : a ≠ I) (nt : tp ≠ I) :
    Walks prog w A I [I, a, tp] [I] (ps.map fun i => (es.getD i (0, .none)).2).length (fun i v => (ps.map fun i => (es.getD i (0, .none)).2)[i]? = some v)
      (fun i h => h.get? I = some (sitO (.ref tp) i a es.size ep) ∧ h.get? a = some o ∧ h.get? tp = some { cls := .type "tuple", dict := none, data := .seq (ps.map fun (i : Nat) => rawInt i).toArray c, slots := #[] }) where
  sub := fun b hb => List.mem_singleton.mp hb ▸ List.mem_cons_self
  frame := fun i h h' st hk => ⟨hk I (by simp) _ st.1, hk a (by simp) _ st.2.1, hk tp (by simp) _ st.2.2⟩
  item := fun i s _ _ hi st hQ => by
    obtain ⟨hI, ho, ht⟩ := st
    rw [List.length_map] at hi
    have hm : ps[i] < es.size := List.mem_range.mp (pm.mem_iff.mp (List.getElem_mem hi))
    refine sit_item_tup (x := (es[ps[i]]).2) (hk := (es[ps[i]]).1) hI ho hd hf ht (List.getElem?_eq_getElem hi) (Array.getElem?_eq_getElem hm) fun h' e sb => hQ _ h' s.toks ?_ ⟨e, (sb.2 a ne).trans ho, (sb.2 tp nt).trans ht⟩ fun c oc nc ec => (sb.2 c (fun z => nc (by simp [z]))).trans ec
    rw [List.getElem?_map, List.getElem?_eq_getElem hi, Option.map_some, Array.getD_eq_getD_getElem?, Array.getElem?_eq_getElem hm]
    rfl
  done := fun s Q E st hQ => by
    obtain ⟨hI, ho, ht⟩ := st
    exact sit_done_tup hh hI ho hd hf ht (List.getElem?_eq_none (by rw [List.length_map]; exact Nat.le_refl _)) fun h' kp => hQ h' s.toks fun c oc nc ec => kp c oc (fun z => nc (by simp [z])) ec
  self := fun i s Q E st hQ => sit_self st.1 hQ
theorem getD_range (es : Array (Int × Value)) : (List.range es.size).map (fun i => (es.getD i (0, Value.none)).2) = es.toList.map (·.2) := by
  apply List.ext_getElem?
  intro i
  rw [List.getElem?_map, List.getElem?_map, Array.getElem?_toList (xs := es)]
  by_cases h : i < es.size
  · rw [List.getElem?_eq_getElem (by rw [List.length_range]; exact h), List.getElem_range, Option.map_some, Array.getD_eq_getD_getElem?, Array.getElem?_eq_getElem h]
    rfl
  · rw [List.getElem?_eq_none (by rw [List.length_range]; omega), Array.getElem?_eq_none (by omega)]
    rfl
theorem set_iter (hh : A.handled = none) (ho : s.heap.get? a = some o) (hx : o.ExactSet) (hd : o.data = .set es ep t) (hf : t.fits es.size = true) (hb : es.size < scanBound) (tb : Tb (!byT w) t) {Q : Value → Shared → Prop}
    (h : ∀ (h' : Heap) (d' : Drawn) (I : Addr) (fp : List Addr) (vs : List Value) (St : Nat → Heap → Prop), (∀ b o, s.heap.get? b = some o → h'.get? b = some o) → s.heap.objs.size ≤ I → (∀ b ∈ fp, b = a ∨ s.heap.objs.size ≤ b) → vs.Perm (es.toList.map (·.2)) →
      (∀ A : Around, A.handled = none → Walks prog w A I fp [I] vs.length (fun i v => vs[i]? = some v) St) → St 0 h' → Q (.ref I) { s with heap := h', drawn := d' }) : wpAny (model prog w) A (pyIter (.ref a)) Q E s := by
  have hT : s.TypeIs (.ref a) "set" := ⟨o, ho, hx.1⟩
  have la := Heap.lt_size ho
  refine wpAny_pyIter_slot hT PySem.F.slot_set_iter (wpAny_call_entry PySem.F.slot_set_iter hT en_set_iter ?_ (PySem.F.args_set_iter_1 _))
  unfold Builtin.«frozenset.__iter__» Builtin.Frozenset.slot0 Builtin.Frozenset.addrOf Builtin.Frozenset.sizeOf
  refine wpAny_bind (wpAny_bind (wpAny_pure (wpAny_pure (wpAny_bind (wpAny_bind (wpAny_setEntries_of ho hd hf (wpAny_pure ?_)))))))
  refine wpAny_bind ?_
  unfold setDrawn
  refine wpAny_bind (wpAny_setState_of ho hd hf (wpAny_bind (wpAny_bind (wpAny_askSetting (wpAny_pure (wpAny_pure ?_))))))
  show wpAny _ _ (if (!byT w && (!t.plain && decide (es.size > 1))) = true then _ else _) _ _ _
  cases hc : (!byT w && (!t.plain && decide (es.size > 1))) with
  | false =>
    rw [if_neg Bool.false_ne_true]
    refine wpAny_bind (wpAny_pure (wpAny_bind ?_))
    unfold setEpoch
    refine wpAny_bind (wpAny_setState_of ho hd hf (wpAny_pure ?_))
    refine wpAny_bind (wpAny_newObj_type (wpAny_pure ⟨_, rfl, "set_iterator", _, ⟨_, Heap.get?_push_size _ rfl, rfl⟩, sl_sit_next.lookup, ?_⟩))
    have nI : a ≠ s.heap.objs.size := Nat.ne_of_lt la
    have fpok : ∀ b ∈ [s.heap.objs.size, a], b = a ∨ s.heap.objs.size ≤ b := fun b hb => by
      simp only [List.mem_cons, List.not_mem_nil, or_false] at hb
      rcases hb with z | z
      · exact .inr (Nat.le_of_eq z.symm)
      · exact .inl z
    cases hT : byT w with
    | true =>
      refine h _ s.drawn s.heap.objs.size [s.heap.objs.size, a] _ _ (fun b o e => Heap.get?_push_of_some _ e) (Nat.le_refl _) fpok ((pick_perm (w.params.setOrder a ep) es).map _) (fun A hA => walk_text hA hT hd hf nI) ⟨⟨0, Heap.get?_push_size _ rfl⟩, Heap.get?_push_of_some _ ho⟩
    | false =>
      have hc' : (!t.plain && decide (es.size > 1)) = false := by rw [hT] at hc; exact hc
      refine h _ s.drawn s.heap.objs.size [s.heap.objs.size, a] _ _ (fun b o e => Heap.get?_push_of_some _ e) (Nat.le_refl _) fpok (.refl _) (fun A hA => walk_led hA hT hc' tb hd hf nI) ⟨⟨0, below_zero tb.1, Heap.get?_push_size _ rfl⟩, Heap.get?_push_of_some _ ho⟩
  | true =>
    rw [if_pos rfl]
    refine wpAny_bind (draw_ok es.size (List.range es.size) s _ (by rw [List.length_range]) fun ps d' pm => wpAny_bind ?_)
    refine wpAny_newTuple (wpAny_bind ?_) ?_
    · unfold setEpoch
      have ho' : (s.heap.push { cls := .type "tuple", data := .seq (ps.map fun (i : Nat) => rawInt i).toArray }).get? a = some o := Heap.get?_push_of_some _ ho
      refine wpAny_bind (wpAny_setState_of ho' hd hf (wpAny_pure ?_))
      refine wpAny_bind (wpAny_newObj_type (wpAny_pure ⟨_, rfl, "set_iterator", _, ⟨_, Heap.get?_push_size _ rfl, rfl⟩, sl_sit_next.lookup, ?_⟩))
      have sz : (s.heap.push { cls := .type "tuple", data := .seq (ps.map fun (i : Nat) => rawInt i).toArray }).objs.size = s.heap.objs.size + 1 := Heap.size_push ..
      refine h _ d' (s.heap.push { cls := .type "tuple", data := .seq (ps.map fun (i : Nat) => rawInt i).toArray }).objs.size [(s.heap.push { cls := .type "tuple", data := .seq (ps.map fun (i : Nat) => rawInt i).toArray }).objs.size, a, s.heap.objs.size] (ps.map fun i => (es.getD i (0, .none)).2) _
        (fun b o e => Heap.get?_push_of_some _ (Heap.get?_push_of_some _ e)) (by rw [sz]; exact Nat.le_succ _) (fun b hb => ?_) ?_ (fun A hA => walk_drawn (c := 0) hA pm hd hf (by rw [sz]; exact Nat.ne_of_lt (Nat.lt_succ_of_lt la)) (by rw [sz]; exact Nat.ne_of_lt (Nat.lt_succ_self _)))
        ⟨Heap.get?_push_size _ rfl, Heap.get?_push_of_some _ ho', Heap.get?_push_of_some _ (Heap.get?_push_size _ rfl)⟩
      · simp only [List.mem_cons, List.not_mem_nil, or_false] at hb
        rcases hb with z | z | z
        · exact .inr (by rw [z, sz]; exact Nat.le_succ _)
        · exact .inl z
        · exact .inr (Nat.le_of_eq z.symm)
      · exact (pm.map _).trans (by rw [getD_range])
    · rw [List.length_map, pm.length_eq, List.length_range]
      exact fits_of_scanBound hb
end
end GX
set_option Elab.async false
set_option linter.all false
set_option maxRecDepth 100000
namespace GX
open PySem PyProof.Rows
theorem perm_of_nd {α : Type} [DecidableEq α] : ∀ {l m : List α}, l.Nodup → (∀ x ∈ l, x ∈ m) → m.length ≤ l.length → m.Perm l
  | [], m, _, _, h => by
    have e : m = [] := List.eq_nil_of_length_eq_zero (Nat.le_zero.mp h)
    rw [e]
  | x :: l, m, nd, sub, h => by
    rw [List.nodup_cons] at nd
    have hx := sub x List.mem_cons_self
    have pm := List.perm_cons_erase hx
    refine pm.trans (List.Perm.cons x (perm_of_nd nd.2 (fun y hy => ?_) ?_))
    · have hy' := sub y (List.mem_cons_of_mem _ hy)
      exact (List.mem_erase_of_ne (show y ≠ x from fun z => nd.1 (z ▸ hy))).mpr hy'
    · have := pm.length_eq
      rw [List.length_cons] at this h
      omega
theorem firstMet_nd (val : Nat → Int) : ∀ i, (firstMet val i).Nodup
  | 0 => List.nodup_nil
  | i + 1 => by
    rw [firstMet_succ]
    unfold step_dedup
    have ih := firstMet_nd val i
    by_cases h : List.any (firstMet val i) (· == val i)
    · rw [if_pos h]
      exact ih
    · rw [if_neg h, List.nodup_append]
      refine ⟨ih, by simp, fun x hx y hy e => h ?_⟩
      rw [List.any_eq_true]
      refine ⟨x, hx, ?_⟩
      have e2 := List.mem_singleton.mp hy
      rw [e, e2, beq_self_eq_true]
theorem firstMet_mem (val : Nat → Int) (i : Nat) (k : Int) : k ∈ firstMet val i ↔ ∃ j, j < i ∧ val j = k := by
  have h := firstMet_any val i k
  rw [Bool.eq_iff_iff, List.any_eq_true, List.any_eq_true] at h
  constructor
  · intro z
    obtain ⟨x, hx, e⟩ := h.mp ⟨k, z, by simp⟩
    obtain ⟨j, hj, ej⟩ := List.mem_map.mp hx
    exact ⟨j, List.mem_range.mp hj, by rw [ej]; simpa using e⟩
  · rintro ⟨j, hj, e⟩
    obtain ⟨x, hx, e2⟩ := h.mpr ⟨val j, List.mem_map.mpr ⟨j, List.mem_range.mpr hj, rfl⟩, by simp [e]⟩
    have : x = k := by simpa using e2
    rw [← this]
    exact hx
section
variable {prog : Program} {w : World} {A : Around} {E : Value → Shared → Prop} {s : Shared} {a : Addr} {o : Obj} {es : Array (Int × Value)} {ep : Nat} {t : SetTable}
theorem elems_ints : ∀ {l : List (Int × Value)}, ElemsOf (intKind prog w) l → ∃ ns, IntsAre (l.map (·.2)) ns ∧ ∀ k, k ∈ ns ↔ ∃ e ∈ l, (intKind prog w).is k e.2 = true
  | [], _ => ⟨[], .nil, fun k => by simp⟩
  | e :: l, h => by
    obtain ⟨ns, h1, h2⟩ := elems_ints h.tail
    obtain ⟨⟨k, hk, _⟩, _⟩ := h.head
    obtain ⟨t, et⟩ := Value.isInt_shape (k := k) (v := e.2) hk
    refine ⟨k :: ns, ?_, fun j => ?_⟩
    · rw [List.map_cons, et]
      exact .cons k t h1
    · rw [List.mem_cons, h2 j]
      constructor
      · rintro (z | ⟨e', he, q⟩)
        · exact ⟨e, List.mem_cons_self, by rw [z]; exact hk⟩
        · exact ⟨e', List.mem_cons_of_mem _ he, q⟩
      · rintro ⟨e', he, q⟩
        rcases List.mem_cons.mp he with z | z
        · rw [z] at q
          exact .inl ((intKind prog w).inj e.2 j k q hk)
        · exact .inr ⟨e', z, q⟩
theorem ints_perm {vs us : List Value} {ns : List Int} (pm : vs.Perm us) (h : IntsAre us ns) : ∃ ms, IntsAre vs ms ∧ ms.Perm ns := by
  induction pm generalizing ns with
  | nil => exact ⟨ns, h, .refl _⟩
  | cons x p ih =>
    cases h with
    | cons n t hr =>
      obtain ⟨ms, h1, h2⟩ := ih hr
      exact ⟨n :: ms, .cons n t h1, h2.cons n⟩
  | swap x y l =>
    cases h with
    | cons n t hr =>
      cases hr with
      | cons m u hr => exact ⟨_, .cons m u (.cons n t hr), List.Perm.swap ..⟩
  | trans p q ih1 ih2 =>
    obtain ⟨ms, h1, h2⟩ := ih2 h
    obtain ⟨ks, h3, h4⟩ := ih1 h1
    exact ⟨ks, h3, h4.trans h2⟩
theorem hint_set {Q : Bool → Shared → Prop} (hT : s.TypeIs (.ref a) "set") (h : Q false s) : wpAny (model prog w) A (Builtin.List.listLengthHint (.ref a)) Q E s := by
  show wpAny _ _ (specialOf (.ref a) "__len__" >>= _) _ _ s
  refine wpAny_bind (wpAny_specialOf hT PySem.F.slot_set_len.lookup ?_)
  generalize hid : ("set.__len__" : String) = id0
  wp_delta
  rw [show splitId id0 = some ("set", "__len__") from by subst hid; decide +kernel]
  subst hid
  refine wpAny_bind (wpAny_isInstance (T := "set") (b := true) hT (by rw [isSubtype_type]; kernel_rfl) ?_)
  refine wpAny_ite_split (fun z => absurd z (by decide)) (fun _ => ?_)
  refine wpAny_ite_split (fun _ => ?_) (fun z => absurd (by decide +kernel) z)
  exact wpAny_bind (wpAny_typeOf hT (wpAny_pure h))
theorem enters {id : String} {B : Builtin} {args : Args} {R : Result → Shared → Prop} (he : entryFor table id = some B) (hp : plainId id = true)
    (h : wpAny (model prog w) A.in1 (B args) (fun f s1 => match f with | .done f => R (.ok f) s1 | .again c => c.quiet = true ∧ codeAny (model prog w) A c R s1) (fun e s1 => R (.error e) s1) s) : codeAny (model prog w) A (.builtin id args) R s :=
  codeAny_builtin he (by rw [Around.under_plainId hp]; exact h)
theorem set_collect {S : Int → Bool} {n : Nat} {R : List Value → Shared → Prop} (hh : A.handled = none) (x : SetI prog w s.heap a S n)
    (h : ∀ (h' : Heap) (d' : Drawn) (tk : Nat) (vs : List Value) (ns : List Int), (∀ b o, s.heap.get? b = some o → h'.get? b = some o) → IntsAre vs ns → ns.length = n → (∀ k, k ∈ ns ↔ S k = true) → R vs { s with heap := h', drawn := d', toks := tk }) :
    wpAny (model prog w) A (collect (.ref a)) R E s := by
  obtain ⟨o, es, ep, t, ho, hx, hd, he, hm, hb, hf, hn, tb⟩ := x
  have la := Heap.lt_size ho
  unfold collect
  refine wpAny_bind (wpAny_runValue (enters entry_proto_collect' PySem.F.plain_proto_collect (wpAny_bind (wpAny_newObj_type (wpAny_pure ⟨plainId_quiet PySem.F.plain_list_iadd _, enters entry_list_iadd' PySem.F.plain_list_iadd ?_⟩)))))
  have hS1 : (s.heap.push { cls := .type "list", data := .seq ([] : List Value).toArray }).get? s.heap.objs.size = some { cls := .type "list", data := .seq #[] } := Heap.get?_push_size _ rfl
  have ho1 : (s.heap.push { cls := .type "list", data := .seq ([] : List Value).toArray }).get? a = some o := Heap.get?_push_of_some _ ho
  have sz1 : (s.heap.push { cls := .type "list", data := .seq ([] : List Value).toArray }).objs.size = s.heap.objs.size + 1 := Heap.size_push ..
  have kp1 : ∀ b ob, s.heap.get? b = some ob → (s.heap.push { cls := .type "list", data := .seq ([] : List Value).toArray }).get? b = some ob := fun b ob e => Heap.get?_push_of_some _ e
  show wpAny _ A.in1 (Builtin.List.listExtendWith (.ref s.heap.objs.size) (.ref a) (.ref s.heap.objs.size)) _ _ _
  generalize s.heap.push { cls := .type "list", data := .seq ([] : List Value).toArray } = H1 at hS1 ho1 sz1 kp1 ⊢
  show wpAny _ _ (typeOf (.ref a) >>= _) _ _ _
  refine wpAny_bind (wpAny_typeOf (T := "set") ⟨o, ho1, hx.1⟩ ?_)
  have n1 : Builtin.List.listSameRef (.ref s.heap.objs.size) (.ref a) = false := by simp [Builtin.List.listSameRef, Nat.ne_of_gt la]
  have n2 : (Value.type "set" == Value.type "list") = false := by decide
  have n3 : (Value.type "set" == Value.type "tuple") = false := by decide
  simp only [n1, n2, n3, Bool.or_false, Bool.false_eq_true, if_false]
  refine wpAny_bind (set_iter (s := { s with heap := H1 }) (A := A.in1) hh ho1 hx hd hf hb tb fun h2 d2 I fp vs St k2 lI fpk pm W st => ?_)
  refine wpAny_bind (wpAny_holding (hint_set (s := { s with heap := h2, drawn := d2 }) ⟨o, k2 _ _ ho1, hx.1⟩ ?_))
  have hS2 := k2 _ _ hS1
  have nf : s.heap.objs.size ∉ fp := fun z => by
    rcases fpk _ z with q | q
    · exact absurd la (by rw [← q]; exact Nat.lt_irrefl _)
    · rw [sz1] at q
      exact absurd q (Nat.not_succ_le_self _)
  have hlen : vs.length = n := by rw [pm.length_eq, List.length_map, Array.length_toList, hn]
  have nz : vs.length ≤ sizeLine := by rw [hlen, ← hn]; exact fits_of_scanBound hb
  refine wpAny_ite_split (fun _ => ?_) (fun z => absurd (by decide) z)
  refine wpAny_bind (wpAny_rule (wpAny_bind ?_))
  show wpAny _ _ (updateSeq s.heap.objs.size (·.push .none) >>= fun _ => updateSeq s.heap.objs.size (·.pop)) _ _ _
  refine wpAny_bind (wpAny_updateSeq hS2 rfl ?_)
  have hS3 := Heap.get?_update_self (Obj.mapSeq (·.push Value.none)) hS2 rfl
  refine wpAny_updateSeq (hz := by seq_fits) hS3 rfl ?_
  have hS4 := Heap.get?_update_self (Obj.mapSeq (·.pop)) hS3 rfl
  have oth : ∀ b ob, b ≠ s.heap.objs.size → h2.get? b = some ob → ((h2.update s.heap.objs.size (Obj.mapSeq (·.push Value.none))).update s.heap.objs.size (Obj.mapSeq (·.pop))).get? b = some ob := fun b ob nb e => (Heap.get?_update_other _ _ (Ne.symm nb)).trans ((Heap.get?_update_other _ _ (Ne.symm nb)).trans e)
  refine wpAny_pure ⟨plainId_quiet PySem.F.plain_extend_loop _, codeAny_extend_loopS (W A.in1 hh).toS nz _ nf _ vs.length 0 _ #[] _ rfl (Nat.zero_le _) ((W A.in1 hh).frame 0 _ _ st fun b hb ob e => oth b ob (fun z => nf (z ▸ hb)) e) hS4 (ItemsOf.nil _) fun s' acc c' hmv hS' hacc => ?_⟩
  apply wpAny_bind (wpAny_load hS' _)
  have ea : acc.toList = vs := by
    apply List.ext_getElem?
    intro j
    rw [Array.getElem?_toList]
    by_cases hj : j < acc.size
    · rw [Array.getElem?_eq_getElem hj]
      exact (hacc.2 j _ (Array.getElem?_eq_getElem hj)).symm
    · rw [Array.getElem?_eq_none (by omega), List.getElem?_eq_none (by rw [← hacc.1]; omega)]
  obtain ⟨ns0, q1, q2⟩ := elems_ints he
  obtain ⟨ns, q3, q4⟩ := ints_perm pm q1
  have ln : ns.length = n := by rw [← q3.length, hlen]
  have := h s'.heap s'.drawn s'.toks vs ns (fun b ob e => hmv.heap b ob (fun z => ?_) (oth b ob (Nat.ne_of_lt (Heap.lt_size e)) (k2 b ob (kp1 b ob e)))) q3 ln (fun k => by rw [q4.mem_iff, q2 k, hm k])
  · obtain ⟨h', g', d', t', os'⟩ := s'
    have eg : g' = s.gens := hmv.gens
    have eo : os' = s.os := hmv.os
    subst eg eo
    show wpAny _ A (pure acc.toList) _ _ _
    rw [ea]
    exact wpAny_pure this
  · have l1 := Heap.lt_size e
    rcases List.mem_cons.mp z with z | z
    · rw [z] at l1
      exact Nat.lt_irrefl _ l1
    · rw [List.mem_singleton.mp z] at l1
      have q : H1.objs.size ≤ I := lI
      rw [sz1] at q
      exact absurd l1 (Nat.not_lt.mpr (Nat.le_trans (Nat.le_succ _) q))
end
end GX
set_option Elab.async false
set_option linter.all false
set_option maxRecDepth 100000
namespace L2
open PySem PySem.Spec PyProof.Rows
def SetO (P : Program) (w : World) (a : Addr) (ks : List Int) : HO := .ext fun h => GX.SetI P w h a (fun k => ks.any (· == k)) ks.length
section
variable {X : Cx}
theorem Inv.draw {pins : List (Addr × Obj)} {σ : St} {H : Hp} {s : Shared} (I : Inv X pins σ H s) (d : Drawn) : Inv X pins σ H { s with drawn := d } := ⟨I.ok, I.os, I.bare, I.base, I.loc, I.cell, I.free, I.freeC, I.pin, I.hok, I.len⟩
theorem call_setI (hc : X.calm = true) : CallR X (.type "set") (fun xs H Q => ∃ (p : Addr) (ns : List Int), xs = [.ref p] ∧ SqL X.K H p (ns.map V.int) ∧ ns.length ≤ 1000 ∧ ∀ (q : Addr) (ks : List Int), H q = none → ks.Nodup → (∀ k, k ∈ ks ↔ k ∈ ns) → Q (.ref q) (upd H q (SetO X.prog X.w q ks))) := by
  intro pins s σ H xs us Q I r h
  obtain ⟨p, ns, rfl, hq, hz, q⟩ := h
  obtain ⟨u, rfl, rx⟩ := vals1 r
  cases rx
  obtain ⟨its, rv, pl, hzz⟩ := I.list hq
  have hi : IntsAre its ns := intsAre_of rv
  have hl : its.length = ns.length := hi.length
  refine GX.set_of_list (items := its.toArray) (ns := ns) (I.ok.hd hc) pl.isList (by simpa using hi) (by rw [List.size_toArray, hl]; unfold scanBound; omega) fun h' tk x kp => ?_
  have sz : its.toArray.size = ns.length := by rw [List.size_toArray, hl]
  rw [sz] at x
  have new : ObjOk X.prog X.w (upd H s.heap.objs.size (SetO X.prog X.w s.heap.objs.size (firstMet (fun i => ns.getD i 0) ns.length))) h' s.heap.objs.size (SetO X.prog X.w s.heap.objs.size (firstMet (fun i => ns.getD i 0) ns.length)) := by
    refine ⟨x, ?_, fun h1 h2 y k => y.at k⟩
    obtain ⟨o, _, _, _, ho, _⟩ := x
    exact ⟨o, ho⟩
  refine ⟨.ref s.heap.objs.size, _, I.laid (t' := tk) kp (Nat.le_refl _) new, rfl, q _ _ (I.hok.fresh (Nat.le_refl _)) (GX.firstMet_nd _ _) fun k => ?_⟩
  rw [GX.firstMet_mem]
  constructor
  · rintro ⟨j, hj, e⟩
    rw [List.getD_eq_getElem?_getD, List.getElem?_eq_getElem hj] at e
    have e' : ns[j] = k := e
    rw [← e']
    exact List.getElem_mem hj
  · intro hk
    obtain ⟨j, hj, e⟩ := List.getElem_of_mem hk
    refine ⟨j, hj, ?_⟩
    rw [List.getD_eq_getElem?_getD, List.getElem?_eq_getElem hj]
    exact e
theorem call_sortedS (hc : X.calm = true) : CallR X (.builtin "sorted") (fun xs H Q => ∃ (a : Addr) (ks : List Int), xs = [.ref a] ∧ H a = some (SetO X.prog X.w a ks) ∧ ks.Nodup ∧ ks.length < 64 ∧ ∀ (l : Addr) (ns : List Int), H l = none → ns.Perm ks → ns.Pairwise (· ≤ ·) → Q (.ref l) (upd H l (.lst (ns.map V.int)))) := by
  intro pins s σ H xs us Q I r h
  obtain ⟨a, ks, rfl, ha, nd, hlen, q⟩ := h
  obtain ⟨u, rfl, rx⟩ := vals1 r
  cases rx
  have x : GX.SetI X.prog X.w s.heap a (fun k => ks.any (· == k)) ks.length := (I.hok a _ ha).1
  refine GX.sorted_in (args_sorted1 _) (GX.set_collect (A := X.A.in1) (I.ok.hd hc) x fun h' d' tk vs ns hk hi hl hm => ?_)
  have pm : ns.Perm ks := GX.perm_of_nd nd (fun k hk => (hm k).mpr (List.any_eq_true.mpr ⟨k, hk, by simp⟩)) (Nat.le_of_eq hl)
  have hv : vs.length = ks.length := by rw [hi.length, hl]
  have I1 : Inv X pins σ H { s with heap := h', drawn := d', toks := tk } := (I.draw d').kept (t' := tk) hk
  refine sort_tail (s := { s with heap := h', drawn := d', toks := tk }) hi (by rw [hv]; exact hlen) (by rw [hv]; exact Nat.le_of_lt (small1000 (by omega))) fun h2 out ns' e k2 he a1 a2 a3 => ?_
  have ln : ns'.length ≤ sizeLine := by rw [a2.length_eq, hl]; exact Nat.le_of_lt (small1000 (by omega))
  exact ⟨.ref h'.objs.size, _, I1.lay_ints (tk := tk) k2 he a1 ln, rfl, q _ ns' (I1.hok.fresh (Nat.le_refl _)) (a2.trans pm) a3⟩
theorem call_listD (hc : X.calm = true) : CallR X (.type "list") (fun xs H Q => ∃ (d : Addr) (m : List (Int × Int)), xs = [.ref d] ∧ Rd H d (.dK (dI m)) ∧ m.length ≤ 1000 ∧ ∀ (l : Addr), H l = none → Q (.ref l) (upd H l (.lst ((m.map (·.1)).map V.int)))) := by
  intro pins s σ H xs us Q I r h
  obtain ⟨d, m, rfl, hd, hlen, q⟩ := h
  obtain ⟨u, rfl, rx⟩ := vals1 r
  cases rx
  obtain ⟨z, hS, vs, rel, dd⟩ := dk_rd I.hok hd
  obtain ⟨ep, hat⟩ := dd.dictAt
  have hl : vs.length = m.length := by rw [← rel.length, dI_len]
  refine PySem.W.kdl_call (A := X.A) (PySem.W.kdl_dict (knd := mixKind X.prog X.w) (kvs := vs) (ep := ep) hS) (I.ok.hd hc) hat (by rw [hl]; exact Nat.le_of_lt (small1000 (by omega))) fun h' tk acc c hk he hacc => ?_
  have hi : IntsAre acc.toList (m.map (·.1)) := keys_ints (P := X.prog) (w := X.w) rel (by rw [Array.length_toList]; exact hacc.1) fun j v e => hacc.2 j v (by rw [← Array.getElem?_toList]; exact e)
  exact ⟨.ref s.heap.objs.size, _, I.lay_ints (tk := tk) (e := c) hk he hi (by rw [List.length_map]; exact Nat.le_of_lt (small1000 (by omega))), rfl, q _ (I.hok.fresh (Nat.le_refl _))⟩
end
end L2
set_option Elab.async false
set_option linter.all false
set_option maxRecDepth 100000
namespace GX
open PySem PyProof.Rows
section
variable {prog : Program} {w : World} {A : Around} {E : Value → Shared → Prop} {s : Shared} {I : Addr} {fp wr : List Addr} {N : Nat} {P : Nat → Value → Prop} {St : Nat → Heap → Prop}
end
end GX
namespace L2
open PySem PySem.Spec PyProof.Rows
section
variable {X : Cx}
abbrev Dcs (H : Hp) : List V → List (List (Int × Int)) → Prop := Paired fun x m => ∃ d, x = .ref d ∧ Rd H d (.dK (dI m))
theorem Dcs.get {H : Hp} : ∀ {xs : List V} {ms : List (List (Int × Int))} {i : Nat} {x : V}, Dcs H xs ms → xs[i]? = some x → ∃ m, ms[i]? = some m ∧ ∃ d, x = .ref d ∧ Rd H d (.dK (dI m))
  | _, _, _, _, .nil, e => by simp at e
  | _, _, 0, _, .cons r _, e => by simp at e; subst e; exact ⟨_, rfl, r⟩
  | _, _, i + 1, x, .cons _ t, e => by
    obtain ⟨p, h1, h2⟩ := Dcs.get (i := i) (x := x) t (by simpa using e)
    exact ⟨p, by simpa using h1, h2⟩
end
end L2
set_option Elab.async false
set_option linter.all false
set_option maxRecDepth 100000
namespace L2
open PySem PySem.Spec PyProof.Rows
section
variable {X : Cx}
theorem Inv.thaw {pins : List (Addr × Obj)} {σ : St} {H : Hp} {s : Shared} {a : Addr} {o : Obj} {kvs : List (Key × V)} (I : Inv X pins σ H s) (h : H a = some (.frz o (.dK kvs))) (n1 : ∀ xs, X.H₀ a ≠ some (.tup xs)) (n2 : ∀ o u, X.H₀ a ≠ some (.frz o u)) (n3 : ∀ ps, X.H₀ a ≠ some (.tbl ps)) : Inv X pins σ (upd H a (.dK kvs)) s := by
  have ne : ∀ b, H b = none → b ≠ a := fun b q z => by rw [z, h] at q; cases q
  have b := I.base
  refine ⟨I.ok, I.os, I.bare, ⟨b.keep, b.slot, fun c oc e n x => ?_, b.there, fun c xs e => ?_, fun c oc u e => ?_, fun c ps e => ?_⟩, I.loc, I.cell, by rw [upd_ne (ne _ I.free)]; exact I.free, fun x c z => by rw [upd_ne (ne _ (I.freeC x c z))]; exact I.freeC x c z,
    fun p hp => let ⟨p1, p2, p3⟩ := I.pin p hp; ⟨p1, by rw [upd_ne (ne _ p2)]; exact p2, p3⟩, fun c u e => ?_, I.len⟩
  · have q := b.free c oc e n x
    rw [upd_ne (ne _ q)]
    exact q
  · have nc : c ≠ a := fun z => n1 _ (z ▸ e)
    rw [upd_ne nc]
    exact b.tups c xs e
  · have nc : c ≠ a := fun z => n2 _ _ (z ▸ e)
    rw [upd_ne nc]
    exact b.frzs c oc u e
  · have nc : c ≠ a := fun z => n3 _ (z ▸ e)
    rw [upd_ne nc]
    exact b.tbls c ps e
  · by_cases hc : c = a
    · subst hc
      rw [upd_same] at e
      cases e
      exact (I.hok c _ h).2
    · rw [upd_ne hc] at e
      refine (I.hok c u e).stay (fun _ _ _ q => q) (fun d q => ?_) fun d xs q => ?_
      · rw [upd_ne (fun z => by rw [z, h] at q; cases q)]
        exact q
      · rw [upd_ne (fun z => by rw [z, h] at q; cases q)]
        exact q
def tThaw (t : TS) : TS := fun D σ H => ∃ a kvs, H a = some (.dK kvs) ∧ t { D with nx := fun σ' H' => (∃ o, H' a = some (.frz o (.dK kvs))) ∧ D.nx σ' (upd H' a (.dK kvs)), rt := fun v H' => (∃ o, H' a = some (.frz o (.dK kvs))) ∧ D.rt v (upd H' a (.dK kvs)) } σ H
theorem ps_thaw {st : Stmt} {t : TS} (h : PS X st t) : PS X st (tThaw t) := by
  intro pins s σ H D I hw
  obtain ⟨a, kvs, ha, ht⟩ := hw
  have n1 : ∀ xs, X.H₀ a ≠ some (.tup xs) := fun xs e => by have := I.base.tups a xs e; rw [ha] at this; cases this
  have n2 : ∀ o u, X.H₀ a ≠ some (.frz o u) := fun o u e => by have := I.base.frzs a o u e; rw [ha] at this; cases this
  have n3 : ∀ ps, X.H₀ a ≠ some (.tbl ps) := fun ps e => by obtain ⟨m, q⟩ := I.base.tbls a ps e; rw [ha] at q; cases q
  refine thn (h pins s σ H _ I ht) fun f s1 q => ?_
  cases f with
  | next =>
    obtain ⟨σ', H', I', ⟨o, e⟩, n⟩ := q
    exact ⟨σ', _, I'.thaw e n1 n2 n3, n⟩
  | brk => exact q
  | cont => exact q
  | ret u =>
    obtain ⟨v, σ', H', I', r, ⟨o, e⟩, n⟩ := q
    exact ⟨v, σ', _, I'.thaw e n1 n2 n3, r, n⟩
end
end L2
set_option Elab.async false
set_option linter.all false
set_option maxRecDepth 100000
namespace L2
open PySem PySem.Spec PyProof.Rows
mutual
inductive Dp (K : PySem.W.Frag) (H : Hp) : V → PyData → Prop
  | none : Dp K H .non .none
  | bool (b : Bool) : Dp K H (.bl b) (.bool b)
  | int (i : Int) : Dp K H (.int i) (.int i)
  | str (x : Str) : Dp K H (.str x) (.str x)
  | tup {a : Addr} {xs : List V} {ds : List PyData} : SqT K H a xs → Dps K H xs ds → Dp K H (.ref a) (.tuple ds)
inductive Dps (K : PySem.W.Frag) (H : Hp) : List V → List PyData → Prop
  | nil : Dps K H [] []
  | cons {x : V} {xs : List V} {d : PyData} {ds : List PyData} : Dp K H x d → Dps K H xs ds → Dps K H (x :: xs) (d :: ds)
end
def SmT (K : PySem.W.Frag) (H H' : Hp) : Prop := ∀ a xs, SqT K H a xs → SqT K H' a xs
theorem SmT.refl {K : PySem.W.Frag} (H : Hp) : SmT K H H := fun _ _ h => h
theorem SmT.trans {K : PySem.W.Frag} {H1 H2 H3 : Hp} (a : SmT K H1 H2) (b : SmT K H2 H3) : SmT K H1 H3 := fun _ _ h => b _ _ (a _ _ h)
theorem SmT.same {K : PySem.W.Frag} {H H' : Hp} (e : Same H H') : SmT K H H' := by
  rintro a xs ((h | ⟨o, h⟩) | h)
  · exact .inl (.inl (e _ _ h))
  · exact .inl (.inr ⟨o, e _ _ h⟩)
  · exact .inr h
theorem SmT.upd {K : PySem.W.Frag} {H : Hp} {l : Addr} {o : HO} (h1 : ∀ xs, H l ≠ some (.tup xs)) (h2 : ∀ z xs, H l ≠ some (.frz z (.tup xs))) : SmT K H (upd H l o) := by
  rintro a xs ((h | ⟨z, h⟩) | h)
  · have : a ≠ l := fun e => h1 xs (e ▸ h)
    exact .inl (.inl (by rw [upd_ne this]; exact h))
  · have : a ≠ l := fun e => h2 z xs (e ▸ h)
    exact .inl (.inr ⟨z, by rw [upd_ne this]; exact h⟩)
  · exact .inr h
theorem SmT.lst {K : PySem.W.Frag} {H : Hp} {l : Addr} {o : HO} {ys : List V} (h : H l = some (.lst ys)) : SmT K H (L2.upd H l o) := .upd (fun _ z => by rw [h] at z; cases z) (fun _ _ z => by rw [h] at z; cases z)
theorem SmT.new {K : PySem.W.Frag} {H : Hp} {l : Addr} {o : HO} (h : H l = none) : SmT K H (L2.upd H l o) := .upd (fun _ z => by rw [h] at z; cases z) (fun _ _ z => by rw [h] at z; cases z)
mutual
theorem Dp.mono {K : PySem.W.Frag} {H H' : Hp} (m : SmT K H H') : ∀ {x : V} {d : PyData}, Dp K H x d → Dp K H' x d
  | _, _, .none => .none
  | _, _, .bool b => .bool b
  | _, _, .int i => .int i
  | _, _, .str x => .str x
  | _, _, .tup h t => .tup (m _ _ h) (Dps.mono m t)
theorem Dps.mono {K : PySem.W.Frag} {H H' : Hp} (m : SmT K H H') : ∀ {xs : List V} {ds : List PyData}, Dps K H xs ds → Dps K H' xs ds
  | _, _, .nil => .nil
  | _, _, .cons h t => .cons (Dp.mono m h) (Dps.mono m t)
end
theorem Dps.len {K : PySem.W.Frag} {H : Hp} : ∀ {xs : List V} {ds : List PyData}, Dps K H xs ds → xs.length = ds.length
  | _, _, .nil => rfl
  | _, _, .cons _ t => by rw [List.length_cons, List.length_cons, t.len]
theorem Dps.get {K : PySem.W.Frag} {H : Hp} : ∀ {xs : List V} {ds : List PyData} {i : Nat} {x : V}, Dps K H xs ds → xs[i]? = some x → ∃ d, ds[i]? = some d ∧ Dp K H x d
  | _, _, _, _, .nil, e => by simp at e
  | _, _, 0, _, .cons r _, e => by simp at e; subst e; exact ⟨_, rfl, r⟩
  | _, _, i + 1, x, .cons _ t, e => by
    obtain ⟨p, h1, h2⟩ := Dps.get (i := i) (x := x) t (by simpa using e)
    exact ⟨p, by simpa using h1, h2⟩
theorem Dps.at {K : PySem.W.Frag} {H : Hp} : ∀ {xs : List V} {ds : List PyData} {i : Nat} {d : PyData}, Dps K H xs ds → ds[i]? = some d → ∃ x, xs[i]? = some x ∧ Dp K H x d
  | _, _, _, _, .nil, e => by simp at e
  | _, _, 0, _, .cons r _, e => by simp at e; subst e; exact ⟨_, rfl, r⟩
  | _, _, i + 1, x, .cons _ t, e => by
    obtain ⟨p, h1, h2⟩ := Dps.at (i := i) t (by simpa using e)
    exact ⟨p, by simpa using h1, h2⟩
section
variable {X : Cx} {pins : List (Addr × Obj)} {σ : St} {H : Hp} {s : Shared}
mutual
theorem Dp.reads (I : Inv X pins σ H s) : ∀ {x : V} {d : PyData} {u : Value}, Dp X.K H x d → RelV x u → ∃ as, Reads s.heap u d as
  | _, _, _, .none, r => by cases r; exact ⟨_, .none⟩
  | _, _, _, .bool b, r => by cases r; exact ⟨_, .bool b⟩
  | _, _, _, .int i, r => by obtain ⟨t, rfl⟩ := r; exact ⟨_, .int i t⟩
  | _, _, _, .str z, r => by obtain ⟨t, rfl⟩ := r; exact ⟨_, .str z t⟩
  | _, _, _, .tup h t, r => by
    cases r
    obtain ⟨its, rv, ⟨o, e, c, n, dd⟩, _⟩ := I.tuple h
    obtain ⟨as, q⟩ := Dps.reads I t rv
    exact ⟨_, .tuple e c dd (by simpa using q)⟩
theorem Dps.reads (I : Inv X pins σ H s) : ∀ {xs : List V} {ds : List PyData} {us : List Value}, Dps X.K H xs ds → Vals xs us → ∃ as, ReadsAll s.heap us ds as
  | _, _, _, .nil, r => by cases r; exact ⟨_, .nil⟩
  | _, _, _, .cons h t, r => by
    cases r with
    | cons r1 r2 =>
      obtain ⟨as, q⟩ := Dp.reads I h r1
      obtain ⟨bs, q2⟩ := Dps.reads I t r2
      exact ⟨_, .cons q q2⟩
end
def Dl (K : PySem.W.Frag) (H : Hp) (x : V) (d : PyData) : Prop := Dp K H x d ∨ ∃ a xs ds, x = .ref a ∧ d = .list ds ∧ SqL K H a xs ∧ Dps K H xs ds
theorem Dl.reads (I : Inv X pins σ H s) {x : V} {d : PyData} {u : Value} (h : Dl X.K H x d) (r : RelV x u) : ∃ as, Reads s.heap u d as := by
  rcases h with h | ⟨a, xs, ds, rfl, rfl, h, t⟩
  · exact Dp.reads I h r
  · cases r
    obtain ⟨its, rv, ⟨o, n, e, c, _, dd⟩, _⟩ := I.list h
    obtain ⟨as, q⟩ := Dps.reads I t rv
    exact ⟨_, .list e c dd (by simpa using q)⟩
def rEqP (K : PySem.W.Frag) : R2 := fun x y H Q => ∃ d e, Dl K H x d ∧ Dl K H y e ∧ d.canLay0 = true ∧ e.canLay0 = true ∧ min d.depth e.depth ≤ 60 ∧ Q (.bl (d.eqv e)) H
def rNeP (K : PySem.W.Frag) : R2 := fun x y H Q => ∃ d e, Dl K H x d ∧ Dl K H y e ∧ d.canLay0 = true ∧ e.canLay0 = true ∧ min d.depth e.depth ≤ 60 ∧ Q (.bl (!d.eqv e)) H
theorem op_eqDl (hu : X.A.units + 64 < cLine) : OpR X (compareOp .Eq) (rEqP X.K) := by
  intro pins s σ H x y v u Q I rx ry h
  obtain ⟨d, e, h1, h2, c1, c2, dp, q⟩ := h
  obtain ⟨as, r1⟩ := h1.reads I rx
  obtain ⟨bs, r2⟩ := h2.reads I ry
  exact SeqAt.compareEq_reads r1 r2 c1 c2 (by omega) ⟨.bl _, H, I, rfl, q⟩
theorem op_neDl (hu : X.A.units + 64 < cLine) : OpR X (compareOp .NotEq) (rNeP X.K) := by
  intro pins s σ H x y v u Q I rx ry h
  obtain ⟨d, e, h1, h2, c1, c2, dp, q⟩ := h
  obtain ⟨as, r1⟩ := h1.reads I rx
  obtain ⟨bs, r2⟩ := h2.reads I ry
  exact SeqAt.compareNe_reads r1 r2 c1 c2 (by omega) ⟨.bl _, H, I, rfl, q⟩
def rInP (K : PySem.W.Frag) (neg : Bool) : R2 := fun x y H Q => ∃ a xs ds d, y = .ref a ∧ (SqL K H a xs ∨ SqT K H a xs) ∧ Dps K H xs ds ∧ Dp K H x d ∧ PyData.canLayAll0 ds = true ∧ d.canLay0 = true ∧ d.depth ≤ 60 ∧ Q (.bl (if neg then !(ds.any fun z => z.eqv d) else ds.any fun z => z.eqv d)) H
theorem op_inP (hu : X.A.units + 64 < cLine) : OpR X (compareOp .In) (rInP X.K false) := by
  intro pins s σ H x y v u Q I rx ry h
  obtain ⟨a, xs, ds, d, rfl, hs, hd, hx, c1, c2, dp, q⟩ := h
  obtain ⟨bs, r2⟩ := hx.reads I rx
  cases ry
  rcases hs with hs | hs
  · obtain ⟨as, r1⟩ := Dl.reads I (x := .ref a) (u := .ref a) (.inr ⟨a, xs, ds, rfl, rfl, hs, hd⟩) rfl
    exact SeqAt.in_list_reads r1 r2 c1 c2 (by omega) ⟨.bl _, H, I, rfl, q⟩
  · obtain ⟨as, r1⟩ := Dp.reads I (x := .ref a) (u := .ref a) (.tup hs hd) rfl
    exact SeqAt.in_tuple_reads r1 r2 c1 c2 (by omega) ⟨.bl _, H, I, rfl, q⟩
theorem op_notinP (hu : X.A.units + 64 < cLine) : OpR X (compareOp .NotIn) (rInP X.K true) := by
  intro pins s σ H x y v u Q I rx ry h
  obtain ⟨a, xs, ds, d, rfl, hs, hd, hx, c1, c2, dp, q⟩ := h
  obtain ⟨bs, r2⟩ := hx.reads I rx
  cases ry
  rcases hs with hs | hs
  · obtain ⟨as, r1⟩ := Dl.reads I (x := .ref a) (u := .ref a) (.inr ⟨a, xs, ds, rfl, rfl, hs, hd⟩) rfl
    exact SeqAt.notIn_list_reads r1 r2 c1 c2 (by omega) ⟨.bl _, H, I, rfl, q⟩
  · obtain ⟨as, r1⟩ := Dp.reads I (x := .ref a) (u := .ref a) (.tup hs hd) rfl
    exact SeqAt.notIn_tuple_reads r1 r2 c1 c2 (by omega) ⟨.bl _, H, I, rfl, q⟩
end
theorem rEqP_refl {K : PySem.W.Frag} {x y : V} {H : Hp} {Q : VK} {d : PyData} (h1 : Dl K H x d) (h2 : Dl K H y d) (c : d.canLay0 = true) (dp : d.depth ≤ 60) (q : Q (.bl true) H) : rEqP K x y H Q :=
  ⟨d, d, h1, h2, c, c, by omega, by rw [SeqAt.eqv_refl d c]; exact q⟩
theorem rNeP_refl {K : PySem.W.Frag} {x y : V} {H : Hp} {Q : VK} {d : PyData} (h1 : Dl K H x d) (h2 : Dl K H y d) (c : d.canLay0 = true) (dp : d.depth ≤ 60) (q : Q (.bl false) H) : rNeP K x y H Q :=
  ⟨d, d, h1, h2, c, c, by omega, by rw [SeqAt.eqv_refl d c]; exact q⟩
end L2
set_option Elab.async false
set_option linter.all false
set_option maxRecDepth 100000
namespace L2
open PySem PySem.Spec PyProof.Rows
theorem same_upd {H : Hp} {l : Addr} {o : HO} (h : H l = none) : Same H (upd H l o) := fun b u e => by rw [upd_ne (ne_of_none e h)]; exact e
def But (d : Addr) (H H' : Hp) : Prop := ∀ b, b ≠ d → H' b = H b
theorem But.upd {d : Addr} {H : Hp} {o : HO} : But d H (L2.upd H d o) := fun b h => upd_ne h
theorem But.same {d : Addr} {B H H' : Hp} (e : But d H H') (s : Same B H) (h : B d = none) : Same B H' := fun b o hb => by rw [e b (ne_of_none hb h)]; exact s b o hb
theorem But.at {d b : Addr} {H H' : Hp} {o : Option HO} (e : But d H H') (n : b ≠ d) (h : H b = o) : H' b = o := by rw [e b n]; exact h
theorem But.of {d b : Addr} {H H' : Hp} {o u : HO} (e : But d H H') (hd : H d = some u) (h : H b = some o) (n : o ≠ u) : H' b = some o := e.at (ne_of h hd n) h
def nwT (xs : List V) (H : Hp) (Q : VK) : Prop := xs.length ≤ sizeLine ∧ ∀ p, H p = none → Q (.ref p) (upd H p (.tup xs))
def nwL (xs : List V) (H : Hp) (Q : VK) : Prop := xs.length ≤ sizeLine ∧ ∀ p, H p = none → Q (.ref p) (upd H p (.lst xs))
section
variable {D : Ends} {σ : St} {H : Hp} {Q : VK} {K : PySem.W.Frag}
theorem x_seqA {te : TE} {g : TG} {u : TS} (h : te σ H fun x H1 => g x σ H1 (u D)) : tSeq (tAsg te g) u D σ H := h
theorem x_seqD {te : TE} {u : TS} (h : te σ H fun _ H1 => u D σ H1) : tSeq (tDrop te) u D σ H := h
theorem x_seqF {wi : TI} {g : TG} {tb u : TS} (h : tFor wi g tb { D with nx := u D } σ H) : tSeq (tFor wi g tb) u D σ H := h
theorem x_seqG {c : TT} {te : TE} {u : TS} (h : c σ H fun b H1 => if b = true then te σ H1 D.rt else u D σ H1) : tSeq (tIfS c (tRet te) tNext) u D σ H := h
theorem x_cut (I : St → Hp → Prop) {t u : TS} (h2 : ∀ σ' H', I σ' H' → u D σ' H') (h : ∀ N : St → Hp → Prop, (∀ σ' H', I σ' H' → N σ' H') → t { D with nx := N } σ H) : tSeq t u D σ H := h _ h2
theorem x_next (h : D.nx σ H) : tNext D σ H := h
theorem x_ret {te : TE} (h : te σ H D.rt) : tRet te D σ H := h
theorem x_drop {te : TE} (h : te σ H fun _ H1 => D.nx σ H1) : tDrop te D σ H := h
theorem x_asg {te : TE} {g : TG} (h : te σ H fun x H1 => g x σ H1 D.nx) : tAsg te g D σ H := h
theorem x_ifs {c : TT} {t u : TS} (h : c σ H fun b H1 => if b = true then t D σ H1 else u D σ H1) : tIfS c t u D σ H := h
theorem x_name {i : Nat} {v : V} {R : St → Hp → Prop} (h : R (σ.set i (some v)) H) : gName i v σ H R := h
theorem x_gnil {R : St → Hp → Prop} (h : R σ H) : gNil [] σ H R := ⟨rfl, h⟩
theorem x_gcons {t : TG} {u : TGs} {v : V} {r : List V} {R : St → Hp → Prop} (h : t v σ H fun σ' H' => u r σ' H' R) : gCons t u (v :: r) σ H R := ⟨v, r, rfl, h⟩
theorem x_gtup {n : Nat} {t : TGs} {a : Addr} {xs : List V} {R : St → Hp → Prop} (h1 : SqT K H a xs) (h2 : xs.length = n) (h : t xs σ H R) : gTup K n t (.ref a) σ H R := ⟨a, xs, rfl, h1, h2, h⟩
theorem x_var {i : Nat} {v : V} (h1 : σ[i]? = some (some v)) (h : Q v H) : tVar i σ H Q := ⟨v, h1, h⟩
theorem x_c {v : V} (h : Q v H) : tC v σ H Q := h
theorem x_op {r : R2} {ta tb : TE} (h : ta σ H fun x H1 => tb σ H1 fun y H2 => r x y H2 Q) : tOp r ta tb σ H Q := h
theorem x_un {r : V → Hp → VK → Prop} {ta : TE} (h : ta σ H fun x H1 => r x H1 Q) : tUn r ta σ H Q := h
theorem x_I0 {g : Int → Int → V} {i j : Int} (h : Q (g i j) H) : rI0 g (.int i) (.int j) H Q := ⟨i, j, rfl, rfl, h⟩
theorem x_I {C : Int → Int → Prop} {g : Int → Int → V} {i j : Int} (hc : C i j) (h : Q (g i j) H) : rI C g (.int i) (.int j) H Q := ⟨i, j, rfl, rfl, hc, h⟩
theorem x_U {g : Int → V} {i : Int} (h : Q (g i) H) : rU g (.int i) H Q := ⟨i, rfl, h⟩
theorem decI (i j : Int) : decide (V.int i = V.int j) = decide (i = j) := by
  by_cases h : i = j
  · subst h; rw [decide_eq_true rfl, decide_eq_true rfl]
  · rw [decide_eq_false h, decide_eq_false (fun e => h (V.int.inj e))]
theorem x_eqI {i j : Int} (h : Q (.bl (decide (i = j))) H) : rEq (.int i) (.int j) H Q := ⟨rfl, by rw [decI]; exact h⟩
theorem x_neI {i j : Int} (h : Q (.bl (!decide (i = j))) H) : rNe (.int i) (.int j) H Q := ⟨rfl, by rw [decI]; exact h⟩
theorem x_test {t : TE} {R : Bool → Hp → Prop} (h : t σ H fun x H' => ∃ k, x = .bl k ∧ R k H') : tTest t σ H R := h
theorem x_tru {t : TE} {R : Bool → Hp → Prop} (h : t σ H fun x H' => ∃ k, TruV K x H' k ∧ R k H') : tTru K t σ H R := h
theorem x_b {t : TE} {R : Bool → Hp → Prop} (h : t σ H fun x H' => ∃ k, x = .bl k ∧ R k H') : tB t σ H R := h
theorem x_exbl {c : Bool} {P : Bool → Prop} (h : P c) : ∃ k, V.bl c = .bl k ∧ P k := ⟨c, rfl, h⟩
theorem x_extru {c : Bool} {P : Bool → Prop} (h : P c) : ∃ k, TruV K (.bl c) H k ∧ P k := ⟨c, rfl, h⟩
theorem x_and {t u : TT} {R : Bool → Hp → Prop} (h : t σ H fun c H1 => if c = true then u σ H1 R else R false H1) : tAnd t u σ H R := h
theorem x_or {t u : TT} {R : Bool → Hp → Prop} (h : t σ H fun c H1 => if c = true then R true H1 else u σ H1 R) : tOr t u σ H R := h
theorem x_not {t : TT} {R : Bool → Hp → Prop} (h : t σ H fun c H1 => R (!c) H1) : tNot t σ H R := h
theorem x_nil {R : List V → Hp → Prop} (h : R [] H) : tNil σ H R := h
theorem x_cons {ta : TE} {tr : TA} {R : List V → Hp → Prop} (h : ta σ H fun x H1 => tr σ H1 fun xs H2 => R (x :: xs) H2) : tCons ta tr σ H R := h
theorem x_tup {t : TA} (h : t σ H fun xs H1 => nwT xs H1 Q) : tTup t σ H Q := h
theorem x_lst {t : TA} (h : t σ H fun xs H1 => nwL xs H1 Q) : tLst t σ H Q := h
theorem x_nwT {xs : List V} (hl : xs.length ≤ sizeLine) (h : ∀ p H', H p = none → Same H H' → H' p = some (.tup xs) → Q (.ref p) H') : nwT xs H Q := ⟨hl, fun p hp => h p _ hp (same_upd hp) upd_same⟩
theorem x_nwL {xs : List V} (hl : xs.length ≤ sizeLine) (h : ∀ p H', H p = none → Same H H' → H' p = some (.lst xs) → Q (.ref p) H') : nwL xs H Q := ⟨hl, fun p hp => h p _ hp (same_upd hp) upd_same⟩
theorem x_dnew (h : ∀ p H', H p = none → Same H H' → H' p = some (.dK (dI [])) → Q (.ref p) H') : tDNewK σ H Q := fun p hp => h p _ hp (same_upd hp) upd_same
theorem x_call {sp : Sp} {dvs : List V} {E : XK} {t : TA} (h : t σ H fun vs H1 => sp (vs ++ dvs) H1 Q E) : tCall sp dvs E t σ H Q := h
theorem x_cb {r : List V → Hp → VK → Prop} {t : TA} (h : t σ H fun vs H1 => r vs H1 Q) : tCB r t σ H Q := h
theorem x_sl {r : V → Option Int → Option Int → Hp → VK → Prop} {te : TE} {tl th : TO} (h : te σ H fun x H1 => tl σ H1 fun l H2 => th σ H2 fun u H3 => r x l u H3 Q) : tSl r te tl th σ H Q := h
theorem x_nopart {R : Option Int → Hp → Prop} (h : R none H) : tNoPart σ H R := h
theorem x_part {t : TE} {R : Option Int → Hp → Prop} (h : t σ H fun x H1 => ∃ i, x = .int i ∧ R (some i) H1) : tPart t σ H R := h
theorem x_exint {c : Int} {P : Int → Prop} (h : P c) : ∃ k, V.int c = .int k ∧ P k := ⟨c, rfl, h⟩
theorem x_slL {a : Addr} {xs : List V} {lo hi : Option Int} (h1 : SqL K H a xs) (h : ∀ p H', H p = none → Same H H' → H' p = some (.lst (cutV xs lo hi)) → Q (.ref p) H') : rSlL K (.ref a) lo hi H Q := ⟨a, xs, rfl, h1, fun p hp => h p _ hp (same_upd hp) upd_same⟩
theorem x_ixL {a : Addr} {xs : List V} {i : Int} {v : V} (h1 : SqL K H a xs) (h2 : atI xs i = some v) (h : Q v H) : rIxL K (.ref a) (.int i) H Q := ⟨a, xs, i, v, rfl, rfl, h1, h2, h⟩
theorem x_ixT {a : Addr} {xs : List V} {i : Int} {v : V} (h1 : SqT K H a xs) (h2 : atI xs i = some v) (h : Q v H) : rIxT K (.ref a) (.int i) H Q := ⟨a, xs, i, v, rfl, rfl, h1, h2, h⟩
theorem x_dget {td ty : TE} (h : td σ H fun x H1 => ty σ H1 fun y H2 => ∃ a v, x = .ref a ∧ DGet H2 a y (some v) ∧ Q v H2) : tDGet td ty σ H Q := h
theorem x_exdg {d : Addr} {m : List (Int × Int)} {k n : Int} {P : V → Prop} (hd : Rd H d (.dK (dI m))) (hk : lkI m k = some n) (h : P (.int n)) : ∃ a v, V.ref d = .ref a ∧ DGet H a (.int k) (some v) ∧ P v :=
  ⟨d, .int n, rfl, .inl ⟨_, Sum.inl k, hd, rfl, by rw [dI_val, hk]; rfl⟩, h⟩
theorem x_dget2 {td ty tx : TE} (h : td σ H fun x H1 => ∃ a, x = .ref a ∧ IsD H1 a ∧ ty σ H1 fun y H2 => tx σ H2 fun z H3 => ∃ o, DGet H3 a y o ∧ Q (o.getD z) H3) : tDGet2 td ty tx σ H Q := h
theorem x_exdo {d : Addr} {m : List (Int × Int)} {k : Int} {P : Option V → Prop} (hd : Rd H d (.dK (dI m))) (h : P ((lkI m k).map V.int)) : ∃ o, DGet H d (.int k) o ∧ P o :=
  ⟨_, .inl ⟨_, Sum.inl k, hd, rfl, (dI_val m k).symm⟩, h⟩
theorem getDmap (o : Option Int) (z : Int) : (o.map V.int).getD (V.int z) = V.int (o.getD z) := by cases o <;> rfl
theorem x_din {td ty : TE} (h : ty σ H fun y H1 => td σ H1 fun x H2 => ∃ a o, x = .ref a ∧ DGet H2 a y o ∧ Q (.bl o.isSome) H2) : tDIn ty td σ H Q := h
theorem x_dput {td ty tv : TE} (h : tv σ H fun v H1 => td σ H1 fun x H2 => ty σ H2 fun y H3 => ∃ a H4, x = .ref a ∧ DPut H3 a y v H4 ∧ D.nx σ H4) : sDPut td ty tv D σ H := h
theorem x_exdput {d : Addr} {m : List (Int × Int)} {k n : Int} {P : Hp → Prop} (hd : H d = some (.dK (dI m))) (nd : (m.map (·.1)).Nodup) (hl : m.length < sizeLine) (h : ∀ H2, But d H H2 → H2 d = some (.dK (dI (putI m k n))) → P H2) : ∃ a H4, V.ref d = .ref a ∧ DPut H a (.int k) (.int n) H4 ∧ P H4 :=
  ⟨d, _, rfl, .inl ⟨_, Sum.inl k, hd, rfl, by rw [dI_len]; exact hl, rfl⟩, h _ .upd (by rw [upd_same, dI_put m k n nd])⟩
theorem x_for {wi : TI} {g : TG} {tb : TS} (h : wi σ H fun J H1 => ∃ W : Nat → Nat → St → Hp → Prop, (∃ m, W 0 m σ H1) ∧ ∀ i m σ H, W i m σ H →
  (J.stop i H ∧ D.nx σ H) ∨ (J.go i H ∧ ∃ N : St → Hp → Prop, (∀ σ' H', N σ' H' → ∃ m', m' < m ∧ W (i + 1) m' σ' H') ∧ ∀ x H', J.yld i H x H' → g x σ H' fun σ2 H2 => tb { D with nx := N, ct := N, bk := D.nx } σ2 H2)) : tFor wi g tb D σ H := h
theorem x_ilist {tl : TE} {R : It → Hp → Prop} (h : tl σ H fun x H1 => ∃ a, x = .ref a ∧ (∃ xs, SqL K H1 a xs) ∧ R (Itl K a) H1) : iList K tl σ H R := h
theorem x_exil {a : Addr} {xs : List V} {P : Addr → Prop} (hd : SqL K H a xs) (h : P a) : ∃ b, V.ref a = .ref b ∧ (∃ xs, SqL K H b xs) ∧ P b := ⟨a, rfl, ⟨xs, hd⟩, h⟩
theorem x_itup {tl : TE} {R : It → Hp → Prop} (h : tl σ H fun x H1 => ∃ a, x = .ref a ∧ (∃ xs, SqT K H1 a xs) ∧ R (Itt K a) H1) : iTup K tl σ H R := h
theorem x_exit {a : Addr} {xs : List V} {P : Addr → Prop} (hd : SqT K H a xs) (h : P a) : ∃ b, V.ref a = .ref b ∧ (∃ xs, SqT K H b xs) ∧ P b := ⟨a, rfl, ⟨xs, hd⟩, h⟩
theorem x_ir1 {ta : TA} {R : It → Hp → Prop} (h : ta σ H fun vs H1 => ∃ j : Int, vs = [.int j] ∧ -(2 ^ 62) ≤ j ∧ j < 2 ^ 62 ∧ R (Itr 0 j.toNat) H1) : iRng1 ta σ H R := h
theorem x_bm {T : String} {r : V → List V → Hp → VK → Prop} {to : TE} {t : TA} (h : to σ H fun x H1 => tyV K T x H1 ∧ t σ H1 fun xs H2 => r x xs H2 Q) : tBM K T r to t σ H Q := h
theorem x_tyl {a : Addr} {xs : List V} {P : Prop} (hd : H a = some (.lst xs)) (h : P) : tyV K "list" (.ref a) H ∧ P := ⟨.inl ⟨rfl, _, SqL.of hd⟩, h⟩
theorem x_append {a : Addr} {xs : List V} {y : V} (hd : H a = some (.lst xs)) (hl : xs.length < sizeLine) (h : ∀ H2, But a H H2 → H2 a = some (.lst (xs ++ [y])) → Q .non H2) : rAppend (.ref a) [y] H Q := ⟨a, xs, y, rfl, rfl, hd, hl, h _ .upd upd_same⟩
theorem x_comp {src : List (Option Nat)} {wi : TI} {g : TG} {tt : TT} {te : TE} (h : wi σ H fun J H1 => ∀ D, H1 D = none → ∃ W : Nat → Nat → St → Hp → Prop, (∃ m, W 0 m (blkSt src σ) (upd H1 D (.lst []))) ∧
  ∀ i m σ' H', W i m σ' H' → (J.stop i H' ∧ Q (.ref D) H') ∨ (J.go i H' ∧ ∃ N : St → Hp → Prop, (∀ σ2 H2, N σ2 H2 → ∃ m', m' < m ∧ W (i + 1) m' σ2 H2) ∧
    ∀ x H'', J.yld i H' x H'' → cTurn g tt te D N x σ' H'')) : tComp src wi g tt te σ H Q := h
end
theorem iteNT {A B : Prop} (h : B) : if (!true) = true then A else B := h
theorem pow60p : (0 : Int) < (10 : Int) ^ (60 : Int).toNat := Int.pow_pos (by decide)
end L2
set_option Elab.async false
set_option linter.all false
set_option maxRecDepth 100000
namespace L2
open PySem PySem.Spec PyProof.Rows
section
variable {X : Cx} {K : PySem.W.Frag}
theorem ix_tupK (hK : X.K = K) : IxR X (rIxT K) := by subst hK; exact ix_tup
theorem ix_listK (hK : X.K = K) : IxR X (rIxL K) := by subst hK; exact ix_list
theorem sl_listK (hK : X.K = K) : SlR X (rSlL K) := by subst hK; exact sl_list
theorem op_neK (hK : X.K = K) (hu : X.A.units + 64 < cLine) : OpR X (compareOp .NotEq) (rNeP K) := by subst hK; exact op_neDl hu
theorem op_inK (hK : X.K = K) (hu : X.A.units + 64 < cLine) : OpR X (compareOp .In) (rInP K false) := by subst hK; exact op_inP hu
theorem op_ninK (hK : X.K = K) (hu : X.A.units + 64 < cLine) : OpR X (compareOp .NotIn) (rInP K true) := by subst hK; exact op_notinP hu
def rLen (K : PySem.W.Frag) : List V → Hp → VK → Prop := fun xs H Q => ∃ p ys, xs = [.ref p] ∧ (SqL K H p ys ∨ SqT K H p ys) ∧ Q (.int ys.length) H
theorem call_lenK (hK : X.K = K) : CallR X (.builtin "len") (rLen K) := by subst hK; exact call_len_seq
def rTupleOf (K : PySem.W.Frag) : List V → Hp → VK → Prop := fun xs H Q => ∃ p ys, xs = [.ref p] ∧ ((SqL K H p ys ∧ ∀ l, H l = none → Q (.ref l) (upd H l (.tup ys))) ∨ (SqT K H p ys ∧ Q (.ref p) H))
theorem call_tupleK (hK : X.K = K) : CallR X (.type "tuple") (rTupleOf K) := by subst hK; exact call_tuple_of
def rIsI (K : PySem.W.Frag) : List V → Hp → VK → Prop := fun xs H Q => ∃ (x : V) (t : Value) (T : String) (b : Bool), xs = [x, .ty T] ∧ TyOf K H x t ∧ PySem.W.kitOne K t (.type T) = some b ∧ Q (.bl b) H
theorem call_isiK (hK : X.K = K) : CallR X (.builtin "isinstance") (rIsI K) := by subst hK; exact call_isinst
theorem pg_tupK {es : List Expr} {k : Nat} {t : TGs} {n : Nat} {pos : Pos} (hK : X.K = K) (hc : X.calm = true) (h : PGs X es t) (hn : (assignEach es X.env).length = n := by rfl) (hst : (assignEach es X.env).findIdx? (·.1) = none := by rfl) : PG X (.Tuple es k pos) (gTup K n t) := by subst hK; exact pg_tup hc h hn hst
theorem pi_listK {tg l : Expr} {tl : TE} (hK : X.K = K) (hl : PE X l tl) : PI X tg l (iList K tl) := by subst hK; exact pi_list hl
theorem pi_tupK {tg l : Expr} {tl : TE} (hK : X.K = K) (hl : PE X l tl) : PI X tg l (iTup K tl) := by subst hK; exact pi_tup hl
theorem pi_seqK {tg l : Expr} {tl : TE} (hK : X.K = K) (hl : PE X l tl) : PI X tg l (iSeq K tl) := by subst hK; exact pi_seq hl
theorem pe_appendK {o e : Expr} {to : TE} {t : TA} {apos cpos : Pos} (hK : X.K = K) (h : PE X (.Call (.Attribute o "append" apos) [e] [] cpos) (tBM X.K "list" rAppend to t)) : PE X (.Call (.Attribute o "append" apos) [e] [] cpos) (tBM K "list" rAppend to t) := by subst hK; exact h
end
section
variable {σ : St} {H : Hp} {Q : VK} {K : PySem.W.Frag}
theorem x_rtupL {a : Addr} {xs : List V} (hd : SqL K H a xs) (h : ∀ p H', H p = none → Same H H' → H' p = some (.tup xs) → Q (.ref p) H') : rTupleOf K [.ref a] H Q := ⟨a, xs, rfl, .inl ⟨hd, fun p hp => h p _ hp (same_upd hp) upd_same⟩⟩
end
end L2
set_option Elab.async false
set_option linter.all false
set_option maxRecDepth 100000
namespace L2
open PySem PySem.Spec PyProof.Rows
theorem cut_ints (ns : List Int) (lo hi : Option Int) : ∃ ms : List Int, cutV (ns.map V.int) lo hi = ms.map V.int ∧ ms.length ≤ ns.length := by
  refine ⟨(ns.drop (HT.sIx (ns.map V.int).length 0 lo)).take (HT.sIx (ns.map V.int).length (ns.map V.int).length hi - HT.sIx (ns.map V.int).length 0 lo), ?_, ?_⟩
  · unfold cutV
    rw [List.map_take, List.map_drop]
  · rw [List.length_take, List.length_drop]
    omega
theorem same_rd {H H' : Hp} {a : Addr} {u : HO} (s : Same H H') (h : Rd H a u) : Rd H' a u := by
  rcases h with h | ⟨o, h⟩
  · exact .inl (s _ _ h)
  · exact .inr ⟨o, s _ _ h⟩
theorem take_get {α : Type} {ls : List α} {i : Nat} {n : α} (h : ls[i]? = some n) : ls.take (i + 1) = ls.take i ++ [n] := by
  rw [List.take_succ, h]
  rfl
theorem int_get {ms : List Int} {i : Nat} {x : V} (h : (ms.map V.int)[i]? = some x) : ∃ n : Int, ms[i]? = some n ∧ x = .int n := by
  rw [List.getElem?_map] at h
  cases e : ms[i]? with
  | none => rw [e] at h; cases h
  | some n => rw [e] at h; exact ⟨n, rfl, (Option.some.inj h).symm⟩
theorem atI_int {α : Type} {xs : List α} {i : Int} {v : α} (h0 : 0 ≤ i) (h : xs[i.toNat]? = some v) : atI xs i = some v := by
  obtain ⟨n, rfl⟩ := Int.eq_ofNat_of_zero_le h0
  exact atI_nat h
theorem at2 (x y c : Int) : ∃ z : Int, atI [V.int x, V.int y] (c % 2) = some (.int z) ∧ (z = x ∨ z = y) := by
  rcases Int.emod_two_eq c with h | h
  · exact ⟨x, by rw [h]; exact atI_nat (j := 0) rfl, .inl rfl⟩
  · exact ⟨y, by rw [h]; exact atI_nat (j := 1) rfl, .inr rfl⟩
abbrev Nm := Int × Int × Int
def nmD (p : Nm) : PyData := .tuple [.int p.1, .int p.2.1, .int p.2.2]
def NmAt (H : Hp) (x : V) (p : Nm) : Prop := ∃ a, x = .ref a ∧ H a = some (.tup [.int p.1, .int p.2.1, .int p.2.2])
abbrev Nms (H : Hp) : List V → List Nm → Prop := Paired (NmAt H)
def SmH (H H' : Hp) : Prop := ∀ a xs, H a = some (.tup xs) → H' a = some (.tup xs)
theorem SmH.refl (H : Hp) : SmH H H := fun _ _ h => h
theorem SmH.trans {H1 H2 H3 : Hp} (a : SmH H1 H2) (b : SmH H2 H3) : SmH H1 H3 := fun _ _ h => b _ _ (a _ _ h)
theorem SmH.same {H H' : Hp} (e : Same H H') : SmH H H' := fun _ _ h => e _ _ h
theorem SmH.upd {H : Hp} {l : Addr} {o : HO} (h1 : ∀ xs, H l ≠ some (.tup xs)) : SmH H (upd H l o) := fun a xs h => by
  have : a ≠ l := fun e => h1 xs (e ▸ h)
  rw [upd_ne this]; exact h
theorem SmH.lst {H : Hp} {l : Addr} {o : HO} {ys : List V} (h : H l = some (.lst ys)) : SmH H (L2.upd H l o) := .upd (fun _ z => by rw [h] at z; cases z)
theorem SmH.new {H : Hp} {l : Addr} {o : HO} (h : H l = none) : SmH H (L2.upd H l o) := .upd (fun _ z => by rw [h] at z; cases z)
theorem Nms.get {H : Hp} : ∀ {xs : List V} {ns : List Nm} {i : Nat} {x : V}, Nms H xs ns → xs[i]? = some x → ∃ p, ns[i]? = some p ∧ NmAt H x p
  | _, _, _, _, .nil, e => by simp at e
  | _, _, 0, _, .cons r _, e => by simp at e; subst e; exact ⟨_, rfl, r⟩
  | _, _, i + 1, x, .cons _ t, e => by
    obtain ⟨p, h1, h2⟩ := Nms.get (i := i) (x := x) t (by simpa using e)
    exact ⟨p, by simpa using h1, h2⟩
theorem Nms.len {H : Hp} {xs : List V} {ns : List Nm} (h : Nms H xs ns) : xs.length = ns.length := Paired.length h
theorem Nms.at {H : Hp} {xs : List V} {ns : List Nm} {i : Nat} (h : Nms H xs ns) (hi : i < ns.length) : ∃ x, xs[i]? = some x ∧ NmAt H x ns[i] := by
  have hx : i < xs.length := by rw [h.len]; exact hi
  obtain ⟨p, e, r⟩ := h.get (List.getElem?_eq_getElem hx)
  rw [List.getElem?_eq_getElem hi] at e
  cases e
  exact ⟨_, List.getElem?_eq_getElem hx, r⟩
theorem NmAt.dp {K : PySem.W.Frag} {H : Hp} {x : V} {p : Nm} (h : NmAt H x p) : Dp K H x (nmD p) := by
  obtain ⟨a, rfl, h⟩ := h
  exact .tup (SqT.of h) (.cons (.int _) (.cons (.int _) (.cons (.int _) .nil)))
section
variable {σ : St} {H : Hp} {Q : VK} {K : PySem.W.Frag} {X : Cx}
theorem x_rlenQ {a : Addr} {xs : List V} (hd : SqL K H a xs ∨ SqT K H a xs) (h : Q (.int xs.length) H) : rLen K [.ref a] H Q := ⟨a, xs, rfl, hd, h⟩
end
end L2
set_option Elab.async false
set_option linter.all false
set_option maxRecDepth 100000
namespace L2
open PySem PySem.Spec PyProof.Rows
section
variable {X : Cx} {CX : CXT} {k : Nat} {f C : Addr} {fd : FuncData} {ps : List Str} {sp : Sp} {dvs : List V} {ds : List Value} {E : XK} {x m : Str} {p pos apos : Pos} {e o : Expr} {es : List Expr} {ta : TE} {t : TA}
structure ClsFn (K : PySem.W.Frag) (C : Addr) (m : Str) (f : Addr) : Prop where
  ga : PySem.W.specialIn K (.ref C) "__getattribute__" = some (some (.builtin "type.__getattribute__"))
  rd : PySem.W.readsIn K C (.type "type") = true
  at_ : PySem.W.findCls K (.ref C) (.type "type") m = some (.val (.ref f))
  hd : PySem.W.handedIn (.ref f) = true
  kp : PySem.W.keepIn K (.ref f) = true
theorem pe_clsfn {pl : Sem Bool} (hg : Gl X x) (hm : X.mg x = some (.ref C)) (c : ClsFn X.K C m f) (F : FnOk X.prog X.w X.K X.mg X.base CX0 k f fd ps sp) (hb : Binds X.K fd ps []) (hr : Room k X.A) (ha : PA X (e :: es) t)
    (hdb : (x == ("__debug__" : Str)) = false := by decide)
    (hst : starEach (e :: es) X.env = (false, eval e X.env) :: starEach es X.env := by rfl) (hpl : (backTo pos (starEach es X.env)).any (·.1) = false := by rfl)
    (ht : eval (.Call (.Attribute (.Name x p) m apos) (e :: es) [] pos) X.env = (do
      let ov ← eval (.Name x p) X.env
      standAt apos.atName
      let (f, first) ← holding [ov] (getMethod ov m pl)
      callWith pos f first (backTo pos (starEach (e :: es) X.env)) (backToKw pos (keywordEach [] X.env))) := by rfl) :
    PE X (.Call (.Attribute (.Name x p) m apos) (e :: es) [] pos) (tCall sp [] E0 t) := by
  intro pins s σ H Q I h
  refine PySem.W.methodCall_KW (pl := pl) (thn (pe_glob (v := .ref C) hg hm rfl hdb pins s σ H (fun v H1 => v = .ref C ∧ t σ H1 fun vs H2 => sp (vs ++ []) H2 Q E0) I ⟨rfl, h⟩) fun u s1 ⟨x, H1, I1, rx, ex, q⟩ => ?_) ht
  subst ex
  obtain rfl : u = Value.ref C := rx
  refine PySem.W.method_cls I1.kIn c.ga (PySem.W.cls_value I1.kIn c.rd c.at_ c.hd ?_)
  refine PySem.W.callWith_K (first := []) (h₀ := X.base) I.ok.mod.kin c.kp (thn (ha pos pins _ σ H1 _ (I1.tok _) q) fun us s2 ⟨vs, H2, I2, r, q2⟩ => ⟨I2.kIn, ?_⟩) hst hpl
  exact run_fn (us := us) (vs := vs) F hr hb .nil pass0 I2 r q2
def MOk (P : Program) (w : World) (K : PySem.W.Frag) (mg : Str → Option Value) (base : Heap) (k : Nat) (m : Str) (ms : List (Addr × Sp)) : Prop :=
  ∀ cs ∈ ms, ∃ f fd ps, Cls K cs.1 ∧ Meth K cs.1 m f ∧ FnOk P w K mg base CX0 k f fd ps cs.2 ∧ Binds K fd ps []
theorem MOk.nil {P : Program} {w : World} {K : PySem.W.Frag} {mg : Str → Option Value} {base : Heap} : MOk P w K mg base k m [] := fun _ h => nomatch h
theorem MOk.cons {P : Program} {w : World} {K : PySem.W.Frag} {mg : Str → Option Value} {base : Heap} {ms : List (Addr × Sp)} (c : Cls K C) (hm : Meth K C m f) (F : FnOk P w K mg base CX0 k f fd ps sp) (hb : Binds K fd ps []) (r : MOk P w K mg base k m ms) : MOk P w K mg base k m ((C, sp) :: ms) := by
  intro cs h
  rcases List.mem_cons.mp h with rfl | h
  · exact ⟨f, fd, ps, c, hm, F, hb⟩
  · exact r cs h
def mtS (ms : List (Addr × Sp)) (m : Str) (t : TA) (σ : St) (x : V) (H : Hp) (Q : VK) : Prop :=
  ∃ cs ∈ ms, ∃ a dx fs, x = .ref a ∧ H a = some (.ins cs.1 dx fs) ∧ fs.lookup m = none ∧ t σ H fun vs H2 => cs.2 (x :: (vs ++ [])) H2 Q E0
def tMethS (ms : List (Addr × Sp)) (m : Str) (ta : TE) (t : TA) : TE := fun σ H Q => ta σ H fun x H1 => mtS ms m t σ x H1 Q
theorem pe_methS {pl : Sem Bool} {ms : List (Addr × Sp)} (M : MOk X.prog X.w X.K X.mg X.base k m ms) (he : PE X o ta) (hr : Room k X.A) (ha : PA X (e :: es) t)
    (hst : starEach (e :: es) X.env = (false, eval e X.env) :: starEach es X.env := by rfl) (hpl : (backTo pos (starEach es X.env)).any (·.1) = false := by rfl)
    (ht : eval (.Call (.Attribute o m apos) (e :: es) [] pos) X.env = (do
      let ov ← eval o X.env
      standAt apos.atName
      let (f, first) ← holding [ov] (getMethod ov m pl)
      callWith pos f first (backTo pos (starEach (e :: es) X.env)) (backToKw pos (keywordEach [] X.env))) := by rfl) :
    PE X (.Call (.Attribute o m apos) (e :: es) [] pos) (tMethS ms m ta t) := by
  intro pins s σ H Q I h
  refine PySem.W.methodCall_KW (pl := pl) (thn (he pins s σ H _ I h) fun u s1 ⟨x, H1, I1, rx, cs, hcs, a, dx, fs, ex, ea, l, q⟩ => ?_) ht
  subst ex
  obtain rfl : u = Value.ref a := rx
  obtain ⟨f, fd, ps, c, hm, F, hb⟩ := M cs hcs
  refine getmeth_ok I1 ea c hm l ?_
  refine PySem.W.callWith_K (first := [.ref a]) (h₀ := X.base) I.ok.mod.kin hm.kp (thn (ha pos pins s1 σ H1 _ I1 q) fun us s2 ⟨vs, H2, I2, r, q2⟩ => ⟨I2.kIn, ?_⟩) hst hpl
  exact run_fn (us := .ref a :: us) (vs := .ref a :: vs) F hr hb .nil pass0 I2 (.cons rfl r) q2
theorem pe_methS0 {pl : Sem Bool} {ms : List (Addr × Sp)} (M : MOk X.prog X.w X.K X.mg X.base k m ms) (he : PE X o ta) (hr : Room k X.A)
    (ht : eval (.Call (.Attribute o m apos) [] [] pos) X.env = (do
      let ov ← eval o X.env
      standAt apos.atName
      let (f, first) ← holding [ov] (getMethod ov m pl)
      callWith pos f first (backTo pos (starEach [] X.env)) (backToKw pos (keywordEach [] X.env))) := by rfl) :
    PE X (.Call (.Attribute o m apos) [] [] pos) (tMethS ms m ta tNil) := by
  intro pins s σ H Q I h
  refine PySem.W.methodCall_KW (pl := pl) (thn (he pins s σ H _ I h) fun u s1 ⟨x, H1, I1, rx, cs, hcs, a, dx, fs, ex, ea, l, q⟩ => ?_) ht
  subst ex
  obtain rfl : u = Value.ref a := rx
  obtain ⟨f, fd, ps, c, hm, F, hb⟩ := M cs hcs
  refine getmeth_ok I1 ea c hm l ?_
  exact PySem.W.callWith_K0 (first := [.ref a]) I1.kIn hm.kp (run_fn (us := [.ref a]) (vs := [.ref a]) F hr hb .nil pass0 I1 (.cons rfl .nil) q)
structure InsF (K : PySem.W.Frag) (C : Addr) : Prop where
  ha : PySem.W.findIn K (.ref C) "__class__" = some (some (.builtin "object.__class__"))
  hn : PySem.W.specialIn K (.builtin "object.__class__") "__get__" = some (some (.builtin "getset_descriptor.__get__"))
  htk : PySem.W.takesIn K (.builtin "object.__class__") = some true
  hm : PySem.W.mroIn K C (.type "object") = some true
theorem InsF.ty {K : PySem.W.Frag} {H : Hp} {a C dx : Addr} {fs : List (Str × V)} (i : InsF K C) (e : H a = some (.ins C dx fs)) (c : Cls K C) : TyOf K H (.ref a) (.ref C) := .ins e c i.ha i.hn i.htk i.hm
end
section
variable {X : Cx} {K : PySem.W.Frag}
theorem pe_fldK {e : Expr} {ta : TE} {f : Str} {pos : Pos} (hK : X.K = K) (he : PE X e ta) (hb : attributeBase e f X.env (eval e X.env) = eval e X.env) : PE X (.Attribute e f pos) (tFld K ta f) := by subst hK; exact pe_fld he hb
theorem ps_fldK {o value : Expr} {ta tv : TE} {f : Str} {pos pos' : Pos} (hK : X.K = K) (ha : PE X o ta) (hv : PE X value tv) (hs : swapsWith value (some (.Attribute o f pos')) pos.line X.env = pure false) : PS X (.Assign [.Attribute o f pos'] value pos) (sFld K ta tv f) := by subst hK; exact ps_fld ha hv hs
end
section
variable {D : Ends} {σ : St} {H : Hp} {Q : VK} {K : PySem.W.Frag}
def fldK (K : PySem.W.Frag) (f : Str) (x : V) (H : Hp) (Q : VK) : Prop := ∃ a C dx fs v, x = .ref a ∧ H a = some (.ins C dx fs) ∧ Cls K C ∧ NoAttr K C f ∧ fs.lookup f = some v ∧ Q v H
theorem x_fld {ta : TE} {f : Str} (h : ta σ H fun x H1 => fldK K f x H1 Q) : tFld K ta f σ H Q := h
theorem x_fldk {f : Str} {a C dx : Addr} {fs : List (Str × V)} {v : V} (e : H a = some (.ins C dx fs)) (c : Cls K C) (n : NoAttr K C f) (l : fs.lookup f = some v) (h : Q v H) : fldK K f (.ref a) H Q := ⟨a, C, dx, fs, v, rfl, e, c, n, l, h⟩
def sfK (K : PySem.W.Frag) (f : Str) (y x : V) (H : Hp) (R : Hp → Prop) : Prop := ∃ a C dx fs, x = .ref a ∧ H a = some (.ins C dx fs) ∧ Cls K C ∧ NoAttr K C f ∧ fs.length < 1000 ∧ R (upd H a (.ins C dx (putF f y fs)))
theorem x_sfld {ta tv : TE} {f : Str} (h : tv σ H fun y H1 => ta σ H1 fun x H2 => sfK K f y x H2 fun H3 => D.nx σ H3) : sFld K ta tv f D σ H := h
theorem x_sfk {f : Str} {y : V} {a C dx : Addr} {fs : List (Str × V)} {R : Hp → Prop} (e : H a = some (.ins C dx fs)) (c : Cls K C) (n : NoAttr K C f) (hl : fs.length < 1000) (h : ∀ H2, But a H H2 → H2 a = some (.ins C dx (putF f y fs)) → R H2) : sfK K f y (.ref a) H R := ⟨a, C, dx, fs, rfl, e, c, n, hl, h _ .upd upd_same⟩
theorem x_methS {ms : List (Addr × Sp)} {m : Str} {ta : TE} {t : TA} (h : ta σ H fun x H1 => mtS ms m t σ x H1 Q) : tMethS ms m ta t σ H Q := h
theorem x_mtS0 {ms : List (Addr × Sp)} {m : Str} {t : TA} {C a dx : Addr} {sp : Sp} {fs : List (Str × V)} (e : H a = some (.ins C dx fs)) (l : fs.lookup m = none) (h : t σ H fun vs H2 => sp (.ref a :: (vs ++ [])) H2 Q E0) : mtS ((C, sp) :: ms) m t σ (.ref a) H Q :=
  ⟨(C, sp), List.mem_cons_self, a, dx, fs, rfl, e, l, h⟩
def mkK (C : Addr) (sp : Sp) (vs : List V) (H : Hp) (Q : VK) : Prop := ∀ x dx, H x = none → H dx = none → dx ≠ x → sp (.ref x :: (vs ++ [])) (upd (upd H dx (.own x)) x (.ins C dx [])) (fun v H2 => v = .non ∧ Q (.ref x) H2) E0
theorem x_make {C : Addr} {sp : Sp} {t : TA} (h : t σ H fun vs H1 => mkK C sp vs H1 Q) : tMake C sp [] E0 t σ H Q := h
theorem x_mk {C : Addr} {sp : Sp} {vs : List V} (h : ∀ x dx H', H x = none → Same H H' → H' x = some (.ins C dx []) → sp (.ref x :: (vs ++ [])) H' (fun v H2 => v = .non ∧ Q (.ref x) H2) E0) : mkK C sp vs H Q := by
  intro x dx nx ndx nex
  refine h x dx _ nx (fun b o e => ?_) upd_same
  rw [upd_ne (ne_of_none e nx), upd_ne (ne_of_none e ndx)]
  exact e
end
theorem x_nx {f b c : St → Hp → Prop} {r : VK} {σ : St} {H : Hp} (h : f σ H) : Ends.nx ⟨f, r, b, c⟩ σ H := h
theorem x_yes {σ : St} {H : Hp} {R : Bool → Hp → Prop} (h : R true H) : tYes σ H R := h
theorem x_turn {g : TG} {tt : TT} {te : TE} {D : Addr} {N : St → Hp → Prop} {x : V} {σ : St} {H : Hp} (h : g x σ H fun σ2 H2 => tt σ2 H2 fun b H3 => if b = true then te σ2 H3 fun y H4 => ∃ ys, H4 D = some (.lst ys) ∧ ys.length < sizeLine ∧ N σ2 (upd H4 D (.lst (ys ++ [y]))) else N σ2 H3) : cTurn g tt te D N x σ H := h
end L2
set_option Elab.async false
set_option linter.all false
set_option maxRecDepth 100000
namespace L2
open PySem PySem.Spec PyProof.Rows
theorem same_prs {H H' : Hp} (s : Same H H') {xs : List V} {ps : List (Int × Int)} (r : Prs H xs ps) : Prs H' xs ps := r.mono fun a xs e => s a _ e
theorem same_tup {K : PySem.W.Frag} {H H' : Hp} {a : Addr} {xs : List V} (e : Same H H') (h : SqT K H a xs) : SqT K H' a xs := by
  rcases h with (h | ⟨o, h⟩) | h
  · exact .inl (.inl (e _ _ h))
  · exact .inl (.inr ⟨o, e _ _ h⟩)
  · exact .inr h
structure Ck (m : List (Int × Int)) : Prop where
  nd : (m.map (·.1)).Nodup
  nn : ∀ p ∈ m, 0 ≤ p.2
  rg : ∀ p ∈ m, 0 ≤ p.1 ∧ p.1 < 63
def hs63 : List Int := (List.range 63).map fun (h : Nat) => (h : Int)
theorem mem_hs {k : Int} : k ∈ hs63 ↔ 0 ≤ k ∧ k < 63 := by
  unfold hs63
  rw [List.mem_map]
  constructor
  · rintro ⟨n, hn, rfl⟩
    have := List.mem_range.mp hn
    omega
  · rintro ⟨h0, h1⟩
    exact ⟨k.toNat, List.mem_range.mpr (by omega), by omega⟩
theorem nd_len {α : Type} [DecidableEq α] : ∀ {l m : List α}, l.Nodup → (∀ x ∈ l, x ∈ m) → l.length ≤ m.length
  | [], m, _, _ => Nat.zero_le _
  | x :: l, m, nd, sub => by
    rw [List.nodup_cons] at nd
    have hx := sub x List.mem_cons_self
    have pm := List.perm_cons_erase hx
    have := nd_len (l := l) (m := m.erase x) nd.2 fun y hy => (List.mem_erase_of_ne (show y ≠ x from fun z => nd.1 (z ▸ hy))).mpr (sub y (List.mem_cons_of_mem _ hy))
    have q := pm.length_eq
    rw [List.length_cons] at q ⊢
    omega
theorem hs_len {l : List Int} (nd : l.Nodup) (h : ∀ k ∈ l, 0 ≤ k ∧ k < 63) : l.length < 64 := by
  have := nd_len nd (m := hs63) fun k hk => mem_hs.mpr (h k hk)
  unfold hs63 at this
  rw [List.length_map, List.length_range] at this
  omega
theorem Ck.keys {m : List (Int × Int)} (c : Ck m) : ∀ k ∈ m.map (·.1), 0 ≤ k ∧ k < 63 := fun k hk => by
  obtain ⟨p, hp, e⟩ := List.mem_map.mp hk
  rw [← e]
  exact c.rg p hp
theorem Ck.len {m : List (Int × Int)} (c : Ck m) : m.length < 64 := by
  have := hs_len c.nd c.keys
  rw [List.length_map] at this
  exact this
theorem Ck.nil : Ck [] := ⟨List.nodup_nil, (fun p hp => nomatch hp), (fun p hp => nomatch hp)⟩
theorem Ck.ct {m : List (Int × Int)} (c : Ck m) (k : Int) : 0 ≤ ct m k := by
  unfold L2.ct
  cases e : lkI m k with
  | none => exact Int.le_refl _
  | some v => exact c.nn _ (lk_mem e)
theorem ct_out {m : List (Int × Int)} {k : Int} (h : k ∉ m.map (·.1)) : ct m k = 0 := by
  unfold ct
  rw [lk_none h]
  rfl
theorem ct_in {m : List (Int × Int)} {k : Int} (h : ct m k ≠ 0) : k ∈ m.map (·.1) := by
  by_cases z : k ∈ m.map (·.1)
  · exact z
  · exact absurd (ct_out z) h
theorem lk_ct {m : List (Int × Int)} {k : Int} (h : k ∈ m.map (·.1)) : lkI m k = some (ct m k) := by
  obtain ⟨v, e⟩ := lk_some h
  unfold ct
  rw [e]
  rfl
theorem ct_of {m : List (Int × Int)} (nd : (m.map (·.1)).Nodup) {p : Int × Int} (h : p ∈ m) : ct m p.1 = p.2 := by
  unfold ct
  rw [lk_of (k := p.1) (v := p.2) nd h]
  rfl
theorem Ck.put {m : List (Int × Int)} (c : Ck m) {k v : Int} (h0 : 0 ≤ k) (h1 : k < 63) (hv : 0 ≤ v) : Ck (putI m k v) :=
  ⟨put_nd m k v c.nd, fun p hp => by
    rcases put_vals m k v p hp with z | z
    · rw [z]; exact hv
    · exact c.nn p z, fun p hp => by
    rcases put_vals m k v p hp with z | z
    · rw [z]; exact ⟨h0, h1⟩
    · exact c.rg p z⟩
theorem ct_put (m : List (Int × Int)) (k v j : Int) : ct (putI m k v) j = if j = k then v else ct m j := by
  unfold ct
  rw [lk_put]
  split <;> rfl
structure Td (m : List (Int × Int)) : Prop extends Ck m where
  ps : ∀ p ∈ m, 0 < p.2
theorem Td.nil : Td [] := ⟨Ck.nil, (fun p hp => nomatch hp)⟩
theorem Td.pos {m : List (Int × Int)} (t : Td m) {k : Int} (h : k ∈ m.map (·.1)) : 0 < L2.ct m k := by
  obtain ⟨p, hp, e⟩ := List.mem_map.mp h
  rw [← e, ct_of t.nd hp]
  exact t.ps p hp
theorem Td.sub {j m : List (Int × Int)} (tj : Td j) (h : ∀ k, 0 ≤ k → k < 63 → L2.ct j k = L2.ct m k) : ∀ p ∈ j, lkI m p.1 = some p.2 := by
  intro p hp
  have hr := tj.rg p hp
  have e := h p.1 hr.1 hr.2
  rw [ct_of tj.nd hp] at e
  have hk : p.1 ∈ m.map (·.1) := ct_in (by rw [← e]; have := tj.ps p hp; omega)
  rw [lk_ct hk, ← e]
def IsMx (ms : List (List (Int × Int))) (k b : Int) : Prop := (∃ m ∈ ms, ct m k = b) ∧ ∀ m ∈ ms, ct m k ≤ b
def cov (m n : List (Int × Int)) : Bool := (List.range 63).all fun (h : Nat) => decide (ct n h ≤ ct m h)
def posI (ps : List (Int × Int)) : List (Int × Int) := ps.filter fun p => decide (0 < p.2)
theorem pos_yes {ps : List (Int × Int)} {p : Int × Int} (h : 0 < p.2) : posI (ps ++ [p]) = posI ps ++ [p] := by
  unfold posI
  rw [List.filter_append, List.filter_cons, decide_eq_true h]
  rfl
theorem pos_no {ps : List (Int × Int)} {p : Int × Int} (h : ¬ 0 < p.2) : posI (ps ++ [p]) = posI ps := by
  unfold posI
  rw [List.filter_append, List.filter_cons, decide_eq_false h]
  exact List.append_nil _
theorem pos_nd {ps : List (Int × Int)} (h : (ps.map (·.1)).Nodup) : ((posI ps).map (·.1)).Nodup := by
  unfold posI
  exact h.sublist ((List.filter_sublist).map _)
theorem pos_len (ps : List (Int × Int)) : (posI ps).length ≤ ps.length := List.length_filter_le _ _
def prs (S : List Int) (f : Int → Int) : List (Int × Int) := S.map fun k => (k, f k)
theorem prs_keys (S : List Int) (f : Int → Int) : (prs S f).map (·.1) = S := by
  unfold prs
  rw [List.map_map]
  exact List.map_id _
theorem prs_td {S : List Int} {f : Int → Int} (nd : S.Nodup) (rg : ∀ k ∈ S, 0 ≤ k ∧ k < 63) : Td (posI (prs S f)) := by
  have mem : ∀ p ∈ posI (prs S f), 0 < p.2 ∧ p.1 ∈ S := fun p hp => by
    have h := List.mem_filter.mp hp
    refine ⟨of_decide_eq_true h.2, ?_⟩
    have := List.mem_map_of_mem (f := (·.1)) h.1
    rw [prs_keys] at this
    exact this
  exact ⟨⟨pos_nd (by rw [prs_keys]; exact nd), fun p hp => Int.le_of_lt (mem p hp).1, fun p hp => rg _ (mem p hp).2⟩, fun p hp => (mem p hp).1⟩
theorem prs_ct {S : List Int} {f : Int → Int} (nd : S.Nodup) (k : Int) (hk : k ∈ S) (h0 : 0 ≤ f k) : ct (posI (prs S f)) k = f k := by
  by_cases h : 0 < f k
  · have hm : (k, f k) ∈ posI (prs S f) := List.mem_filter.mpr ⟨List.mem_map_of_mem (f := fun k => (k, f k)) hk, decide_eq_true h⟩
    exact ct_of (p := (k, f k)) (pos_nd (by rw [prs_keys]; exact nd)) hm
  · have e : f k = 0 := by omega
    rw [e]
    apply ct_out
    intro z
    obtain ⟨p, hp, e2⟩ := List.mem_map.mp z
    have q := List.mem_filter.mp hp
    obtain ⟨k', _, e3⟩ := List.mem_map.mp q.1
    have := of_decide_eq_true q.2
    rw [← e3] at e2 this
    have e2 : k' = k := e2
    rw [e2] at this
    exact h this
theorem prs_out {S : List Int} {f : Int → Int} {k : Int} (hk : k ∉ S) : ct (posI (prs S f)) k = 0 := by
  apply ct_out
  intro z
  apply hk
  have : k ∈ (prs S f).map (·.1) := ((List.filter_sublist).map _).subset z
  rw [prs_keys] at this
  exact this
theorem two {m n : List (Int × Int)} {k : Int} : (∃ x ∈ [m, n], k ∈ x.map (·.1)) ↔ k ∈ m.map (·.1) ∨ k ∈ n.map (·.1) := by simp
def PKm (m : List (Int × Int)) (S : List Int) : List (Int × Int) := (S.filter fun k => decide (0 < ct m k)).map fun k => (k, ct m k)
theorem PKm_yes {m : List (Int × Int)} {S : List Int} {k : Int} (h : 0 < ct m k) : PKm m (S ++ [k]) = PKm m S ++ [(k, ct m k)] := by
  unfold PKm
  rw [List.filter_append, List.map_append, List.filter_cons, decide_eq_true h]
  rfl
theorem PKm_no {m : List (Int × Int)} {S : List Int} {k : Int} (h : ¬ 0 < ct m k) : PKm m (S ++ [k]) = PKm m S := by
  unfold PKm
  rw [List.filter_append, List.map_append, List.filter_cons, decide_eq_false h]
  exact List.append_nil _
theorem ct_getD (m : List (Int × Int)) (h : Int) : ((valV (dI m) (Sum.inl h : Key)).getD (.int 0)) = V.int (ct m h) := by
  rw [dI_val]
  unfold ct
  cases lkI m h <;> rfl
def prD (p : Int × Int) : PyData := .tuple [.int p.1, .int p.2]
theorem Prs.dps {K : PySem.W.Frag} {H : Hp} : ∀ {xs : List V} {ps : List (Int × Int)}, Prs H xs ps → Dps K H xs (ps.map prD)
  | _, _, .nil => .nil
  | _, _, .cons r t => by
    obtain ⟨a, rfl, h⟩ := r
    exact .cons (.tup (SqT.of h) (.cons (.int _) (.cons (.int _) .nil))) (Prs.dps t)
theorem prs_lay : ∀ ps : List (Int × Int), PyData.canLayAll0 (ps.map prD) = true
  | [] => rfl
  | p :: ps => by rw [List.map_cons, PyData.canLayAll0.eq_2, prs_lay ps]; rfl
theorem prs_dep : ∀ ps : List (Int × Int), PyData.depthAll (ps.map prD) ≤ 1
  | [] => by rw [List.map_nil, PyData.depthAll.eq_1]; omega
  | p :: ps => by
    have e : PyData.depthAll ((p :: ps).map prD) = max (prD p).depth (PyData.depthAll (ps.map prD)) := rfl
    rw [e]
    have := prs_dep ps
    have : (prD p).depth = 1 := rfl
    omega
theorem x_cat {H : Hp} {Q : VK} {a b : Addr} {xs zs : List V} (h1 : H a = some (.lst xs)) (h2 : H b = some (.lst zs)) (hl : xs.length + zs.length ≤ 1000) (h : ∀ p H', H p = none → Same H H' → H' p = some (.lst (xs ++ zs)) → Q (.ref p) H') : rCat (.ref a) (.ref b) H Q := ⟨a, b, xs, zs, rfl, rfl, h1, h2, Nat.le_of_lt (small1000 hl), fun p hp => h p _ hp (same_upd hp) upd_same⟩
def SmB (d : Addr) (B H : Hp) : Prop := ∀ b o, b ≠ d → B b = some o → H b = some o
theorem SmB.refl (d : Addr) (B : Hp) : SmB d B B := fun _ _ _ h => h
structure TCall (K : PySem.W.Frag) (C : Addr) : Prop where
  cl : Cls K C
  n1 : NoAttr K C "number"
  n2 : NoAttr K C "caller"
  n3 : NoAttr K C "count"
  n4 : NoAttr K C "word"
  n5 : NoAttr K C "causes"
end L2
set_option Elab.async false
set_option linter.all false
set_option maxRecDepth 100000
namespace L2
open PySem PySem.Spec PyProof.Rows
def dG (m : List (Int × V)) : List (Key × V) := m.map fun p => (Sum.inl p.1, p.2)
theorem dG_len (m : List (Int × V)) : (dG m).length = m.length := List.length_map ..
def lkG : List (Int × V) → Int → Option V
  | [], _ => none
  | p :: m, k => if p.1 = k then some p.2 else lkG m k
theorem dG_val : ∀ (m : List (Int × V)) (k : Int), valV (dG m) (Sum.inl k : Key) = lkG m k
  | [], _ => rfl
  | p :: m, k => by
    show valV ((Sum.inl p.1, p.2) :: dG m) (Sum.inl k) = _
    unfold lkG
    by_cases e : p.1 = k
    · rw [if_pos e, valV_pos (by rw [e])]
    · rw [if_neg e, valV_neg (fun z => e (Sum.inl.inj z)), dG_val m k]
def putG : List (Int × V) → Int → V → List (Int × V)
  | [], k, v => [(k, v)]
  | p :: m, k, v => if p.1 = k then (p.1, v) :: m else p :: putG m k v
theorem putg_vals : ∀ (m : List (Int × V)) (k : Int) (v : V) (p : Int × V), p ∈ putG m k v → p = (k, v) ∨ p ∈ m
  | [], k, v, p, h => .inl (by simpa [putG] using h)
  | q :: m, k, v, p, h => by
    have h' : p ∈ (if q.1 = k then (q.1, v) :: m else q :: putG m k v) := h
    by_cases e : q.1 = k
    · rw [if_pos e] at h'
      rcases List.mem_cons.mp h' with z | z
      · exact .inl (by rw [z, e])
      · exact .inr (List.mem_cons_of_mem _ z)
    · rw [if_neg e] at h'
      rcases List.mem_cons.mp h' with z | z
      · exact .inr (by rw [z]; exact List.mem_cons_self)
      · rcases putg_vals m k v p z with z | z
        · exact .inl z
        · exact .inr (List.mem_cons_of_mem _ z)
theorem dG_any (k : Int) : ∀ m : List (Int × V), ((dG m).any fun kv => decide (kv.1 = (Sum.inl k : Key))) = m.any fun p => decide (p.1 = k)
  | [] => rfl
  | p :: m => by
    show (decide ((Sum.inl p.1 : Key) = Sum.inl k) || (dG m).any _) = (decide (p.1 = k) || m.any _)
    rw [dG_any k m]
    congr 1
    rw [decide_eq_decide]
    exact ⟨fun h => Sum.inl.inj h, fun h => congrArg _ h⟩
theorem putg_new : ∀ (m : List (Int × V)) (k : Int) (v : V), (m.any fun p => decide (p.1 = k)) = false → putG m k v = m ++ [(k, v)]
  | [], _, _, _ => rfl
  | p :: m, k, v, h => by
    rw [List.any_cons, Bool.or_eq_false_iff] at h
    show (if p.1 = k then (p.1, v) :: m else p :: putG m k v) = _
    rw [if_neg (of_decide_eq_false h.1), putg_new m k v h.2]
    rfl
theorem putg_old : ∀ (m : List (Int × V)) (k : Int) (v : V), (m.map (·.1)).Nodup → (m.any fun p => decide (p.1 = k)) = true → putG m k v = m.map fun p => if p.1 = k then (p.1, v) else p
  | [], _, _, _, h => by cases h
  | p :: m, k, v, nd, h => by
    rw [List.map_cons, List.nodup_cons] at nd
    show (if p.1 = k then (p.1, v) :: m else p :: putG m k v) = (if p.1 = k then (p.1, v) else p) :: m.map _
    by_cases e : p.1 = k
    · rw [if_pos e, if_pos e]
      congr 1
      have : m.map (fun p => if p.1 = k then (p.1, v) else p) = m.map id := List.map_congr_left fun q hq => by
        rw [if_neg (fun z => nd.1 (by rw [e, ← z]; exact List.mem_map_of_mem hq))]
        rfl
      rw [this, List.map_id]
    · rw [if_neg e, if_neg e, putg_old m k v nd.2 (by
        rw [List.any_cons, decide_eq_false e, Bool.false_or] at h
        exact h)]
theorem dG_put (m : List (Int × V)) (k : Int) (v : V) (nd : (m.map (·.1)).Nodup) : putK (dG m) (Sum.inl k : Key) (v) = dG (putG m k v) := by
  unfold putK
  rw [dG_any]
  cases e : m.any fun p => decide (p.1 = k) with
  | false =>
    rw [putg_new m k v e]
    unfold dG
    rw [List.map_append]
    rfl
  | true =>
    rw [putg_old m k v nd e]
    unfold dG
    rw [List.map_map, if_pos rfl, List.map_map]
    apply List.map_congr_left
    intro p _
    show (if (Sum.inl p.1 : Key) = Sum.inl k then ((Sum.inl p.1 : Key), v) else (Sum.inl p.1, p.2)) = ((Sum.inl (if p.1 = k then (p.1, v) else p).1 : Key), (if p.1 = k then (p.1, v) else p).2)
    by_cases z : p.1 = k
    · rw [if_pos (congrArg _ z), if_pos z]
    · rw [if_neg (fun q => z (Sum.inl.inj q)), if_neg z]
theorem lkg_mem : ∀ {m : List (Int × V)} {k : Int} {v : V}, lkG m k = some v → (k, v) ∈ m
  | [], _, _, h => by cases h
  | p :: m, k, v, h => by
    have h' : (if p.1 = k then some p.2 else lkG m k) = some v := h
    by_cases e : p.1 = k
    · rw [if_pos e] at h'
      have : p = (k, v) := by rw [← e, ← Option.some.inj h']
      rw [this]
      exact List.mem_cons_self
    · rw [if_neg e] at h'
      exact List.mem_cons_of_mem _ (lkg_mem h')
theorem lkg_of : ∀ {m : List (Int × V)} {k : Int} {v : V}, (m.map (·.1)).Nodup → (k, v) ∈ m → lkG m k = some v
  | [], _, _, _, h => by cases h
  | p :: m, k, v, nd, h => by
    rw [List.map_cons, List.nodup_cons] at nd
    show (if p.1 = k then some p.2 else lkG m k) = some v
    rcases List.mem_cons.mp h with z | z
    · rw [← z, if_pos rfl]
    · rw [if_neg (fun e => nd.1 (by rw [e]; exact List.mem_map_of_mem (f := (·.1)) z)), lkg_of nd.2 z]
section
variable {X : Cx}
theorem paired_get {α β : Type} {R : α → β → Prop} : ∀ {xs : List α} {ys : List β}, xs.length = ys.length → (∀ (i : Nat) x y, xs[i]? = some x → ys[i]? = some y → R x y) → Paired R xs ys
  | [], [], _, _ => .nil
  | [], _ :: _, h, _ => by cases h
  | _ :: _, [], h, _ => by cases h
  | x :: xs, y :: ys, h, k => .cons (k 0 x y rfl rfl) (paired_get (Nat.succ.inj h) fun i a b ha hb => k (i + 1) a b (by simpa using ha) (by simpa using hb))
theorem call_rangeT : CallR X (.type "range") (fun xs H Q => ∃ j : Int, xs = [.int j] ∧ ∀ r, H r = none → Q (.ref r) (upd H r (.rng 0 j))) := by
  intro pins s σ H xs us Q I r h
  obtain ⟨j, rfl, q⟩ := h
  obtain ⟨u, rfl, t, rfl⟩ := vals1 r
  exact call_range_1 ⟨.ref s.heap.objs.size, _, I.laid (o := .rng 0 j) (t' := s.toks + 1 + 1) (fun b o e => Heap.get?_push_of_some _ e) (Nat.le_refl _) ⟨_, _, _, Heap.get?_push_size _ rfl⟩, rfl, q _ (I.hok.fresh (Nat.le_refl _))⟩
theorem call_listR (hc : X.calm = true) : CallR X (.type "list") (fun xs H Q => ∃ (r : Addr) (n : Nat), xs = [.ref r] ∧ H r = some (.rng 0 n) ∧ n ≤ 1000 ∧ ∀ l, H l = none → Q (.ref l) (upd H l (.lst (((List.range n).map fun (i : Nat) => (i : Int)).map V.int)))) := by
  intro pins s σ H xs us Q I rr h
  obtain ⟨r, n, rfl, hr, hn, q⟩ := h
  obtain ⟨u, rfl, rx⟩ := vals1 rr
  cases rx
  obtain ⟨t, u, v, e⟩ : ∃ t u v, s.heap.get? r = some { cls := .type "range", data := .fields #[.int 0 t, .int n u, .int 1 v] } := I.hok r _ hr
  have hs : Builtin.Range.rangeSize 0 n 1 = (n : Int) := by rw [rangeSize_one]; split <;> omega
  refine call_list_range (I.ok.hd hc) e (small_one (by omega) (by omega) (by omega) (by omega)) hs (Nat.le_trans hn (by decide)) fun h' tk acc c' kp he ho => ?_
  refine ⟨.ref s.heap.objs.size, _, I.laid (o := .lst (((List.range n).map fun (i : Nat) => (i : Int)).map V.int)) (t' := tk) kp (Nat.le_refl _) ⟨?_, acc.toList, c', ?_, ?_⟩, rfl, q _ (I.hok.fresh (Nat.le_refl _))⟩
  · rw [List.length_map, List.length_map, List.length_range]
    exact Nat.le_of_lt (small1000 hn)
  · refine paired_get ?_ fun i x u hx hu => ?_
    · rw [List.length_map, List.length_map, List.length_range, Array.length_toList, ho.1]
    · have hi : i < n := by
        have := (List.getElem?_eq_some_iff.mp hx).1
        rw [List.length_map, List.length_map, List.length_range] at this
        exact this
      rw [Array.getElem?_toList] at hu
      obtain ⟨tt, rfl⟩ := ho.2 i u hu
      rw [List.getElem?_map, List.getElem?_map, List.getElem?_range hi] at hx
      cases hx
      exact ⟨tt, by show Value.int (0 + (i : Int) * 1) tt = Value.int (i : Int) tt; congr 1; omega⟩
  · rw [he]
theorem call_sortedL : CallR X (.builtin "sorted") (fun xs H Q => ∃ (p : Addr) (ns : List Int), xs = [.ref p] ∧ SqL X.K H p (ns.map V.int) ∧ ns.length < 64 ∧ ∀ (l : Addr) (ms : List Int), H l = none → ms.Perm ns → ms.Pairwise (· ≤ ·) → Q (.ref l) (upd H l (.lst (ms.map V.int)))) := by
  intro pins s σ H xs us Q I r h
  obtain ⟨p, ns, rfl, hp, hl, q⟩ := h
  obtain ⟨u, rfl, rx⟩ := vals1 r
  cases rx
  obtain ⟨its, rv, pl, hz⟩ := I.list hp
  have hi := intsAre_of rv
  refine sorted_ints pl.isList hi (by rw [hi.length]; exact hl) fun out ms a1 a2 a3 => ?_
  obtain ⟨e, he⟩ := sortedAll_at s.heap its out
  refine ⟨.ref (s.heap.objs.size + 1), _, I.laid (o := .lst (ms.map V.int)) (t' := s.toks) (fun b o e => sortedAll_old e) (Nat.le_succ _) ⟨?_, out.toList, e, vals_ints a1, he⟩, rfl, q _ ms (I.hok.fresh (Nat.le_succ _)) a2 a3⟩
  rw [List.length_map, a2.length_eq]
  exact Nat.le_of_lt (small1000 (by omega))
theorem preSum_list : ∀ (ns : List Int) (n : Nat), n ≤ ns.length → preSum (fun i => ns.getD i 0) n = (ns.take n).sum := by
  intro ns n
  induction n with
  | zero => intro _; rfl
  | succ n ih =>
    intro h
    show preSum _ n + ns.getD n 0 = _
    rw [ih (by omega), List.take_succ, List.sum_append]
    have : n < ns.length := h
    rw [List.getD_eq_getElem?_getD, List.getElem?_eq_getElem this]
    simp
theorem call_sumI (hc : X.calm = true) : CallR X (.builtin "sum") (fun xs H Q => ∃ (p : Addr) (ns : List Int), xs = [.ref p] ∧ SqL X.K H p (ns.map V.int) ∧ Q (.int ns.sum) H) := by
  intro pins s σ H xs us Q I r h
  obtain ⟨p, ns, rfl, hq, q⟩ := h
  obtain ⟨u, rfl, rx⟩ := vals1 r
  cases rx
  obtain ⟨its, rv, pl, hz⟩ := I.list hq
  have hl : its.toArray.size = ns.length := by rw [List.size_toArray, ← rv.length, List.length_map]
  have hp : p < s.heap.objs.size := let ⟨_, z, _⟩ := pl.isList; Heap.lt_size z
  refine call_sum_walkG (wpAny_pyIter_list pl.isList ?_)
  refine ⟨s.heap.objs.size, [s.heap.objs.size, p], [s.heap.objs.size], its.toArray.size, _, _, fun i => ns.getD i 0, rfl, Walks.list (A := X.A.in1) (I.ok.hd hc) _ p (Nat.ne_of_lt hp) its.toArray,
    ⟨⟨_, Heap.get?_push_size _ rfl, rfl, rfl⟩, pl.isList.push _⟩, fun b hb => ?_, fun i v hP => ?_, fun h' tk t' kp => ?_⟩
  · rw [Heap.size_push]
    rcases List.mem_cons.mp hb with z | z
    · rw [z]; exact Nat.lt_succ_self _
    · rw [List.mem_singleton.mp z]; exact Nat.lt_succ_of_lt hp
  · have hv : its[i]? = some v := by simpa using hP
    have hb : i < ns.length := by
      have := (List.getElem?_eq_some_iff.mp hv).1
      rw [← hl, List.size_toArray]
      exact this
    obtain ⟨u, hu, ru⟩ := rv.get (i := i) (x := V.int ns[i]) (by rw [List.getElem?_map, List.getElem?_eq_getElem hb]; rfl)
    rw [hv] at hu
    cases hu
    obtain ⟨t, rfl⟩ := ru
    refine ⟨t, ?_⟩
    show Value.int ns[i] t = Value.int (ns.getD i 0) t
    rw [List.getD_eq_getElem?_getD, List.getElem?_eq_getElem hb, Option.getD_some]
  · refine ⟨.int ns.sum, H, I.kept (t' := tk) fun b o e => kp b o ?_ (Heap.get?_push_of_some _ e), ⟨t', ?_⟩, q⟩
    · intro z
      have z' : b = s.heap.objs.size := by simpa using z
      exact absurd (Heap.lt_size e) (by rw [z']; exact Nat.lt_irrefl _)
    · rw [hl, preSum_list ns ns.length (Nat.le_refl _), List.take_length]
abbrev PrsV (H : Hp) : List V → List (Int × V) → Prop := Paired fun x p => ∃ a, x = .ref a ∧ H a = some (.tup [.int p.1, p.2])
theorem pairsV_kx {pins : List (Addr × Obj)} {σ : St} {H : Hp} {s : Shared} (I : Inv X pins σ H s) : ∀ {xs : List V} {us : List Value} {ps : List (Int × V)}, PrsV H xs ps → Vals xs us →
    ∃ kx : List (Key × Value), KV (dG ps) kx ∧ kx.length = us.length ∧ ∀ (i : Nat) v, us[i]? = some v → ∃ a key k x o c, v = .ref a ∧ kx[i]? = some (k, x) ∧ (mixKind X.prog X.w).is k key = true ∧ s.heap.get? a = some o ∧ o.cls = .type "tuple" ∧ o.data = .seq #[key, x] c
  | _, _, _, .nil, .nil => ⟨[], .nil, rfl, fun i v e => by simp at e⟩
  | x :: xs, u :: us, p :: ps, .cons h t, .cons r q => by
    obtain ⟨kx, k1, k2, k3⟩ := pairsV_kx I t q
    obtain ⟨a, rfl, ha⟩ := h
    obtain rfl : u = Value.ref a := r
    obtain ⟨_, its, rv, o, ho, hc, n, hd, _⟩ : [V.int p.1, p.2].length ≤ sizeLine ∧ ∃ its : List Value, Vals [V.int p.1, p.2] its ∧ IsTpl s.heap a its.toArray := I.hok a _ ha
    obtain ⟨u1, u2, rfl, r1, r2⟩ := vals2 rv
    obtain ⟨t1, rfl⟩ := r1
    refine ⟨(Sum.inl p.1, u2) :: kx, .cons ⟨rfl, r2⟩ k1, congrArg (· + 1) k2, fun i v e => ?_⟩
    cases i with
    | zero =>
      have e' : Value.ref a = v := Option.some.inj e
      subst e'
      exact ⟨a, _, _, u2, o, n, rfl, rfl, mixKind_int X.prog X.w p.1 t1, ho, hc, hd⟩
    | succ i => exact k3 i v e
theorem mergeG_nd : ∀ (ps acc : List (Int × V)), ((acc ++ ps).map (·.1)).Nodup → mergeK (dG acc) (dG ps) = dG (acc ++ ps)
  | [], acc, _ => by rw [List.append_nil]; rfl
  | p :: ps, acc, h => by
    have e : mergeK (dG acc) (dG (p :: ps)) = mergeK (putK (dG acc) (Sum.inl p.1 : Key) p.2) (dG ps) := rfl
    have h1 : (acc.map (·.1)).Nodup := by rw [List.map_append] at h; exact (List.nodup_append.mp h).1
    have h2 : p.1 ∉ acc.map (·.1) := by
      rw [List.map_append, List.map_cons] at h
      intro z
      exact (List.nodup_append.mp h).2.2 _ z _ List.mem_cons_self rfl
    rw [e, dG_put acc p.1 p.2 h1, putg_new acc p.1 p.2 (by
      rw [List.any_eq_false]
      intro q hq
      exact fun z => h2 (by rw [← of_decide_eq_true z]; exact List.mem_map_of_mem hq)), mergeG_nd ps (acc ++ [p]) (by rw [List.append_assoc]; exact h), List.append_assoc]
    rfl
theorem call_dictG (hc : X.calm = true) : CallR X (.type "dict") (fun xs H Q => ∃ (a : Addr) (ys : List V) (ps : List (Int × V)), xs = [.ref a] ∧ H a = some (.lst ys) ∧ PrsV H ys ps ∧ (ps.map (·.1)).Nodup ∧ ps.length ≤ 1000 ∧ ∀ p, H p = none → Q (.ref p) (upd H p (.dK (dG ps)))) := by
  intro pins s σ H xs us Q I r h
  obtain ⟨a, ys, ps, rfl, ha, hp, nd, hl, q⟩ := h
  obtain ⟨u, rfl, rx⟩ := vals1 r
  cases rx
  obtain ⟨z, its, n, rv, hlen, e⟩ := I.lstM ha
  obtain ⟨kx, k1, k2, k3⟩ := pairsV_kx I hp rv
  refine GX.dict_of_list (knd := mixKind X.prog X.w) (I.ok.hd hc) e (by rw [← hlen]; exact z) k2 k3 fun h' tk kp dd => ?_
  have rel : KV (dG ps) (merged [] kx) := by
    have := KV.merge k1 (show KV (dG []) [] from .nil)
    rw [mergeG_nd ps [] (by simpa using nd)] at this
    exact this
  refine ⟨.ref s.heap.objs.size, _, I.laid (t' := tk) kp (Nat.le_refl _) (dk_new ?_ (beq_eq_false_iff_ne.mpr (Ne.symm (Nat.ne_of_lt I.big))) rel dd), rfl, q _ (I.hok.fresh (Nat.le_refl _))⟩
  rw [dG_len]
  exact Nat.le_of_lt (small1000 hl)
end
section
variable {D : Ends} {σ : St} {H : Hp} {Q : VK}
theorem thaw_same {d : Addr} {H A : Hp} {u : HO} (s : SmB d H A) (h : H d = some u) : Same H (upd A d u) := fun b o e => by
  by_cases z : b = d
  · subst z
    rw [h] at e
    cases e
    exact upd_same
  · rw [upd_ne z]
    exact s b o z e
theorem x_items {td : TE} {g : TG} {tb : TS} {d : Addr} {kvs : List (Key × V)} (hd : H d = some (.dK kvs)) (ht : ∀ R : VK, R (.ref d) H → td σ H R) (Pv : Nat → St → Hp → Prop)
    (h0 : ∀ A o, A d = some (.frz o (.dK kvs)) → SmB d H A → Pv 0 σ A)
    (hs : ∀ (i : Nat) (k : Key) (v : V) (t : Addr) (σ : St) (A A1 : Hp) (o : Obj), kvs[i]? = some (k, v) → Pv i σ A → A d = some (.frz o (.dK kvs)) → A t = none → Same A A1 → A1 t = some (.tup [kV k, v]) →
      g (.ref t) σ A1 fun σ2 H2 => tb { nx := fun σ3 H3 => H3 d = some (.frz o (.dK kvs)) ∧ Pv (i + 1) σ3 H3, ct := fun σ3 H3 => H3 d = some (.frz o (.dK kvs)) ∧ Pv (i + 1) σ3 H3, bk := fun σ3 H3 => (∃ o, H3 d = some (.frz o (.dK kvs))) ∧ D.nx σ3 (upd H3 d (.dK kvs)), rt := fun v H3 => (∃ o, H3 d = some (.frz o (.dK kvs))) ∧ D.rt v (upd H3 d (.dK kvs)) } σ2 H2)
    (hd' : ∀ σ A, Pv kvs.length σ A → D.nx σ (upd A d (.dK kvs))) : tThaw (tFor (iItems td) g tb) D σ H := by
  refine ⟨d, kvs, hd, ht _ ⟨d, kvs, rfl, hd, fun o => ?_⟩⟩
  refine for_items (o := o) (fun i σ A => A d = some (.frz o (.dK kvs)) ∧ Pv i σ A) ⟨upd_same, h0 _ o upd_same fun b u n e => by rw [upd_ne n]; exact e⟩ (fun i σ A _ z => z.1) ?_ ?_
  · rintro i k v a σ A hkv hfree ⟨hA, p⟩
    exact hs i k v a σ A _ o hkv p hA hfree (same_upd hfree) upd_same
  · rintro σ A ⟨hA, p⟩
    exact ⟨⟨o, hA⟩, hd' σ A p⟩
theorem dI_get {m : List (Int × Int)} {i : Nat} {k : Key} {v : V} (h : (dI m)[i]? = some (k, v)) : ∃ p, m[i]? = some p ∧ k = Sum.inl p.1 ∧ v = .int p.2 := by
  unfold dI at h
  rw [List.getElem?_map] at h
  cases e : m[i]? with
  | none => rw [e] at h; cases h
  | some p => rw [e] at h; cases h; exact ⟨p, rfl, rfl, rfl⟩
theorem x_gdg {d : Addr} {m : List (Int × V)} {k : Int} {v : V} {P : V → Prop} (hd : Rd H d (.dK (dG m))) (hk : lkG m k = some v) (h : P v) : ∃ a v, V.ref d = .ref a ∧ DGet H a (.int k) (some v) ∧ P v :=
  ⟨d, v, rfl, .inl ⟨_, Sum.inl k, hd, rfl, by rw [dG_val, hk]⟩, h⟩
theorem x_gisd {d : Addr} {kvs : List (Key × V)} {P : Addr → Prop} (hd : Rd H d (.dK kvs)) (h : P d) : ∃ a, V.ref d = .ref a ∧ IsD H a ∧ P a := ⟨d, rfl, .inl ⟨_, hd⟩, h⟩
theorem x_gdin {d : Addr} {m : List (Int × V)} {k : Int} {P : Option V → Prop} (hd : Rd H d (.dK (dG m))) (h : P (lkG m k)) : ∃ a o, V.ref d = .ref a ∧ DGet H a (.int k) o ∧ P o := ⟨d, _, rfl, .inl ⟨_, Sum.inl k, hd, rfl, (dG_val m k).symm⟩, h⟩
theorem x_gdput {d : Addr} {m : List (Int × V)} {k : Int} {v : V} {P : Hp → Prop} (hd : H d = some (.dK (dG m))) (nd : (m.map (·.1)).Nodup) (hl : m.length < sizeLine) (h : ∀ H2, But d H H2 → H2 d = some (.dK (dG (putG m k v))) → P H2) : ∃ a H4, V.ref d = .ref a ∧ DPut H a (.int k) v H4 ∧ P H4 :=
  ⟨d, _, rfl, .inl ⟨_, Sum.inl k, hd, rfl, by rw [dG_len]; exact hl, rfl⟩, h _ .upd (by rw [upd_same, dG_put m k v nd])⟩
end
end L2
set_option Elab.async false
set_option linter.all false
set_option maxRecDepth 100000
namespace L2
open PySem PySem.Spec PyProof.Rows
theorem and_test {n h : Int} (h0 : 0 ≤ n) (h1 : 0 ≤ h) : (!decide (V.int (Builtin.bitAnd n (2 ^ h.toNat)) = V.int 0)) = n.toNat.testBit h.toNat := by
  have e1 : (0 : Int) ≤ 2 ^ h.toNat := two_pow_nn _
  have e2 : ((2 : Int) ^ h.toNat).toNat = 2 ^ h.toNat := by
    have : ((2 : Int) ^ h.toNat) = ((2 ^ h.toNat : Nat) : Int) := by push_cast; rfl
    rw [this, Int.toNat_natCast]
  rw [PyProof.Rows.bitAnd_pp h0 e1, e2]
  cases q : n.toNat.testBit h.toNat with
  | false =>
    rw [(GB.and_pow _ _).mpr q]
    rfl
  | true =>
    have z : ¬ (n.toNat &&& 2 ^ h.toNat = 0) := fun z => by rw [(GB.and_pow _ _).mp z] at q; cases q
    have z' : ¬ V.int ((n.toNat &&& 2 ^ h.toNat : Nat) : Int) = V.int 0 := fun e => z (by injection e with e; omega)
    rw [decide_eq_false z']
    rfl
def preH (n : Int) (i : Nat) : List Int := ((List.range i).filter fun h => n.toNat.testBit h).map (fun (h : Nat) => (h : Int))
theorem preH_len (n : Int) (i : Nat) : (preH n i).length ≤ i := by
  unfold preH
  rw [List.length_map]
  have := List.length_filter_le (fun h => n.toNat.testBit h) (List.range i)
  rw [List.length_range] at this
  exact this
theorem preH_yes {n : Int} {i : Nat} (h : n.toNat.testBit i = true) : preH n (i + 1) = preH n i ++ [(i : Int)] := by
  unfold preH
  rw [List.range_succ, List.filter_append, List.map_append, List.filter_cons, h]
  rfl
theorem preH_no {n : Int} {i : Nat} (h : n.toNat.testBit i = false) : preH n (i + 1) = preH n i := by
  unfold preH
  rw [List.range_succ, List.filter_append, List.map_append, List.filter_cons, h]
  exact List.append_nil _
theorem preH_bits {n : Int} (h0 : 0 ≤ n) (h1 : n < 9223372036854775808) : Builtin.Int.intBits n ≤ 63 ∧ preH n (Builtin.Int.intBits n) = GB.hl n := by
  have a : n.natAbs = n.toNat := by omega
  have l : n.toNat < 2 ^ 63 := by
    have : (2 : Nat) ^ 63 = 9223372036854775808 := by decide
    omega
  have b : Builtin.Int.intBits n ≤ 63 := PyProof.Rows.intBits_le (by rw [a]; exact l)
  refine ⟨b, ?_⟩
  unfold preH GB.hl
  rw [GB.hnds_eq b]
  unfold Builtin.Int.intBits
  by_cases z : n = 0
  · subst z; decide
  · have z' : (n == 0) = false := by simpa using z
    rw [z', a]
    exact Nat.lt_log2_self
theorem sorted_ext : ∀ {l m : List Nat}, l.Pairwise (· < ·) → m.Pairwise (· < ·) → (∀ x, x ∈ l ↔ x ∈ m) → l = m
  | [], [], _, _, _ => rfl
  | [], y :: m, _, _, h => absurd ((h y).mpr List.mem_cons_self) (by simp)
  | x :: l, [], _, _, h => absurd ((h x).mp List.mem_cons_self) (by simp)
  | x :: l, y :: m, hl, hm, h => by
    rw [List.pairwise_cons] at hl hm
    have e : x = y := by
      rcases List.mem_cons.mp ((h x).mp List.mem_cons_self) with z | z
      · exact z
      · rcases List.mem_cons.mp ((h y).mpr List.mem_cons_self) with w | w
        · exact w.symm
        · have := hm.1 x z
          have := hl.1 y w
          omega
    subst e
    rw [sorted_ext hl.2 hm.2 fun z => ?_]
    constructor
    · intro hz
      rcases List.mem_cons.mp ((h z).mp (List.mem_cons_of_mem _ hz)) with w | w
      · subst w; exact absurd (hl.1 _ hz) (Nat.lt_irrefl _)
      · exact w
    · intro hz
      rcases List.mem_cons.mp ((h z).mpr (List.mem_cons_of_mem _ hz)) with w | w
      · subst w; exact absurd (hm.1 _ hz) (Nat.lt_irrefl _)
      · exact w
theorem snoc_ind {α : Type} {P : List α → Prop} (h0 : P []) (h1 : ∀ l a, P l → P (l ++ [a])) (l : List α) : P l := by
  have key : ∀ r : List α, P r.reverse := by
    intro r
    induction r with
    | nil => exact h0
    | cons a r ih => rw [List.reverse_cons]; exact h1 _ _ ih
  have := key l.reverse
  rw [List.reverse_reverse] at this
  exact this
theorem sum_lt : ∀ (l : List Nat) (b : Nat), l.Pairwise (· < ·) → (∀ x ∈ l, x < b) → (l.map fun h => 2 ^ h).sum < 2 ^ b := by
  refine snoc_ind ?_ ?_
  · intro b _ _; exact Nat.two_pow_pos b
  · intro l h ih b hp hb
    rw [List.pairwise_append] at hp
    have h1 := ih h hp.1 fun x hx => hp.2.2 x hx h (by simp)
    have h2 : h < b := hb h (by simp)
    rw [List.map_append, List.sum_append]
    have h3 : 2 ^ (h + 1) ≤ 2 ^ b := Nat.pow_le_pow_right (by decide) h2
    rw [Nat.pow_succ] at h3
    simp only [List.map_cons, List.map_nil, List.sum_cons, List.sum_nil]
    omega
theorem sum_set : ∀ (l : List Nat), l.Pairwise (· < ·) → (l.map fun h => 2 ^ h).sum = GB.setN l := by
  refine snoc_ind ?_ ?_
  · intro _; rfl
  · intro l h ih hp
    rw [List.pairwise_append] at hp
    have h1 := sum_lt l h hp.1 fun x hx => hp.2.2 x hx h (by simp)
    have e := ih hp.1
    rw [List.map_append, List.sum_append]
    unfold GB.setN at e ⊢
    rw [List.foldl_append, ← e]
    simp only [List.map_cons, List.map_nil, List.sum_cons, List.sum_nil, List.foldl_cons, List.foldl_nil]
    have := Nat.two_pow_add_eq_or_of_lt h1 1
    rw [Nat.mul_one] at this
    rw [Nat.add_zero, Nat.add_comm, this, Nat.or_comm]
structure Hs (hs : List Int) : Prop where
  up : hs.Pairwise (· < ·)
  rg : ∀ h ∈ hs, 0 ≤ h ∧ h < 63
theorem Hs.nat {hs : List Int} (c : Hs hs) : ∃ l : List Nat, hs = l.map (fun (h : Nat) => (h : Int)) ∧ l.Pairwise (· < ·) ∧ ∀ x ∈ l, x < 63 := by
  refine ⟨hs.map Int.toNat, ?_, ?_, ?_⟩
  · rw [List.map_map]
    conv => lhs; rw [← List.map_id hs]
    refine List.map_congr_left fun h hh => ?_
    have := (c.rg h hh).1
    show h = ((h.toNat : Nat) : Int)
    omega
  · rw [List.pairwise_map]
    refine c.up.imp_of_mem fun {a b} ha hb h => ?_
    have := (c.rg a ha).1
    omega
  · intro x hx
    obtain ⟨h, hh, rfl⟩ := List.mem_map.mp hx
    have := c.rg h hh
    omega
theorem isum_nat : ∀ l : List Nat, (l.map fun (h : Nat) => (h : Int)).sum = ((l.sum : Nat) : Int)
  | [] => rfl
  | x :: l => by rw [List.map_cons, List.sum_cons, List.sum_cons, isum_nat l]; omega
theorem Hs.set {hs : List Int} (c : Hs hs) : 0 ≤ (hs.map fun h => 1 * (2 : Int) ^ h.toNat).sum ∧ (hs.map fun h => 1 * (2 : Int) ^ h.toNat).sum < 9223372036854775808 ∧ GB.hl (hs.map fun h => 1 * (2 : Int) ^ h.toNat).sum = hs := by
  obtain ⟨l, rfl, up, rg⟩ := c.nat
  have e : ((l.map fun (h : Nat) => (h : Int)).map fun h => 1 * (2 : Int) ^ h.toNat).sum = ((GB.setN l : Nat) : Int) := by
    rw [← sum_set l up, ← isum_nat, List.map_map, List.map_map]
    congr 1
    refine List.map_congr_left fun h _ => ?_
    show 1 * (2 : Int) ^ ((h : Int)).toNat = ((2 ^ h : Nat) : Int)
    rw [Int.toNat_natCast, Int.one_mul]
    push_cast
    rfl
  have lt : GB.setN l < 2 ^ 63 := GB.setN_lt rg
  have p63 : (2 : Nat) ^ 63 = 9223372036854775808 := by decide
  rw [e]
  refine ⟨by omega, by omega, ?_⟩
  unfold GB.hl
  rw [Int.toNat_natCast]
  congr 1
  refine sorted_ext (GB.hnds_sorted _) up fun x => ?_
  rw [GB.mem_hnds, GB.setN_bit]
  constructor
  · rintro ⟨_, h⟩; exact of_decide_eq_true h
  · intro h; exact ⟨rg x h, decide_eq_true h⟩
structure TKnown (K : PySem.W.Frag) (C : Addr) : Prop where
  cl : Cls K C
  n1 : NoAttr K C "learnt"
theorem kf_learnt {d : V} : ([(("learnt" : Str), d)] : List (Str × V)).lookup ("learnt" : Str) = some d := by kernel_rfl
theorem kf_learn {d : V} : ([(("learnt" : Str), d)] : List (Str × V)).lookup ("learn" : Str) = none := by kernel_rfl
abbrev Rws (H : Hp) : List (Int × V) → List (Int × List (Int × Int)) → Prop := Paired fun q e => q.1 = e.1 ∧ ∃ r, q.2 = .ref r ∧ H r = some (.dK (dI e.2))
structure KnAt (K : PySem.W.Frag) (mg : Str → Option Value) (H : Hp) (p d : Addr) (rs : List (Int × V)) (tb : List (Int × List (Int × Int))) : Prop where
  ob : ∃ C dx, mg "Known" = some (.ref C) ∧ H p = some (.ins C dx [("learnt", .ref d)])
  dc : H d = some (.dK (dG rs))
  rw : Rws H rs tb
  hs : Hs (tb.map (·.1))
  td : ∀ e ∈ tb, Td e.2
  ap : ∀ q ∈ rs, q.2 ≠ V.ref d
theorem Rws.keys {H : Hp} : ∀ {rs : List (Int × V)} {tb : List (Int × List (Int × Int))}, Rws H rs tb → rs.map (·.1) = tb.map (·.1)
  | _, _, .nil => rfl
  | _, _, .cons h t => by rw [List.map_cons, List.map_cons, h.1, Rws.keys t]
def tbl : List (Int × List (Int × Int)) → Int → Option (List (Int × Int))
  | [], _ => none
  | e :: tb, h => if e.1 = h then some e.2 else tbl tb h
theorem Rws.lk {H : Hp} : ∀ {rs : List (Int × V)} {tb : List (Int × List (Int × Int))} (h : Int), Rws H rs tb → (lkG rs h = none ∧ tbl tb h = none) ∨ ∃ r m, lkG rs h = some (.ref r) ∧ tbl tb h = some m ∧ H r = some (.dK (dI m))
  | _, _, h, .nil => .inl ⟨rfl, rfl⟩
  | q :: rs, e :: tb, h, .cons ⟨e1, r, e2, e3⟩ t => by
    unfold lkG tbl
    by_cases z : e.1 = h
    · rw [if_pos (e1.trans z), if_pos z]
      exact .inr ⟨r, e.2, by rw [e2], rfl, e3⟩
    · rw [if_neg (fun w => z (e1.symm.trans w)), if_neg z]
      exact Rws.lk h t
theorem tbl_mem : ∀ {tb : List (Int × List (Int × Int))} {h : Int} {m : List (Int × Int)}, tbl tb h = some m → (h, m) ∈ tb
  | e :: tb, h, m, q => by
    unfold tbl at q
    by_cases z : e.1 = h
    · rw [if_pos z] at q
      cases q
      rw [← z]
      exact List.mem_cons_self
    · rw [if_neg z] at q
      exact List.mem_cons_of_mem _ (tbl_mem q)
theorem tbl_key : ∀ {tb : List (Int × List (Int × Int))} {h : Int}, (tbl tb h).isSome = true ↔ h ∈ tb.map (·.1)
  | [], h => by simp [tbl]
  | e :: tb, h => by
    unfold tbl
    rw [List.map_cons, List.mem_cons]
    by_cases z : e.1 = h
    · rw [if_pos z]
      exact ⟨fun _ => .inl z.symm, fun _ => rfl⟩
    · rw [if_neg z, tbl_key]
      exact ⟨.inr, fun q => q.resolve_left fun w => z w.symm⟩
def putT (tb : List (Int × List (Int × Int))) (h : Int) (m : List (Int × Int)) : List (Int × List (Int × Int)) := tb.map fun e => if e.1 = h then (e.1, m) else e
theorem putT_keys (tb : List (Int × List (Int × Int))) (h : Int) (m : List (Int × Int)) : (putT tb h m).map (·.1) = tb.map (·.1) := by
  unfold putT
  rw [List.map_map]
  refine List.map_congr_left fun e _ => ?_
  show (if e.1 = h then (e.1, m) else e).1 = e.1
  split <;> rfl
theorem putT_tbl (h : Int) (m : List (Int × Int)) (j : Int) : ∀ tb : List (Int × List (Int × Int)), tbl (putT tb h m) j = if j = h ∧ (tbl tb h).isSome then some m else tbl tb j
  | [] => by simp [putT, tbl]
  | e :: tb => by
    have ih := putT_tbl h m j tb
    have e0 : putT (e :: tb) h m = (if e.1 = h then (e.1, m) else e) :: putT tb h m := rfl
    rw [e0]
    by_cases z : e.1 = h
    · rw [if_pos z]
      unfold tbl
      rw [if_pos z]
      by_cases w : e.1 = j
      · rw [if_pos w, if_pos ⟨w.symm.trans z, rfl⟩]
      · rw [if_neg w, if_neg w, ih, if_neg (fun q => w (z.trans q.1.symm)), if_neg (fun q => w (z.trans q.1.symm))]
    · rw [if_neg z]
      unfold tbl
      rw [if_neg z]
      by_cases w : e.1 = j
      · rw [if_pos w, if_pos w, if_neg (fun q => z (w.trans q.1))]
      · rw [if_neg w, if_neg w, ih]
end L2
set_option Elab.async false
set_option linter.all false
set_option maxRecDepth 100000
namespace L2
open PySem PySem.Spec PyProof.Rows
section
variable {X : Cx}
end
def fzK (J : Addr → Obj → List (Key × V) → It) (x : V) (H : Hp) (R : It → Hp → Prop) : Prop := ∃ d kvs, x = .ref d ∧ H d = some (.dK kvs) ∧ ∀ o, R (J d o kvs) (upd H d (.frz o (.dK kvs)))
theorem x_fz {J : Addr → Obj → List (Key × V) → It} {H : Hp} {d : Addr} {kvs : List (Key × V)} {R : It → Hp → Prop} (hd : H d = some (.dK kvs)) (h : ∀ o A, A d = some (.frz o (.dK kvs)) → SmB d H A → R (J d o kvs) A) : fzK J (.ref d) H R :=
  ⟨d, kvs, rfl, hd, fun o => h o _ upd_same fun b u n e => by rw [upd_ne n]; exact e⟩
theorem x_sl3 {r : V → Option Int → Option Int → Option Int → Hp → VK → Prop} {te : TE} {tl th tk : TO} {σ : St} {H : Hp} {Q : VK} (h : te σ H fun x H1 => tl σ H1 fun l H2 => th σ H2 fun u H3 => tk σ H3 fun k H4 => r x l u k H4 Q) : tSl3 r te tl th tk σ H Q := h
theorem x_thaw {t : TS} {D : Ends} {σ : St} {H : Hp} {d : Addr} {kvs : List (Key × V)} (hd : H d = some (.dK kvs)) (h : t { D with nx := fun σ' H' => (∃ o, H' d = some (.frz o (.dK kvs))) ∧ D.nx σ' (upd H' d (.dK kvs)), rt := fun v H' => (∃ o, H' d = some (.frz o (.dK kvs))) ∧ D.rt v (upd H' d (.dK kvs)) } σ H) : tThaw t D σ H := ⟨d, kvs, hd, h⟩
section
variable {X : Cx}
end
end L2
set_option Elab.async false
set_option linter.all false
set_option maxRecDepth 100000
namespace L2
open PySem PySem.Spec PyProof.Rows
section
variable {X : Cx}
theorem x_tyd {K : PySem.W.Frag} {H : Hp} {a : Addr} {kvs : List (Key × V)} {P : Prop} (hd : H a = some (.dK kvs)) (h : P) : tyV K "dict" (.ref a) H ∧ P := ⟨.inr (.inr (.inl ⟨rfl, .inl ⟨kvs, hd⟩⟩)), h⟩
end
end L2
set_option Elab.async false
set_option linter.all false
set_option maxRecDepth 100000
namespace L2
open PySem PySem.Spec PyProof.Rows
section
variable {X : Cx}
def rNeE : R2 := fun x y H Q => ∃ (a c : Addr) (m : List (Int × Int)), x = .ref a ∧ y = .ref c ∧ Rd H a (.dK (dI m)) ∧ Rd H c (.dK []) ∧ Q (.bl (!m.isEmpty)) H
theorem op_neE (hu : X.A.units < cLine) : OpR X (compareOp .NotEq) rNeE := by
  intro pins s σ H x y v u Q I rx ry h
  obtain ⟨a, c, m, rfl, rfl, ha, hb, q⟩ := h
  cases rx
  cases ry
  obtain ⟨_, s1, vs, r1, d1⟩ := dk_rd I.hok ha
  obtain ⟨_, s2, ws, r2, d2⟩ := dk_rd I.hok (show Rd H c (.dK (dI [])) from hb)
  have e1 : vs.length = m.length := by rw [← r1.length, dI_len]
  have e2 : ws.length = 0 := by rw [← r2.length, dI_len]; rfl
  refine PySem.W.keq_ne s1 s2 d1 d2 hu (r := true) (fun z => hits_of r2 r1 (fun p hp => ?_)) ⟨.bl (!m.isEmpty), H, I, ?_, q⟩
  · have : m.length = 0 := by omega
    rw [List.length_eq_zero_iff.mp this] at hp
    cases hp
  · rw [e1, e2]
    cases m <;> rfl
def rSetd : V → List V → Hp → VK → Prop := fun x vs H Q => ∃ d m i y, x = .ref d ∧ vs = [.int i, y] ∧ H d = some (.dK (dG m)) ∧ m.length < 1000 ∧ (∀ v, lkG m i = some v → Q v H) ∧ (lkG m i = none → Q y (upd H d (.dK (putK (dG m) (Sum.inl i) y))))
theorem mt_dsetdef : MtR X "dict.setdefault" rSetd := by
  intro pins s σ H x xs v us Q I rx rv h
  obtain ⟨d, m, i, y, rfl, rfl, hd, hl, q1, q2⟩ := h
  cases rx
  obtain ⟨u1, u2, rfl, r1, r2⟩ := rv.two
  obtain ⟨t, rfl⟩ := r1
  obtain ⟨z, hS, vs, rel, dd⟩ := dk_of I.hok hd
  obtain ⟨h1, h2⟩ := tyV_is (T := "dict") I (x := .ref d) rfl (.inr (.inr (.inl ⟨rfl, .inl ⟨_, hd⟩⟩)))
  have l1 : vs.length = m.length := by rw [← KV.length rel, dG_len]
  have hv := rel.val (Sum.inl i : Key)
  rw [dG_val] at hv
  have hk := mixKind_int X.prog X.w i t
  refine call_meetsIn PySem.F.slot_dict_setdefault h1 PySem.F.entry_dict_setdefault (PySem.F.args_dict_setdefault_3 _ _ _) (kt_meets_setdefault (mixKind X.prog X.w) d hk hS u2) ⟨vs, dd, by rw [l1]; exact Nat.le_of_lt (small1000 (by omega)), fun v e => ?_, fun e h' g1 sb => ?_⟩
  · cases w : lkG m i with
    | none =>
      rw [w] at hv
      rw [RelO.none_of hv] at e
      cases e
    | some v0 =>
      rw [w] at hv
      obtain ⟨u, hu, ru⟩ := RelO.some_of hv
      rw [hu] at e
      cases e
      exact ⟨v0, H, I.tok _, ru, q1 v0 w⟩
  · have w : lkG m i = none := by
      cases w : lkG m i with
      | none => rfl
      | some v0 =>
        rw [w] at hv
        obtain ⟨u, hu, ru⟩ := RelO.some_of hv
        rw [hu] at e
        cases e
    obtain ⟨o, es, ep, ho, rr⟩ := id g1
    have lp : (putK (dG m) (Sum.inl i) y).length ≤ 1000 := by
      have := length_putK (dG m) (Sum.inl i : Key) y
      rw [dG_len] at this
      omega
    exact ⟨y, _, I.write (t' := s.toks + 1) (x := d) (e := d) (o := .dK (putK (dG m) (Sum.inl i) y)) (by rw [hd]; trivial) (.inl rfl) (fun b ob n e => (sb.2 b n).trans e) ⟨o, ho⟩ (dk_new (Nat.le_of_lt (small1000 lp)) hS (KV.put rel (Sum.inl i : Key) r2) g1), r2, q2 w⟩
theorem keys_intsG {P : Program} {w : World} : ∀ {m : List (Int × V)} {vs : List (Key × Value)} {us : List Value}, KV (dG m) vs → us.length = vs.length → (∀ (j : Nat) v, us[j]? = some v → ∃ k x, vs[j]? = some (k, x) ∧ (mixKind P w).is k v = true) → IntsAre us (m.map (·.1))
  | [], _, us, r, hl, h => by
    have r' : KV [] _ := r
    cases r'
    cases us with
    | nil => exact .nil
    | cons _ _ => cases hl
  | p :: m, vs, us, r, hl, h => by
    have r' : KV ((Sum.inl p.1, p.2) :: dG m) vs := r
    cases r' with
    | cons r1 r2 =>
      rename_i q qs
      cases us with
      | nil => cases hl
      | cons u us =>
        obtain ⟨k, x, e1, e2⟩ := h 0 u rfl
        have e1' : q = (k, x) := Option.some.inj e1
        subst e1'
        have ek : (Sum.inl p.1 : Key) = k := r1.1
        subst ek
        rcases keyIs_shape (show keyIs (Sum.inl p.1) u = true from e2) with ⟨i, t, z1, z2⟩ | ⟨_, _, z, _⟩
        · have z1' : p.1 = i := Sum.inl.inj z1
          rw [z2, ← z1']
          exact .cons _ t (keys_intsG (P := P) (w := w) r2 (Nat.succ.inj hl) fun j v e => h (j + 1) v e)
        · cases z
theorem call_sortedG (hc : X.calm = true) : CallR X (.builtin "sorted") (fun xs H Q => ∃ (d : Addr) (m : List (Int × V)), xs = [.ref d] ∧ Rd H d (.dK (dG m)) ∧ m.length < 64 ∧ ∀ (l : Addr) (ns : List Int), H l = none → ns.Perm (m.map (·.1)) → ns.Pairwise (· ≤ ·) → Q (.ref l) (upd H l (.lst (ns.map V.int)))) := by
  intro pins s σ H xs us Q I r h
  obtain ⟨d, m, rfl, hd, hlen, q⟩ := h
  obtain ⟨u, rfl, rx⟩ := vals1 r
  cases rx
  obtain ⟨z, hS, vs, rel, dd⟩ := dk_rd I.hok hd
  obtain ⟨ep, hat⟩ := dd.dictAt
  have hl : vs.length = m.length := by rw [← rel.length, dG_len]
  refine GX.sorted_in (args_sorted1 _) (PySem.W.kdu_collect (A := X.A.in1) (PySem.W.kdl_dict (knd := mixKind X.prog X.w) (kvs := vs) (ep := ep) hS) (I.ok.hd hc) hat (by rw [hl]; exact Nat.le_of_lt (small1000 (by omega))) fun h' tk acc hk hacc => ?_)
  have hi : IntsAre acc.toList (m.map (·.1)) := keys_intsG (P := X.prog) (w := X.w) rel (by rw [Array.length_toList]; exact hacc.1) fun j v e => hacc.2 j v (by rw [← Array.getElem?_toList]; exact e)
  have ha : acc.toList.length = m.length := by rw [hi.length, List.length_map]
  have I1 : Inv X pins σ H { s with heap := h', toks := tk } := I.kept hk
  refine sort_tail hi (by rw [ha]; exact hlen) (by rw [ha]; exact Nat.le_of_lt (small1000 (by omega))) fun h2 out ns' e k2 he a1 a2 a3 => ?_
  have ln : ns'.length ≤ sizeLine := by rw [a2.length_eq, List.length_map]; exact Nat.le_of_lt (small1000 (by omega))
  exact ⟨.ref h'.objs.size, _, I1.lay_ints (tk := tk) k2 he a1 ln, rfl, q _ ns' (I1.hok.fresh (Nat.le_refl _)) a2 a3⟩
end
theorem comp_items {d : Addr} {o : Obj} {kvs : List (Key × V)} {g : TG} {tt : TT} {te : TE} {σ : St} {H : Hp} {D : Addr} {Qe : Hp → Prop} (Pv : Nat → St → Hp → Prop) (h0 : Pv 0 σ H) (hl : ∀ i σ H, i ≤ kvs.length → Pv i σ H → H d = some (.frz o (.dK kvs)))
    (hs : ∀ i k v t σ H H1, kvs[i]? = some (k, v) → Pv i σ H → H t = none → Same H H1 → H1 t = some (.tup [kV k, v]) → cTurn g tt te D (Pv (i + 1)) (.ref t) σ H1) (hd : ∀ σ H, Pv kvs.length σ H → Qe H) :
    ∃ W : Nat → Nat → St → Hp → Prop, (∃ m, W 0 m σ H) ∧ ∀ i m σ' H', W i m σ' H' → ((Itm d o kvs).stop i H' ∧ Qe H') ∨ ((Itm d o kvs).go i H' ∧ ∃ N : St → Hp → Prop, (∀ σ2 H2, N σ2 H2 → ∃ m', m' < m ∧ W (i + 1) m' σ2 H2) ∧
      ∀ x H'', (Itm d o kvs).yld i H' x H'' → cTurn g tt te D N x σ' H'') := by
  refine ⟨fun i m σ H => m = kvs.length - i ∧ i ≤ kvs.length ∧ Pv i σ H, ⟨kvs.length, by simp, Nat.zero_le _, h0⟩, ?_⟩
  rintro i m σ H ⟨rfl, hi, p⟩
  have q := hl i σ H hi p
  by_cases hlt : i < kvs.length
  · refine .inr ⟨⟨hlt, q⟩, Pv (i + 1), fun σ' H' p' => ⟨kvs.length - (i + 1), by omega, rfl, hlt, p'⟩, fun x H' y => ?_⟩
    obtain ⟨k, v, a, e1, e2, rfl, rfl⟩ := y
    exact hs i k v a σ _ _ e1 p e2 (same_upd e2) upd_same
  · have e : i = kvs.length := by omega
    subst e
    exact .inl ⟨⟨Nat.le_refl _, q⟩, hd σ H p⟩
theorem x_iitems {td : TE} {σ : St} {H : Hp} {R : It → Hp → Prop} (h : td σ H fun x H1 => fzK Itm x H1 R) : iItems td σ H R := h
theorem kf_listed {d : V} : ([(("learnt" : Str), d)] : List (Str × V)).lookup ("listed" : Str) = none := by kernel_rfl
theorem kf_merge {d : V} : ([(("learnt" : Str), d)] : List (Str × V)).lookup ("merge" : Str) = none := by kernel_rfl
theorem x_neE {H : Hp} {Q : VK} {a c : Addr} {m : List (Int × Int)} (ha : Rd H a (.dK (dI m))) (hc : Rd H c (.dK [])) (h : Q (.bl (!m.isEmpty)) H) : rNeE (.ref a) (.ref c) H Q := ⟨a, c, m, rfl, rfl, ha, hc, h⟩
theorem x_setd {H : Hp} {Q : VK} {d : Addr} {m : List (Int × V)} {i : Int} {y : V} (hd : H d = some (.dK (dG m))) (nd : (m.map (·.1)).Nodup) (hl : m.length < 1000) (h : ∀ v H', (lkG m i = some v ∧ H' = H) ∨ (lkG m i = none ∧ v = y ∧ H' = upd H d (.dK (dG (putG m i y)))) → Q v H') : rSetd (.ref d) [.int i, y] H Q :=
  ⟨d, m, i, y, rfl, rfl, hd, hl, fun v e => h v H (.inl ⟨e, rfl⟩), fun e => h y _ (.inr ⟨e, rfl, by rw [dG_put m i y nd]⟩)⟩
end L2
set_option Elab.async false
set_option linter.all false
set_option maxRecDepth 100000
namespace GX
open PySem
section
variable {prog : Program} {w : World} {A : Around} {E : Value → Shared → Prop} {s : Shared} {K : Type} [DecidableEq K] {knd : KeyKind prog w K}
theorem dict_of_tuple {l : Addr} {vs : List Value} {n : Nat} {kx : List (K × Value)} {Q : Value → Shared → Prop} (hA : A.handled = none)
    (hl : s.heap.get? l = some { cls := .type "tuple", dict := none, data := .seq vs.toArray n, slots := #[] }) (hz : vs.length ≤ sizeLine) (hlen : kx.length = vs.length)
    (hP : ∀ (i : Nat) v, vs[i]? = some v → ∃ a key k x o c, v = .ref a ∧ kx[i]? = some (k, x) ∧ knd.is k key = true ∧ s.heap.get? a = some o ∧ o.cls = .type "tuple" ∧ o.data = .seq #[key, x] c)
    (h : ∀ h' tk, (∀ b o, s.heap.get? b = some o → h'.get? b = some o) → h'.DictOf knd s.heap.objs.size (merged [] kx) → Q (.ref s.heap.objs.size) { s with heap := h', toks := tk }) :
    wpAny (model prog w) A (call (.type "dict") [.ref l]) Q E s := by
  have hl' : (newD s.heap).get? l = some { cls := .type "tuple", dict := none, data := .seq vs.toArray n, slots := #[] } := Heap.get?_push_of_some _ hl
  refine dict_opens (T := "tuple") ⟨_, hl', rfl⟩ (by decide) (no_keysT hA hl' fun h1 tk1 k1 => ⟨rfl, ?_⟩)
  have hl1 := k1 l _ hl'
  have lt1 : l < h1.objs.size := Heap.lt_size hl1
  have ld : l < s.heap.objs.size := Heap.lt_size hl
  have il : h1.IsTuple l vs.toArray := ⟨_, hl1, rfl, n, rfl⟩
  have d1 : h1.DictOf knd s.heap.objs.size [] := by
    obtain ⟨od, es, ep, ho, r⟩ := Heap.DictOf.new (knd := knd) s.heap
    exact ⟨od, es, ep, k1 _ _ ho, r⟩
  have dlt : s.heap.objs.size < h1.objs.size := by
    obtain ⟨od, es, ep, ho, r⟩ := d1
    exact Heap.lt_size ho
  have hI : ∀ {b : Addr}, b < h1.objs.size → b ≠ h1.objs.size := fun z => Nat.ne_of_lt z
  refine wpAny_pyIter_tuple (s := { s with heap := h1, toks := tk1 }) il ?_
  have W := Walks.tuple (prog := prog) (w := w) (A := A.in1.in1) hA h1.objs.size l (hI lt1) vs.toArray
  refine upd_loop (A := A.in1) (knd := knd) W (d := s.heap.objs.size) ?_ s.heap kx (by rw [hlen, List.size_toArray]) (by rw [List.size_toArray]; exact hz) (fun i v hv => ?_) vs.toArray.size 0 _ 0 (by omega)
    ⟨⟨_, Heap.get?_push_size _ rfl, rfl, rfl⟩, ⟨_, Heap.get?_push_of_some _ hl1, rfl, n, rfl⟩⟩ (fun b o _ nb e => Heap.get?_push_of_some _ (k1 b o (Heap.get?_push_of_some _ e))) ?_ fun h2 tk2 k2 d2 => ?_
  · intro z
    have z' : s.heap.objs.size = h1.objs.size ∨ s.heap.objs.size = l := by simpa using z
    rcases z' with z' | z'
    · exact absurd dlt (by rw [z']; exact Nat.lt_irrefl _)
    · exact absurd ld (by rw [z']; exact Nat.lt_irrefl _)
  · obtain ⟨a, key, k, x, o, c, e1, e2, e3, e4, e5, e6⟩ := hP i v (by simpa using hv)
    refine ⟨a, key, k, x, o, c, e1, e2, e3, e4, e5, e6, Nat.ne_of_lt (Heap.lt_size e4), fun z => ?_⟩
    have z' : a = h1.objs.size := by simpa using z
    exact absurd (Nat.lt_trans (Heap.lt_size e4) dlt) (by rw [z']; exact Nat.lt_irrefl _)
  · exact d1.push _
  · exact ⟨rfl, h h2 tk2 (fun b o e => k2 b o (fun z => by
      have z' : b = h1.objs.size := by simpa using z
      exact absurd (Nat.lt_trans (Heap.lt_size e) dlt) (by rw [z']; exact Nat.lt_irrefl _)) (Nat.ne_of_lt (Heap.lt_size e)) e) d2⟩
end
end GX
namespace L2
open PySem PySem.Spec PyProof.Rows
section
variable {X : Cx}
theorem call_dictPT (hc : X.calm = true) : CallR X (.type "dict") (fun xs H Q => ∃ (a : Addr) (ys : List V) (ps : List (Int × Int)), xs = [.ref a] ∧ H a = some (.tup ys) ∧ Prs H ys ps ∧ (ps.map (·.1)).Nodup ∧ ps.length ≤ 1000 ∧ ∀ p, H p = none → Q (.ref p) (upd H p (.dK (dI ps)))) := by
  intro pins s σ H xs us Q I r h
  obtain ⟨a, ys, ps, rfl, ha, hp, nd, hl, q⟩ := h
  obtain ⟨u, rfl, rx⟩ := vals1 r
  cases rx
  obtain ⟨z, its, rv, tp⟩ : ys.length ≤ sizeLine ∧ ∃ its : List Value, Vals ys its ∧ IsTpl s.heap a its.toArray := I.hok a _ ha
  obtain ⟨n, e⟩ := tp.obj
  have hlen := rv.length
  obtain ⟨kx, k1, k2, k3⟩ := pairs_kx I hp rv
  refine GX.dict_of_tuple (knd := mixKind X.prog X.w) (I.ok.hd hc) e (by rw [← hlen]; exact z) k2 k3 fun h' tk kp dd => ?_
  have rel : KV (dI ps) (merged [] kx) := by
    have := KV.merge k1 (show KV (dI []) [] from .nil)
    rw [merge_nd ps [] (by simpa using nd)] at this
    exact this
  refine ⟨.ref s.heap.objs.size, _, I.laid (t' := tk) kp (Nat.le_refl _) (dk_new ?_ (beq_eq_false_iff_ne.mpr (Ne.symm (Nat.ne_of_lt I.big))) rel dd), rfl, q _ (I.hok.fresh (Nat.le_refl _))⟩
  rw [dI_len]
  exact Nat.le_of_lt (small1000 hl)
end
theorem x_gsub {to ti : TE} {t : TSet} {v : V} {σ : St} {H : Hp} {Q : St → Hp → Prop} (h : to σ H fun o H1 => ti σ H1 fun i H2 => t o i v H2 fun H3 => Q σ H3) : gSub to ti t v σ H Q := h
theorem x_setL {p : Addr} {xs : List V} {k : Int} {j : Nat} {v : V} {H : Hp} {Q : Hp → Prop} (hp : H p = some (.lst xs)) (hk : ixN xs.length k = some j) (h : ∀ H', But p H H' → H' p = some (.lst (xs.set j v)) → Q H') : rSetL (.ref p) (.int k) v H Q :=
  ⟨p, xs, k, j, rfl, rfl, hp, hk, h _ .upd upd_same⟩
end L2
set_option Elab.async false
set_option linter.all false
set_option maxRecDepth 100000
namespace L2
open PySem PySem.Spec PyProof.Rows
def Prn (n : Nat) (p : Array Nat) : Prop := p.toList.Perm (List.range n)
section
variable {n : Nat} (hn : 0 < n)
include hn
end
section
variable {prog : Program} {w : World} {A : Around} {E : Value → Shared → Prop} {s : Shared}
end
section
variable {X : Cx}
end
end L2
set_option Elab.async false
set_option linter.all false
set_option maxRecDepth 100000
namespace GX
open PySem PySem.Spec PyProof.Rows
abbrev revO (l : Addr) (k : Int) : Obj := { cls := .type "list_reverseiterator", data := .fields #[.ref l, .int k 0] }
def IsRev (h : Heap) (it l : Addr) (k : Int) : Prop := h.get? it = some (revO l k)
theorem IsRev.ty {s : Shared} {a l : Addr} {k : Int} (h : IsRev s.heap a l k) : s.TypeIs (.ref a) "list_reverseiterator" := ⟨_, h, rfl⟩
section
variable {prog : Program} {w : World} {A : Around} {s : Shared} {E : Value → Shared → Prop} {it l : Addr}
end
end GX
set_option Elab.async false
set_option linter.all false
set_option maxRecDepth 100000
namespace GX
open PySem PySem.Spec PyProof.Rows
abbrev dictO (es : Array DictEntry) (ep : Nat) : Obj := { cls := .type "dict", data := .dict es ep }
abbrev valO (d : Addr) (i n ep : Nat) : Obj := { cls := .type "dict_valueiterator", data := .fields #[.ref d, .int i 0, .int n 0, .int ep 0] }
def RawD (h : Heap) (d : Addr) (es : Array DictEntry) (ep : Nat) : Prop := h.get? d = some (dictO es ep)
def ValAt (h : Heap) (it d : Addr) (i n ep : Nat) : Prop := h.get? it = some (valO d i n ep)
theorem RawD.of {h : Heap} {d : Addr} {o : Obj} {es : Array DictEntry} {ep : Nat} (e : h.get? d = some o) (x : o.ExactDict) (dt : o.data = .dict es ep) : RawD h d es ep := by
  obtain ⟨c, di, dat, sl⟩ := o
  obtain ⟨rfl, rfl, rfl⟩ := x
  cases dt
  exact e
theorem RawD.at {h g : Heap} {d : Addr} {es : Array DictEntry} {ep : Nat} (x : RawD h d es ep) (k : ∀ o, h.get? d = some o → g.get? d = some o) : RawD g d es ep := k _ x
theorem RawD.lt {h : Heap} {d : Addr} {es : Array DictEntry} {ep : Nat} (x : RawD h d es ep) : d < h.objs.size := Heap.lt_size x
theorem ValAt.is {h : Heap} {it d : Addr} {i n ep : Nat} (x : ValAt h it d i n ep) : h.IsValIter it d i n ep := ⟨_, x, rfl, rfl⟩
section
variable {prog : Program} {w : World} {A : Around} {s : Shared} {E : Value → Shared → Prop} {it v d : Addr} {es : Array DictEntry} {i ep : Nat}
end
end GX
set_option Elab.async false
set_option linter.all false
set_option maxRecDepth 100000
namespace L2
open PySem PySem.Spec PyProof.Rows
section
variable (ky : Nat → Int)
variable {ky} {n : Nat} (hn : 0 < n)
include hn
end
def ltF (f : Bool) : List Int → List Int → Bool
  | x :: r, y :: q => if x = y then ltF f r q else decide (x < y)
  | _, _ => f
def ltL (a b : List Int) : Bool := ltF (decide (a.length < b.length)) a b
theorem range_getD {α : Type} (l : List α) (d : α) : ((List.toArray (List.range l.length)).toList.map fun i => l.getD i d) = l := by
  refine List.ext_getElem (by simp) fun i h1 h2 => ?_
  simp at h1 ⊢
  simp [h1]
def OrdP (ks : List (List Int)) (n : Nat) (p : Array Nat) : Prop := (∃ g : Nat → Int, ∀ i j, i < n → j < n → ltL (ks.getD i []) (ks.getD j []) = decide (g i < g j)) → ∀ i j, i ≤ j → j < n → ltL (ks.getD (p.getD j 0) []) (ks.getD (p.getD i 0) []) = false
def OrdW (ks : List (List Int)) (xs ws : List V) : Prop := ∃ p : Array Nat, Prn xs.length p ∧ ws = (p.toList.map fun i => xs.getD i V.non) ∧ OrdP ks xs.length p
section
variable {prog : Program} {w : World} {A : Around} {E : Value → Shared → Prop} {s : Shared}
end
theorem OrdW.perm {ks : List (List Int)} {xs ws : List V} (h : OrdW ks xs ws) : ws.Perm xs := by
  obtain ⟨p, hp, rfl, _⟩ := h
  have := hp.map fun i => xs.getD i V.non
  have e := range_getD xs V.non
  rw [show (List.toArray (List.range xs.length)).toList = List.range xs.length from rfl] at e
  rw [e] at this
  exact this
section
variable {X : Cx} {pins : List (Addr × Obj)} {σ : St} {H : Hp} {s : Shared} {D f : Addr} {xs : List V} {its : List Value} {ks : List (List Int)} {k : Nat} {fd : FuncData} {ps : List Str} {sp : Sp}
end
section
variable {X : Cx}
end
end L2
set_option Elab.async false
set_option linter.all false
set_option maxRecDepth 100000
namespace L2
open PySem PySem.Spec PyProof.Rows
abbrev CelO (c : Addr) (v : V) : HO := .ext fun h => ∃ u, RelV v u ∧ h.IsCell c (some u)
def Lent (H : Hp) (c : Addr) (v : V) : Prop := ∃ o, H c = some (.frz o (CelO c v))
section
variable {P : Program} {w : World} {H H' : Hp} {h h' : Heap} {cs fs : List Addr}
end
section
variable {CX : CXT} {P : Program} {w : World} {K : PySem.W.Frag} {mg : Str → Option Value} {base : Heap} {N ps : List Str} {qual : Str} {scope : Scope} {f : Addr} {cd : Value} {cl : List (Str × Addr)} {A : Around} {outer : List Env} {s : Shared} {H : Hp} {E : XK} {us : List Value} {vs vals : List V}
def LentAll (H : Hp) (cl : List (Str × Addr)) (vals : List V) : Prop := cl.length = vals.length ∧ ∀ (i : Nat) x c v, cl[i]? = some (x, c) → vals[i]? = some v → Lent H c v
theorem LentAll.frz (l : LentAll H cl vals) : ∀ c ∈ cl.map (·.2), ∃ o φ, H c = some (.frz o (.ext φ)) := fun c hc => by
  obtain ⟨p, hp, rfl⟩ := List.mem_map.mp hc
  obtain ⟨i, hi⟩ := List.getElem?_of_mem hp
  have il := (List.getElem?_eq_some_iff.mp hi).1
  have iv : i < vals.length := by have := l.1; omega
  obtain ⟨o, e⟩ := l.2 i p.1 p.2 vals[i] hi (List.getElem?_eq_getElem iv)
  exact ⟨o, _, e⟩
theorem LentAll.cell {h : Heap} (l : LentAll H cl vals) (ok : HOk P w H h) {i : Nat} {x : Str} {c : Addr} {v : V} (e1 : cl[i]? = some (x, c)) (e2 : vals[i]? = some v) : ∃ u, RelV v u ∧ h.IsCell c (some u) := by
  obtain ⟨o, e⟩ := l.2 i x c v e1 e2
  exact (show h.get? c = some o ∧ ((∃ u, RelV v u ∧ h.IsCell c (some u)) ∧ _) from ok c _ e).2.1
end
end L2
set_option Elab.async false
set_option linter.all false
set_option maxRecDepth 100000
namespace L2
open PySem PySem.Spec PyProof.Rows
structure FunC (K : PySem.W.Frag) (x qual : Str) (st : Stmt) (f : Addr) (fd : FuncData) (c : Addr) : Prop where
  ex : ∃ (oc : Value) (od : Option Addr) (kV doc pm : Value) (an : Option Addr) (ct : Value) (osl : Array (Option Value)),
    fd = PySem.W.fnOf x qual (defArgs st) (defBody st) (defScope st) .none kV doc pm an (.ref c) ct ∧ K.lookup f = some ⟨oc, od, .func fd, osl⟩ ∧ PySem.W.codeIn K (.ref c) qual = true
section
variable {P : Program} {w : World} {K : PySem.W.Frag} {mg : Str → Option Value} {base : Heap}
theorem FunC.ok {x qual : Str} {st : Stmt} {f c : Addr} {fd : FuncData} {N ps : List Str} {k : Nat} {sp : Sp} (F : FunC K x qual st f fd c) (S : FnScope N ps (defScope st)) (len : ∀ vs H Q E, sp vs H Q E → vs.length = ps.length)
    (hbody : ∀ (A : Around) (outer : List Env) (s : Shared) (H : Hp) (vs : List V) (Q : VK) (E : XK), Room k (A.deeper (envOfC qual (defScope st) s.heap.objs.size f (.ref c))) → sp vs H Q E →
      ∃ t, PSs (cxOf CX0 P w K mg base N qual (defScope st) f (.ref c) A outer s H E).nox (defBody st) t ∧ t { nx := fun _ H' => Q .non H', rt := Q } (start N vs) H) : FnOk P w K mg base CX0 (k + 1) f fd ps sp := by
  obtain ⟨oc, od, kV, doc, pm, an, ct, osl, rfl, lk, hcd⟩ := F.ex
  refine fn_of lk hcd S len fun A outer s H vs Q E hr hsp => ?_
  obtain ⟨t, h, q⟩ := hbody A outer s H vs Q E hr hsp
  exact ⟨t, h.nox, q⟩
end
end L2
local macro_rules | `(tactic| sizeOf_list_dec) => `(tactic| first | assumption | decide | exact ⟨by decide, by decide⟩ | exact ⟨by decide, by decide, by decide⟩ | exact Nat.le_of_ble_eq_true rfl | exact L2.small1000 (by omega) | exact L2.pow18p | exact L2.pow60p | omega | fail)
local macro_rules | `(tactic| decreasing_trivial_pre_omega) => `(tactic| first | assumption | (apply L2.SqL.of; assumption) | (apply L2.SqT.of; assumption) | (refine Or.inl ?_; assumption) | (refine Or.inl ?_; apply L2.SqL.of; assumption) | (refine Or.inr ?_; apply L2.SqT.of; assumption))
local macro_rules | `(tactic| bv_omega) => `(tactic| first | assumption | exact L2.atI_nat (j := 0) rfl | exact L2.atI_nat (j := 1) rfl | exact L2.atI_nat (j := 2) rfl | exact L2.atI_nat (j := 3) rfl | exact L2.atI_nat (j := 4) rfl | exact L2.atI_nat (j := 5) rfl)
local macro_rules | `(tactic| array_get_dec) => `(tactic| array_mem_dec)
local macro_rules | `(tactic| array_get_dec) => `(tactic| with_reducible first
  | refine L2.x_seqA ?_ | refine L2.x_seqD ?_ | refine L2.x_seqP ?_ | refine L2.x_seqF ?_ | refine L2.x_seqW ?_ | refine L2.x_seqM ?_ | refine L2.x_seqG ?_ | refine L2.x_asg ?_ | refine L2.x_op ?_ | refine L2.x_c ?_ | refine L2.x_ret ?_ | refine L2.x_ifs ?_ | refine L2.x_name ?_
  | refine L2.x_cons ?_ | refine L2.x_nil ?_ | refine L2.x_call ?_ | refine L2.x_cb ?_ | refine L2.x_I0 ?_ | refine L2.x_test ?_ | refine L2.x_tru ?_ | refine L2.x_b ?_ | refine L2.x_exbl ?_ | refine L2.x_extru ?_
  | refine L2.x_and ?_ | refine L2.x_or ?_ | refine L2.x_not ?_ | refine L2.x_andV ?_ | refine L2.x_orV ?_ | refine L2.x_notV ?_ | refine L2.x_ife ?_
  | refine L2.x_next ?_ | refine L2.x_drop ?_ | refine L2.x_un ?_ | refine L2.x_U ?_ | refine L2.x_eqI ?_ | refine L2.x_neI ?_ | refine L2.x_eqS ?_ | refine L2.x_neS ?_ | refine L2.x_eqB ?_ | refine L2.x_neB ?_
  | refine L2.x_tup ?_ | refine L2.x_lst ?_ | refine L2.x_dnew ?_ | refine L2.x_sl ?_ | refine L2.x_nopart ?_ | refine L2.x_part ?_ | refine L2.x_exint ?_
  | refine L2.x_dget ?_ | refine L2.x_dget2 ?_ | refine L2.x_din ?_ | refine L2.x_dnotin ?_ | refine L2.x_dput ?_ | refine L2.x_for ?_ | refine L2.x_ilist ?_ | refine L2.x_itup ?_ | refine L2.x_ir1 ?_ | refine L2.x_bm ?_ | refine L2.x_bm0 ?_ | refine L2.x_comp ?_
  | refine L2.x_gcons ?_ | refine L2.x_gnil ?_ | refine L2.x_retN ?_ | refine L2.x_brk ?_ | refine L2.x_cont ?_ | refine L2.iteT ?_ | refine L2.iteF ?_ | refine L2.iteNT ?_ | refine L2.iteNF ?_)
local macro_rules | `(tactic| array_mem_dec) => `(tactic| ((with_reducible apply L2.x_gtup); (focus decreasing_trivial_pre_omega); (focus rfl)))
local macro_rules | `(tactic| array_mem_dec) => `(tactic| ((with_reducible apply L2.x_var); (focus exact rfl)))
local macro_rules | `(tactic| array_mem_dec) => `(tactic| ((with_reducible apply L2.x_I); (focus sizeOf_list_dec)))
local macro_rules | `(tactic| array_mem_dec) => `(tactic| ((with_reducible apply L2.x_ixT); (focus decreasing_trivial_pre_omega); (focus bv_omega)))
local macro_rules | `(tactic| array_mem_dec) => `(tactic| ((with_reducible apply L2.x_ixL); (focus decreasing_trivial_pre_omega); (focus bv_omega)))
local macro_rules | `(tactic| array_mem_dec) => `(tactic| ((with_reducible apply L2.x_slL); (focus decreasing_trivial_pre_omega)))
local macro_rules | `(tactic| array_mem_dec) => `(tactic| ((with_reducible apply L2.x_exisd); (focus decreasing_trivial_pre_omega)))
local macro_rules | `(tactic| array_mem_dec) => `(tactic| ((with_reducible apply L2.x_exil); (focus decreasing_trivial_pre_omega)))
local macro_rules | `(tactic| array_mem_dec) => `(tactic| ((with_reducible apply L2.x_exit); (focus decreasing_trivial_pre_omega)))
local macro_rules | `(tactic| array_mem_dec) => `(tactic| ((with_reducible apply L2.x_exdo); (focus decreasing_trivial_pre_omega); (first | rw [L2.getDmap] | rw [L2.isSomemap] | skip)))
local macro_rules | `(tactic| array_mem_dec) => `(tactic| ((with_reducible apply L2.x_exdin); (focus decreasing_trivial_pre_omega); (first | rw [L2.getDmap] | rw [L2.isSomemap] | skip)))
local macro_rules | `(tactic| array_mem_dec) => `(tactic| ((with_reducible apply L2.x_exdg); (focus decreasing_trivial_pre_omega); (focus decreasing_trivial_pre_omega)))
local macro_rules | `(tactic| array_mem_dec) => `(tactic| ((with_reducible apply L2.x_tyl); (focus decreasing_trivial_pre_omega)))
local macro_rules | `(tactic| array_mem_dec) => `(tactic| ((with_reducible apply L2.x_lenL); (focus decreasing_trivial_pre_omega)))
local macro_rules | `(tactic| array_mem_dec) => `(tactic| ((with_reducible apply L2.x_lenT); (focus decreasing_trivial_pre_omega)))
local macro_rules | `(tactic| array_mem_dec) => `(tactic| ((with_reducible apply L2.x_lenD); (focus decreasing_trivial_pre_omega)))
local macro_rules | `(tactic| array_mem_dec) => `(tactic| ((with_reducible apply L2.x_nwT); (focus sizeOf_list_dec)))
local macro_rules | `(tactic| array_mem_dec) => `(tactic| ((with_reducible apply L2.x_nwL); (focus sizeOf_list_dec)))
local macro_rules | `(tactic| array_mem_dec) => `(tactic| ((with_reducible apply L2.x_append); (focus assumption); (focus sizeOf_list_dec)))
local macro_rules | `(tactic| array_mem_dec) => `(tactic| ((with_reducible apply L2.x_exdput); (focus assumption); (focus assumption); (focus sizeOf_list_dec)))
local macro_rules | `(tactic| clean_wf) => `(tactic| repeat' (first | array_get_dec | fail))
local macro_rules | `(tactic| array_mem_dec) => `(tactic| ((with_reducible apply L2.x_rlenL); (focus decreasing_trivial_pre_omega)))
local macro_rules | `(tactic| array_mem_dec) => `(tactic| ((with_reducible apply L2.x_rlenT); (focus decreasing_trivial_pre_omega)))
local macro_rules | `(tactic| array_mem_dec) => `(tactic| ((with_reducible apply L2.x_rlistL); (focus decreasing_trivial_pre_omega)))
local macro_rules | `(tactic| array_mem_dec) => `(tactic| ((with_reducible apply L2.x_rlistT); (focus decreasing_trivial_pre_omega)))
local macro_rules | `(tactic| array_mem_dec) => `(tactic| ((with_reducible apply L2.x_rtupL); (focus decreasing_trivial_pre_omega)))
local macro_rules | `(tactic| array_mem_dec) => `(tactic| ((with_reducible apply L2.x_rdict); (focus decreasing_trivial_pre_omega)))
local macro_rules | `(tactic| array_mem_dec) => `(tactic| (with_reducible refine L2.x_nonand ?_))
local macro_rules | `(tactic| array_mem_dec) => `(tactic| ((with_reducible apply L2.x_rlenQ); (focus decreasing_trivial_pre_omega)))
local macro_rules | `(tactic| array_mem_dec) => `(tactic| ((with_reducible apply L2.x_ixQ); (focus decreasing_trivial_pre_omega); (focus bv_omega)))
local macro_rules | `(tactic| array_mem_dec) => `(tactic| (with_reducible first | refine L2.x_nx ?_ | refine L2.x_yes ?_ | refine L2.x_turn ?_ | refine L2.x_seqN ?_ | refine L2.x_fld ?_ | refine L2.x_sfld ?_ | refine L2.x_methS ?_ | refine L2.x_make ?_ | refine L2.x_mk ?_))
local macro_rules | `(tactic| array_mem_dec) => `(tactic| ((with_reducible refine L2.x_mtS1 ?_); (with_reducible refine L2.x_mtS1 ?_); (with_reducible apply L2.x_mtS0); (focus assumption); (focus sizeOf_list_dec)))
local macro_rules | `(tactic| array_mem_dec) => `(tactic| ((with_reducible refine L2.x_mtS1 ?_); (with_reducible apply L2.x_mtS0); (focus assumption); (focus sizeOf_list_dec)))
local macro_rules | `(tactic| array_mem_dec) => `(tactic| ((with_reducible apply L2.x_mtS0); (focus assumption); (focus sizeOf_list_dec)))
local macro_rules | `(tactic| array_mem_dec) => `(tactic| ((with_reducible apply L2.x_fldk); (focus assumption); (focus sizeOf_list_dec); (focus sizeOf_list_dec); (focus sizeOf_list_dec)))
local macro_rules | `(tactic| array_mem_dec) => `(tactic| ((with_reducible apply L2.x_sfk); (focus assumption); (focus sizeOf_list_dec); (focus sizeOf_list_dec); (focus sizeOf_list_dec)))
local macro_rules | `(tactic| sizeOf_list_dec) => `(tactic| with_reducible first | exact L2.cfl_number | exact L2.cfl_caller | exact L2.cfl_count | exact L2.cfl_word | exact L2.cfl_causes | exact L2.cfl_free | exact L2.cfl_in_turn | exact L2.cfl_asks_place | exact L2.cfl_kind | exact L2.cfl_name | exact L2.cfl_rank | exact L2.cfl_told | exact L2.cfl_shown | fail)
local macro_rules | `(tactic| array_mem_dec) => `(tactic| ((with_reducible apply L2.x_gisd); (focus decreasing_trivial_pre_omega)))
local macro_rules | `(tactic| array_mem_dec) => `(tactic| ((with_reducible apply L2.x_gdg); (focus decreasing_trivial_pre_omega); (focus assumption)))
local macro_rules | `(tactic| array_mem_dec) => `(tactic| ((with_reducible apply L2.x_gdo); (focus decreasing_trivial_pre_omega)))
local macro_rules | `(tactic| array_mem_dec) => `(tactic| ((with_reducible apply L2.x_gdin); (focus decreasing_trivial_pre_omega)))
local macro_rules | `(tactic| array_mem_dec) => `(tactic| ((with_reducible apply L2.x_gdput); (focus assumption); (focus assumption); (focus sizeOf_list_dec)))
local macro_rules | `(tactic| sizeOf_list_dec) => `(tactic| with_reducible first | exact L2.kf_learnt | exact L2.kf_learn | exact L2.kf_row_of | exact L2.kf_floor | exact L2.kf_reach | exact L2.kf_sure | fail)
local macro_rules | `(tactic| array_mem_dec) => `(tactic| ((with_reducible apply L2.x_rdictG); (focus decreasing_trivial_pre_omega)))
local macro_rules | `(tactic| array_mem_dec) => `(tactic| (with_reducible first | refine L2.x_ivals ?_ | refine L2.x_ikeys ?_ | refine L2.x_iseq ?_ | refine L2.x_sl3 ?_))
local macro_rules | `(tactic| array_mem_dec) => `(tactic| ((with_reducible apply L2.x_tyd); (focus assumption)))
local macro_rules | `(tactic| array_mem_dec) => `(tactic| (with_reducible first | refine L2.x_iitems ?_))
local macro_rules | `(tactic| array_mem_dec) => `(tactic| ((with_reducible apply L2.x_neE); (focus decreasing_trivial_pre_omega); (focus decreasing_trivial_pre_omega)))
local macro_rules | `(tactic| sizeOf_list_dec) => `(tactic| with_reducible first | exact L2.kf_listed | exact L2.kf_merge | fail)
local macro_rules | `(tactic| array_mem_dec) => `(tactic| (with_reducible first | refine L2.x_gsub ?_))
namespace K34
open PySem L2
def top (i : Nat) : Stmt := PySem.Challenge.pw_groupcall_k34_whole_merged_alike.main.body.getD i (.Pass ⟨0, 0, 0, 0⟩)
abbrev s_count_of : Stmt := top 2
abbrev s_hands_among : Stmt := top 3
abbrev s_unpacked : Stmt := top 6
abbrev s_joined : Stmt := top 4
abbrev s_packed : Stmt := top 5
abbrev s_bit_of : Stmt := top 8
abbrev s_has : Stmt := top 9
abbrev s_hands_of : Stmt := top 10
abbrev s_Known___init__ : Stmt := inClass (top 12) 0
abbrev s_Known_learn : Stmt := inClass (top 12) 1
abbrev s_Known_listed : Stmt := inClass (top 12) 6
abbrev s_Known_merge : Stmt := inClass (top 12) 7
section
variable {P : Program} {w : World} {K : PySem.W.Frag} {mg : Str → Option Value} {base : Heap}
def sp_count_of (K : PySem.W.Frag) : Sp := fun vs H Q _ => ∃ (d : Addr) (m : List (Int × Int)) (h : Int), vs = [.ref d, .int h] ∧ Rd H d (.dK (dI m)) ∧ Q (.int (ct m h)) H
theorem sc_count_of : FnScope ["counts", "hand"] ["counts", "hand"] (defScope s_count_of) := ⟨rfl, rfl, rfl, by decide +kernel, rfl, by decide +kernel, by decide +kernel⟩
theorem ok_count_of {f  : Addr} {fd  : FuncData} (F : Fun K "count_of" "count_of" s_count_of f fd) : FnOk P w K mg base CX0 1 f fd ["counts", "hand"] (sp_count_of K) := by
  refine F.ok sc_count_of (fun vs H Q E h => ?_) (fun cdv A outer s H vs Q E hr h => ?_)
  · obtain ⟨d, m, h, rfl, _⟩ := h
    rfl
  obtain ⟨d, m, h, rfl, h⟩ := h
  have hu64 := hr.units
  have hu0 := hr.units0
  have hu := hu_of hr
  refine ⟨_, (pss_one (ps_ret (pe_dget2 hu (pv 0) (pv 1) pe_int ⟨rfl, rfl, rfl, rfl⟩))), ?_⟩
  obtain ⟨hd, k⟩ := h
  refine ⟨_, rfl, d, rfl, .inl ⟨_, hd⟩, _, rfl, _, .inl ⟨_, Sum.inl h, hd, rfl, rfl⟩, ?_⟩
  show Q ((valV (dI m) (Sum.inl h : Key)).getD (.int 0)) H
  rw [ct_getD]
  exact k
def sp_hands_among (K : PySem.W.Frag) : Sp := fun vs H Q _ => ∃ (a : Addr) (xs : List V) (ms : List (List (Int × Int))), vs = [.ref a] ∧ SqL K H a xs ∧ Dcs H xs ms ∧ (∀ m ∈ ms, Ck m) ∧ ms.length ≤ 10 ∧
  ∀ (H' : Hp) (l : Addr) (S : List Int), Same H H' → H' l = some (.lst (S.map V.int)) → S.Nodup → (∀ k, k ∈ S ↔ ∃ m ∈ ms, k ∈ m.map (·.1)) → Q (.ref l) H'
theorem sc_hands_among : FnScope ["some", "hands", "counts"] ["some"] (defScope s_hands_among) := ⟨rfl, rfl, rfl, by decide +kernel, rfl, by decide +kernel, by decide +kernel⟩
set_option maxHeartbeats 1000000 in
theorem ok_hands_among {f  : Addr} {fd  : FuncData} (F : Fun K "hands_among" "hands_among" s_hands_among f fd) (h_list : mg "list" = none) (h_set : mg "set" = none) (h_sorted : mg "sorted" = none) : FnOk P w K mg base CX0 1 f fd ["some"] (sp_hands_among K) := by
  refine F.ok sc_hands_among (fun vs H Q E h => ?_) (fun cdv A outer s H vs Q E hr h => ?_)
  · obtain ⟨a, xs, ms, rfl, _⟩ := h
    rfl
  obtain ⟨a, xs, ms, rfl, h⟩ := h
  have hu64 := hr.units
  have hu0 := hr.units0
  have hu := hu_of hr
  refine ⟨_, (pss_cons (ps_set (i := 1) sc_hands_among.nd rfl (Or.inl rfl) (pe_lst pa_nil))
      (pss_cons (ps_for PassesOwn.never rfl (pi_listK (K := K) rfl (pv 0)) (pg_name (i := 2) sc_hands_among.nd rfl (Or.inl rfl))
      (pss_one (ps_expr (pe_bm PySem.F.plainAttrs_list PySem.F.slot_list_extend PySem.F.type_list_extend mt_extend (pv 1) (pa_cons (pe_callTy (call_listD rfl) (by rfl) h_list PyProof.Rows.boot_list (pa_cons (pv 2) pa_nil)) pa_nil)))))
      (pss_one (ps_ret (pe_callB (call_sortedS rfl) (by rfl) h_sorted PyProof.Rows.boot_sorted (pa_cons (pe_callTy (call_setI rfl) (by rfl) h_set (show bootBuiltins "set" = some (.type "set") by decide +kernel) (pa_cons (pv 1) pa_nil)) pa_nil)))))), ?_⟩
  obtain ⟨hS, dc, ck, l10, k⟩ := h
  refine ⟨Nat.zero_le _, fun hl hhl => ?_⟩
  have lx : xs.length = ms.length := Paired.length dc
  refine ⟨_, rfl, a, rfl, ⟨_, (same_upd hhl).seq hS⟩, for_list (K := K) (a := a) (xs := xs) (fun i σ H' => ∃ v ns, σ = [some (.ref a), some (.ref hl), v] ∧ Same H H' ∧ H' hl = some (.lst (ns.map V.int)) ∧ ns.length ≤ 63 * i ∧ ∀ k, k ∈ ns ↔ ∃ m ∈ ms.take i, k ∈ m.map (·.1))
    ⟨none, [], rfl, same_upd hhl, upd_same, Nat.zero_le _, fun k => by simp⟩ (fun i σ H' _ ⟨_, _, _, sm, _⟩ => sm.seq hS) ?_ ?_⟩
  · rintro i x σ H' hx ⟨v, ns, rfl, sm, hH, hlen, hm⟩
    obtain ⟨m, hmi, d, rfl, hd⟩ := Dcs.get dc hx
    have hi := (List.getElem?_eq_some_iff.mp hmi).1
    have cm := ck m (List.mem_of_getElem? hmi)
    have lm := cm.len
    refine ⟨_, rfl, .inl ⟨rfl, _, SqL.of hH⟩, _, rfl, d, m, rfl, same_rd sm hd, by omega, fun l hl2 => ?_⟩
    have nl : hl ≠ l := ne_of_none hH hl2
    refine ⟨hl, l, _, _, rfl, rfl, by rw [upd_ne nl]; exact hH, upd_same, ?_, some (.ref d), ns ++ m.map (·.1), rfl, fun b o e => ?_, ?_, ?_, fun k => ?_⟩
    · rw [List.length_map, List.length_map, List.length_map]
      exact Nat.le_of_lt (small1000 (by omega))
    · rw [upd_ne (ne_of_none e hhl), upd_ne (ne_of_none (sm b o e) hl2)]
      exact sm b o e
    · rw [upd_same, List.map_append]
    · rw [List.length_append, List.length_map]
      omega
    · rw [take_get hmi, List.mem_append, hm k]
      constructor
      · rintro (⟨m', q1, q2⟩ | q)
        · exact ⟨m', List.mem_append_left _ q1, q2⟩
        · exact ⟨m, List.mem_append_right _ (by simp), q⟩
      · rintro ⟨m', q1, q2⟩
        rcases List.mem_append.mp q1 with z | z
        · exact .inl ⟨m', z, q2⟩
        · rw [List.mem_singleton.mp z] at q2
          exact .inr q2
  rintro σ H' ⟨v, ns, rfl, sm, hH, hlen, hm⟩
  rw [lx, List.take_length] at hm
  refine ⟨_, rfl, hl, ns, rfl, SqL.of hH, by omega, fun q ks hq nd mem => ?_⟩
  have rg : ∀ k ∈ ks, 0 ≤ k ∧ k < 63 := fun k hk => by
    obtain ⟨m, h1, h2⟩ := (hm k).mp ((mem k).mp hk)
    exact (ck m h1).keys k h2
  refine ⟨q, ks, rfl, upd_same, nd, hs_len nd rg, fun l S hl3 pm so => ?_⟩
  refine k _ l S (sm.trans ((same_upd hq).trans (same_upd hl3))) upd_same (pm.nodup_iff.mpr nd) fun j => ?_
  rw [pm.mem_iff, mem j, hm j]
def sp_unpacked (K : PySem.W.Frag) : Sp := fun vs H Q _ => ∃ (a : Addr) (xs : List V) (ps : List (Int × Int)), vs = [.ref a] ∧ (SqL K H a xs ∨ SqT K H a xs) ∧ Prs H xs ps ∧ ps.length ≤ 1000 ∧ (ps.map (·.1)).Nodup ∧
  ∀ (H' : Hp) (d : Addr), Same H H' → H d = none → H' d = some (.dK (dI (posI ps))) → Q (.ref d) H'
theorem sc_unpacked : FnScope ["pairs"] ["pairs"] (defScope s_unpacked) := ⟨rfl, rfl, rfl, by decide +kernel, rfl, by decide +kernel, by decide +kernel⟩
set_option maxHeartbeats 1000000 in
theorem ok_unpacked {f  : Addr} {fd  : FuncData} (F : Fun K "unpacked" "unpacked" s_unpacked f fd) (h_dict : mg "dict" = none) : FnOk P w K mg base CX0 1 f fd ["pairs"] (sp_unpacked K) := by
  refine F.ok sc_unpacked (fun vs H Q E h => ?_) (fun cdv A outer s H vs Q E hr h => ?_)
  · obtain ⟨a, xs, ps, rfl, _⟩ := h
    rfl
  obtain ⟨a, xs, ps, rfl, h⟩ := h
  have hu64 := hr.units
  have hu0 := hr.units0
  have hu := hu_of hr
  refine ⟨_, (pss_one (ps_ret (pe_callTy (call_dictP rfl) (by rfl) h_dict PyProof.Rows.boot_dict (pa_cons (pe_comp ["hand", "count"] [none, none] rfl rfl (by kernel_rfl) (pi_seqK (K := K) rfl (pv 0)) (fun _ _ _ _ _ nd => pg_tupK (K := K) (n := 2) rfl rfl (pgs_cons (pg_name (i := 0) nd rfl (Or.inl rfl)) (pgs_cons (pg_name (i := 1) nd rfl (Or.inl rfl)) pgs_nil))) (fun _ _ _ _ _ => (pif_one (pt_cmpR op_gt (pv 1) pe_int (nomark _)))) (fun _ _ _ _ _ => (pe_tup (pa_cons (pv 0) (pa_cons (pv 1) pa_nil))))) pa_nil)))), ?_⟩
  obtain ⟨hS, hp, hlen, nd, k⟩ := h
  have lx := hp.len
  -- one turn
  have turn : ∀ (D : Addr) (_ : H D = none) (i : Nat) (x : V) (σ : St) (H' : Hp), xs[i]? = some x → (∃ v v2 ys, σ = [v, v2] ∧ Same H H' ∧ H' D = some (.lst ys) ∧ ys.length ≤ i ∧ Prs H' ys (posI (ps.take i))) →
      cTurn (gTup K 2 (gCons (gName 0) (gCons (gName 1) gNil))) (tTest (tOp (rI0 fun i j => .bl (decide (j < i))) (tVar 1) (tC (.int 0)))) (tTup (tCons (tVar 0) (tCons (tVar 1) tNil))) D
        (fun σ H' => ∃ v v2 ys, σ = [v, v2] ∧ Same H H' ∧ H' D = some (.lst ys) ∧ ys.length ≤ i + 1 ∧ Prs H' ys (posI (ps.take (i + 1)))) x σ H' := by
    rintro D hD i x σ H' hx ⟨v, v2, ys, rfl, sm, hDx, ly, pr⟩
    obtain ⟨p, hpi, b, rfl, hb⟩ := hp.get hx
    have hil := (List.getElem?_eq_some_iff.mp hpi).1
    refine ⟨b, _, rfl, SqT.of (sm _ _ hb), rfl, _, _, rfl, _, _, rfl, rfl, _, rfl, _, _, rfl, rfl, _, rfl, ite2 (fun h => ?_) fun h => ?_⟩
    · have h' : 0 < p.2 := of_decide_eq_true h
      refine ⟨_, rfl, _, rfl, by show 2 ≤ sizeLine; decide, fun q hq => ?_⟩
      have nDq : D ≠ q := ne_of_none hDx hq
      refine ⟨ys, by rw [upd_ne nDq]; exact hDx, small1000 (by omega), some (.int p.1), some (.int p.2), _, rfl, fun b o e => ?_, upd_same, by rw [List.length_append]; exact Nat.succ_le_succ ly, ?_⟩
      · rw [upd_ne (ne_of_none e hD), upd_ne (ne_of_none (sm b o e) hq)]
        exact sm b o e
      · rw [take_get hpi, pos_yes h']
        refine Prs.snoc (pr.mono fun a ys e => ?_) ⟨q, rfl, ?_⟩
        · rw [upd_ne (ne_of e hDx (by intro z; cases z)), upd_ne (ne_of_none e hq)]
          exact e
        · rw [upd_ne (Ne.symm nDq), upd_same]
    · have h' : ¬ 0 < p.2 := fun z => h (decide_eq_true z)
      refine ⟨some (.int p.1), some (.int p.2), ys, rfl, sm, hDx, Nat.le_succ_of_le ly, ?_⟩
      rw [take_get hpi, pos_no h']
      exact pr
  have fin : ∀ (D : Addr) (_ : H D = none) (σ : St) (H' : Hp), (∃ v v2 ys, σ = [v, v2] ∧ Same H H' ∧ H' D = some (.lst ys) ∧ ys.length ≤ xs.length ∧ Prs H' ys (posI (ps.take xs.length))) →
      ∃ (a : Addr) (ys : List V) (qs : List (Int × Int)), [V.ref D] = [.ref a] ∧ H' a = some (.lst ys) ∧ Prs H' ys qs ∧ (qs.map (·.1)).Nodup ∧ qs.length ≤ 1000 ∧ ∀ p, H' p = none → Q (.ref p) (upd H' p (.dK (dI qs))) := by
    rintro D hD σ H' ⟨v, v2, ys, rfl, sm, hDx, ly, pr⟩
    rw [lx, List.take_length] at pr
    refine ⟨D, ys, posI ps, rfl, hDx, pr, pos_nd nd, Nat.le_trans (pos_len ps) hlen, fun p hp' => ?_⟩
    exact k _ p (sm.trans (same_upd hp')) (sm.free hp') upd_same
  rcases hS with hS | hS
  · refine ⟨_, rfl, a, rfl, .inl ⟨⟨_, hS⟩, fun D hD => ?_⟩⟩
    exact comp_list (K := K) (a := a) (xs := xs) (fun i σ H' => ∃ v v2 ys, σ = [v, v2] ∧ Same H H' ∧ H' D = some (.lst ys) ∧ ys.length ≤ i ∧ Prs H' ys (posI (ps.take i))) ⟨none, none, [], rfl, same_upd hD, upd_same, Nat.le_refl _, .nil⟩
      (fun i σ H' _ ⟨_, _, _, _, sm, _⟩ => sm.seq hS) (turn D hD) (fin D hD)
  · refine ⟨_, rfl, a, rfl, .inr ⟨⟨_, hS⟩, fun D hD => ?_⟩⟩
    exact comp_tup (K := K) (a := a) (xs := xs) (fun i σ H' => ∃ v v2 ys, σ = [v, v2] ∧ Same H H' ∧ H' D = some (.lst ys) ∧ ys.length ≤ i ∧ Prs H' ys (posI (ps.take i))) ⟨none, none, [], rfl, same_upd hD, upd_same, Nat.le_refl _, .nil⟩
      (fun i σ H' _ ⟨_, _, _, _, sm, _⟩ => same_tup sm hS) (turn D hD) (fin D hD)
def sp_joined (K : PySem.W.Frag) : Sp := fun vs H Q _ => ∃ (d e : Addr) (m n : List (Int × Int)), vs = [.ref d, .ref e] ∧ Rd H d (.dK (dI m)) ∧ Rd H e (.dK (dI n)) ∧ Ck m ∧ Ck n ∧
  ∀ (H' : Hp) (p : Addr) (j : List (Int × Int)), Same H H' → H p = none → H' p = some (.dK (dI j)) → Td j → (∀ k, IsMx [m, n] k (ct j k)) → Q (.ref p) H'
theorem sc_joined : FnScope ["one", "other"] ["one", "other"] (defScope s_joined) := ⟨rfl, rfl, rfl, by decide +kernel, rfl, by decide +kernel, by decide +kernel⟩
set_option maxHeartbeats 1000000 in
theorem ok_joined {f f_count_of f_hands_among f_unpacked : Addr} {fd fd_count_of fd_hands_among fd_unpacked : FuncData} (F : Fun K "joined" "joined" s_joined f fd)
    (G_count_of : FnOk P w K mg base CX0 1 f_count_of fd_count_of ["counts", "hand"] (sp_count_of K)) (C_count_of : Cal K mg "count_of" f_count_of fd_count_of ["counts", "hand"])
    (G_hands_among : FnOk P w K mg base CX0 1 f_hands_among fd_hands_among ["some"] (sp_hands_among K)) (C_hands_among : Cal K mg "hands_among" f_hands_among fd_hands_among ["some"])
    (G_unpacked : FnOk P w K mg base CX0 1 f_unpacked fd_unpacked ["pairs"] (sp_unpacked K)) (C_unpacked : Cal K mg "unpacked" f_unpacked fd_unpacked ["pairs"]) (h_max : mg "max" = none) : FnOk P w K mg base CX0 2 f fd ["one", "other"] (sp_joined K) := by
  refine F.ok sc_joined (fun vs H Q E h => ?_) (fun cdv A outer s H vs Q E hr h => ?_)
  · obtain ⟨d, e, m, n, rfl, _⟩ := h
    rfl
  obtain ⟨d, e, m, n, rfl, h⟩ := h
  have hu64 := hr.units
  have hu0 := hr.units0
  have hu := hu_of hr
  refine ⟨_, (pss_one (ps_ret (pcall G_unpacked C_unpacked hr (pa_cons (pe_comp ["one", "other", "hand"] [some 0, some 1, none] rfl rfl (by kernel_rfl) (pi_listK (K := K) rfl (pcall G_hands_among C_hands_among hr (pa_cons (pe_lst (pa_cons (pv 0) (pa_cons (pv 1) pa_nil))) pa_nil))) (fun _ _ _ _ _ nd => pg_name (i := 2) nd rfl (Or.inl rfl)) (fun _ _ _ _ _ => pif_nil) (fun _ _ _ _ _ => (pe_tup (pa_cons (pv 2) (pa_cons (pe_callB (call_max2 rfl) (by rfl) h_max PyProof.Rows.boot_max (pa_cons (pcall G_count_of C_count_of hr (pa_cons (pv 0) (pa_cons (pv 2) pa_nil))) (pa_cons (pcall G_count_of C_count_of hr (pa_cons (pv 1) (pa_cons (pv 2) pa_nil))) pa_nil))) pa_nil))))) pa_nil)))), ?_⟩
  obtain ⟨hd, he, cm, cn, k⟩ := h
  refine ⟨_, rfl, _, rfl, by show 2 ≤ sizeLine; decide, fun l0 hl0 => ?_⟩
  have s0 := same_upd (o := .lst [V.ref d, .ref e]) hl0
  refine ⟨l0, _, [m, n], rfl, SqL.of upd_same, .cons ⟨d, rfl, same_rd s0 hd⟩ (.cons ⟨e, rfl, same_rd s0 he⟩ .nil), fun x hx => ?_, by show 2 ≤ 10; decide, fun H1 l S sm hl nd mem => ?_⟩
  · rcases List.mem_cons.mp hx with z | z
    · rw [z]; exact cm
    · rw [List.mem_singleton.mp z]; exact cn
  have s1 := s0.trans sm
  have rg : ∀ j ∈ S, 0 ≤ j ∧ j < 63 := fun j hj => by
    rcases two.mp ((mem j).mp hj) with z | z
    · exact cm.keys j z
    · exact cn.keys j z
  have lS := hs_len nd rg
  refine ⟨l, rfl, ⟨_, SqL.of hl⟩, fun D hD => ?_⟩
  refine comp_list (K := K) (a := l) (xs := S.map V.int) (fun i σ H' => ∃ v ys, σ = [some (.ref d), some (.ref e), v] ∧ Same H1 H' ∧ H' D = some (.lst ys) ∧ ys.length ≤ i ∧ Prs H' ys (prs (S.take i) fun j => if ct n j > ct m j then ct n j else ct m j)) ⟨none, [], rfl, same_upd hD, upd_same, Nat.le_refl _, .nil⟩ ?_ ?_ ?_
  · rintro i σ H' _ ⟨_, _, _, q, _⟩
    exact SqL.of (q _ _ hl)
  · rintro i x σ H' hx ⟨v, ys, rfl, q, hDx, ly, pr⟩
    obtain ⟨j, hj, rfl⟩ := int_get hx
    have hil := (List.getElem?_eq_some_iff.mp hj).1
    have s2 := s1.trans q
    refine cT_yes ⟨_, rfl, _, rfl, _, rfl, d, m, j, rfl, same_rd s2 hd, _, rfl, _, rfl, e, n, j, rfl, same_rd s2 he, _, _, rfl, by show 2 ≤ sizeLine; decide, fun p hp => ?_⟩
    have nDp : D ≠ p := ne_of_none hDx hp
    refine ⟨ys, by rw [upd_ne nDp]; exact hDx, small1000 (by omega), some (.int j), _, rfl, fun b o z => ?_, upd_same, by rw [List.length_append]; exact Nat.succ_le_succ ly, ?_⟩
    · rw [upd_ne (ne_of_none z hD), upd_ne (ne_of_none (q b o z) hp)]
      exact q b o z
    · rw [take_get hj]
      show Prs _ _ (List.map _ (_ ++ [j]))
      rw [List.map_append]
      refine Prs.snoc (pr.mono fun a ys z => ?_) ⟨p, rfl, ?_⟩
      · rw [upd_ne (ne_of z hDx (by intro z; cases z)), upd_ne (ne_of_none z hp)]
        exact z
      · rw [upd_ne (Ne.symm nDp), upd_same]
  rintro σ H' ⟨v, ys, rfl, q, hDx, ly, pr⟩
  rw [show S.take (S.map V.int).length = S by rw [List.length_map, List.take_length]] at pr
  refine ⟨D, ys, _, rfl, .inl (SqL.of hDx), pr, ?_, by rw [prs_keys]; exact nd, fun H2 p sm2 hp0 hp => ?_⟩
  · show (List.map _ S).length ≤ 1000
    rw [List.length_map]
    omega
  refine k _ p _ ((s1.trans q).trans sm2) ((s1.trans q).free hp0) hp (prs_td nd rg) fun j => ?_
  have mx : IsMx [m, n] j (if ct n j > ct m j then ct n j else ct m j) := by
    by_cases z : ct n j > ct m j
    · rw [if_pos z]
      refine ⟨⟨n, by simp, rfl⟩, fun x hx => ?_⟩
      rcases List.mem_cons.mp hx with y | y
      · rw [y]; omega
      · rw [List.mem_singleton.mp y]; omega
    · rw [if_neg z]
      refine ⟨⟨m, by simp, rfl⟩, fun x hx => ?_⟩
      rcases List.mem_cons.mp hx with y | y
      · rw [y]; omega
      · rw [List.mem_singleton.mp y]; omega
  by_cases hj : j ∈ S
  · rw [prs_ct nd j hj (by have := cm.ct j; have := cn.ct j; split <;> omega)]
    exact mx
  · have z1 : ct m j = 0 := ct_out fun z => hj ((mem j).mpr (two.mpr (.inl z)))
    have z2 : ct n j = 0 := ct_out fun z => hj ((mem j).mpr (two.mpr (.inr z)))
    rw [prs_out hj]
    rw [z1, z2] at mx
    exact mx
def sp_packed (K : PySem.W.Frag) : Sp := fun vs H Q _ => ∃ (d : Addr) (m : List (Int × Int)), vs = [.ref d] ∧ Rd H d (.dK (dI m)) ∧ m.length < 64 ∧
  ∀ (H' : Hp) (t : Addr) (xs : List V) (S : List Int), Same H H' → H t = none → S.Perm (m.map (·.1)) → S.Pairwise (· ≤ ·) → H' t = some (.tup xs) → Prs H' xs (PKm m S) → Q (.ref t) H'
theorem sc_packed : FnScope ["counts"] ["counts"] (defScope s_packed) := ⟨rfl, rfl, rfl, by decide +kernel, rfl, by decide +kernel, by decide +kernel⟩
theorem ok_packed {f  : Addr} {fd  : FuncData} (F : Fun K "packed" "packed" s_packed f fd) (h_sorted : mg "sorted" = none) (h_tuple : mg "tuple" = none) : FnOk P w K mg base CX0 1 f fd ["counts"] (sp_packed K) := by
  refine F.ok sc_packed (fun vs H Q E h => ?_) (fun cdv A outer s H vs Q E hr h => ?_)
  · obtain ⟨d, m, rfl, _⟩ := h
    rfl
  obtain ⟨d, m, rfl, h⟩ := h
  have hu64 := hr.units
  have hu0 := hr.units0
  have hu := hu_of hr
  refine ⟨_, (pss_one (ps_ret (pe_callTy (call_tupleK (K := K) rfl) (by rfl) h_tuple PyProof.Rows.boot_tuple (pa_cons (pe_comp ["counts", "hand"] [some 0, none] rfl rfl (by kernel_rfl) (pi_listK (K := K) rfl (pe_callB (call_sortedD rfl) (by rfl) h_sorted PyProof.Rows.boot_sorted (pa_cons (pv 0) pa_nil))) (fun _ _ _ _ _ nd => pg_name (i := 1) nd rfl (Or.inl rfl)) (fun _ _ _ _ _ => (pif_one (pt_cmpR op_gt (pe_dget hu (pv 0) (pv 1) (fun _ _ => rfl)) pe_int (nomark _)))) (fun _ _ _ _ _ => (pe_tup (pa_cons (pv 1) (pa_cons (pe_dget hu (pv 0) (pv 1) (fun _ _ => rfl)) pa_nil))))) pa_nil)))), ?_⟩
  obtain ⟨hd, hlen, k⟩ := h
  refine ⟨_, rfl, d, m, rfl, hd, hlen, fun l S hl pm so => ?_⟩
  have sm0 : Same H (upd H l (.lst (S.map V.int))) := same_upd hl
  have g0 : (upd H l (.lst (S.map V.int))) l = some (.lst (S.map V.int)) := upd_same
  generalize upd H l (.lst (S.map V.int)) = H0 at sm0 g0 ⊢
  have lS : S.length < 64 := by rw [pm.length_eq, List.length_map]; exact hlen
  refine ⟨l, rfl, ⟨_, SqL.of g0⟩, fun D hD => ?_⟩
  refine comp_list (K := K) (a := l) (xs := S.map V.int) (fun i σ H' => ∃ v xs, σ = [some (.ref d), v] ∧ Same H0 H' ∧ H' D = some (.lst xs) ∧ xs.length ≤ i ∧ Prs H' xs (PKm m (S.take i))) ⟨none, [], rfl, same_upd hD, upd_same, Nat.le_refl _, .nil⟩ ?_ ?_ ?_
  · rintro i σ H' _ ⟨_, _, _, sm, _⟩
    exact SqL.of (sm _ _ g0)
  · rintro i x σ H' hx ⟨v, xs, rfl, sm, hDx, lx, pr⟩
    obtain ⟨n, hn, rfl⟩ := int_get hx
    have hil := (List.getElem?_eq_some_iff.mp hn).1
    have hmem : n ∈ m.map (·.1) := pm.mem_iff.mp (List.mem_of_getElem? hn)
    have hd' : Rd H' d (.dK (dI m)) := same_rd sm (same_rd sm0 hd)
    have hv : some (V.int (ct m n)) = valV (dI m) (Sum.inl n : Key) := by rw [dI_val, lk_ct hmem]; rfl
    refine ⟨_, rfl, _, rfl, d, V.int (ct m n), rfl, .inl ⟨_, Sum.inl n, hd', rfl, hv⟩, _, _, rfl, rfl, _, rfl, ite2 (fun h => ?_) fun h => ?_⟩
    · have h' : 0 < ct m n := of_decide_eq_true h
      refine ⟨_, rfl, _, rfl, _, rfl, d, V.int (ct m n), rfl, .inl ⟨_, Sum.inl n, hd', rfl, hv⟩, by show 2 ≤ sizeLine; decide, fun p hp => ?_⟩
      have nDp : D ≠ p := ne_of_none hDx hp
      refine ⟨xs, by rw [upd_ne nDp]; exact hDx, small1000 (by omega), some (.int n), _, rfl, fun b o e => ?_, upd_same, by rw [List.length_append]; exact Nat.succ_le_succ lx, ?_⟩
      · rw [upd_ne (ne_of_none e hD), upd_ne (ne_of_none (sm b o e) hp)]
        exact sm b o e
      · rw [take_get hn, PKm_yes h']
        refine Prs.snoc (pr.mono fun a ys e => ?_) ⟨p, rfl, ?_⟩
        · rw [upd_ne (ne_of e hDx (by intro z; cases z)), upd_ne (ne_of_none e hp)]
          exact e
        · rw [upd_ne (Ne.symm nDp), upd_same]
    · have h' : ¬ 0 < ct m n := fun z => h (decide_eq_true z)
      refine ⟨some (.int n), xs, rfl, sm, hDx, Nat.le_succ_of_le lx, ?_⟩
      rw [take_get hn, PKm_no h']
      exact pr
  rintro σ H' ⟨v, xs, rfl, sm, hDx, lx, pr⟩
  rw [show S.take (S.map V.int).length = S by rw [List.length_map, List.take_length]] at pr
  refine ⟨D, xs, rfl, .inl ⟨SqL.of hDx, fun t ht => ?_⟩⟩
  exact k _ t xs S (sm0.trans (sm.trans (same_upd ht))) (sm0.free (sm.free ht)) pm so upd_same (same_prs (same_upd ht) pr)
def sp_bit_of (K : PySem.W.Frag) : Sp := fun vs H Q _ => ∃ h : Int, vs = [.int h] ∧ 0 ≤ h ∧ h ≤ 1000 ∧ Q (.int (2 ^ h.toNat)) H
def sp_has (K : PySem.W.Frag) : Sp := fun vs H Q _ => ∃ n h : Int, vs = [.int n, .int h] ∧ 0 ≤ n ∧ 0 ≤ h ∧ h ≤ 1000 ∧ Q (.bl (n.toNat.testBit h.toNat)) H
def sp_hands_of (K : PySem.W.Frag) : Sp := fun vs H Q _ => ∃ n : Int, vs = [.int n] ∧ 0 ≤ n ∧ n < 9223372036854775808 ∧ ∀ H' l, H l = none → Same H H' → H' l = some (.lst ((GB.hl n).map V.int)) → Q (.ref l) H'
theorem sc_bit_of : FnScope ["hand"] ["hand"] (defScope s_bit_of) := ⟨rfl, rfl, rfl, by decide +kernel, rfl, by decide +kernel, by decide +kernel⟩
theorem ok_bit_of {f  : Addr} {fd  : FuncData} (F : Fun K "bit_of" "bit_of" s_bit_of f fd) : FnOk P w K mg base CX0 1 f fd ["hand"] (sp_bit_of K) := by
  refine F.ok sc_bit_of (fun vs H Q E h => ?_) (fun cdv A outer s H vs Q E hr h => ?_)
  · obtain ⟨x, rfl, _⟩ := h
    rfl
  obtain ⟨x, rfl, h⟩ := h
  have hu64 := hr.units
  have hu0 := hr.units0
  have hu := hu_of hr
  refine ⟨_, (pss_one (ps_ret (pe_ifExp (pt_cmpR op_ge (pv 0) pe_int (nomark _)) (pe_op op_shl pe_int (pv 0)) pe_int))), ?_⟩
  obtain ⟨h0, h1, k⟩ := h
  refine ⟨_, rfl, _, _, rfl, rfl, _, rfl, ?_⟩
  rw [decide_eq_true (show (0 : Int) ≤ x from h0)]
  refine iteT ⟨_, rfl, _, _, rfl, rfl, ⟨h0, by omega, by decide⟩, ?_⟩
  show Q (.int (1 * 2 ^ x.toNat)) H
  rw [Int.one_mul]
  exact k
theorem sc_has : FnScope ["hands", "hand"] ["hands", "hand"] (defScope s_has) := ⟨rfl, rfl, rfl, by decide +kernel, rfl, by decide +kernel, by decide +kernel⟩
theorem ok_has {f f_bit_of : Addr} {fd fd_bit_of : FuncData} (F : Fun K "has" "has" s_has f fd)
    (G_bit_of : FnOk P w K mg base CX0 1 f_bit_of fd_bit_of ["hand"] (sp_bit_of K)) (C_bit_of : Cal K mg "bit_of" f_bit_of fd_bit_of ["hand"]) : FnOk P w K mg base CX0 2 f fd ["hands", "hand"] (sp_has K) := by
  refine F.ok sc_has (fun vs H Q E h => ?_) (fun cdv A outer s H vs Q E hr h => ?_)
  · obtain ⟨n, x, rfl, _⟩ := h
    rfl
  obtain ⟨n, x, rfl, h⟩ := h
  have hu64 := hr.units
  have hu0 := hr.units0
  have hu := hu_of hr
  refine ⟨_, (pss_one (ps_ret (pe_cmpR op_ne (pe_op op_and (pv 0) (pcall G_bit_of C_bit_of hr (pa_cons (pv 1) pa_nil))) pe_int (nomark _)))), ?_⟩
  obtain ⟨hn, h0, h1, k⟩ := h
  refine ⟨_, rfl, _, rfl, x, rfl, h0, h1, _, _, rfl, rfl, rfl, ?_⟩
  show Q (.bl (!decide (V.int (Builtin.bitAnd n (2 ^ x.toNat)) = V.int 0))) H
  rw [and_test hn h0]
  exact k
theorem sc_hands_of : FnScope ["hands"] ["hands"] (defScope s_hands_of) := ⟨rfl, rfl, rfl, by decide +kernel, rfl, by decide +kernel, by decide +kernel⟩
theorem ok_hands_of {f f_has : Addr} {fd fd_has : FuncData} (F : Fun K "hands_of" "hands_of" s_hands_of f fd)
    (G_has : FnOk P w K mg base CX0 2 f_has fd_has ["hands", "hand"] (sp_has K)) (C_has : Cal K mg "has" f_has fd_has ["hands", "hand"]) (h_range : mg "range" = none) : FnOk P w K mg base CX0 3 f fd ["hands"] (sp_hands_of K) := by
  refine F.ok sc_hands_of (fun vs H Q E h => ?_) (fun cdv A outer s H vs Q E hr h => ?_)
  · obtain ⟨n, rfl, _⟩ := h
    rfl
  obtain ⟨n, rfl, h⟩ := h
  have hu64 := hr.units
  have hu0 := hr.units0
  have hu := hu_of hr
  refine ⟨_, (pss_one (ps_ret (pe_comp ["hands", "hand"] [some 0, none] rfl rfl (by kernel_rfl) (pi_range1 rfl h_range (pa_cons (pe_bm0 PySem.F.plainAttrs_int PySem.F.slot_int_bit_length PySem.F.type_int_bit_length mt_bitlen (pv 0)) pa_nil)) (fun _ _ _ _ _ nd => pg_name (i := 1) nd rfl (Or.inl rfl)) (fun _ _ _ _ _ => (pif_one (pt_callK K rfl (pcall G_has C_has hr (pa_cons (pv 0) (pa_cons (pv 1) pa_nil)))))) (fun _ _ _ _ _ => (pv 1))))), ?_⟩
  obtain ⟨h0, h1, k⟩ := h
  obtain ⟨b1, b2⟩ := preH_bits h0 h1
  refine ⟨_, rfl, rfl, n, rfl, rfl, _, rfl, by omega, by omega, fun D hD => ?_⟩
  refine comp_range (fun i σ H' => ∃ v, σ = [some (.int n), v] ∧ H' = upd H D (.lst ((preH n i).map V.int))) ⟨none, rfl, rfl⟩ ?_ ?_
  · rintro i σ H' hi ⟨v, rfl, rfl⟩
    have hi' : i < Builtin.Int.intBits n := by simpa using hi
    refine ⟨_, rfl, _, rfl, n, _, rfl, h0, (by omega), (by omega), _, rfl, ?_⟩
    have ei : (0 + (i : Int)).toNat = i := by omega
    rw [ei]
    cases e : n.toNat.testBit i with
    | true =>
      refine iteT ⟨_, rfl, _, upd_same, ?_, _, rfl, ?_⟩
      · rw [List.length_map]
        have := preH_len n i
        exact small1000 (by omega)
      · rw [upd_upd, preH_yes e, List.map_append, Int.zero_add]
        rfl
    | false =>
      refine iteF ⟨_, rfl, ?_⟩
      rw [preH_no e]
  · rintro σ H' ⟨v, rfl, rfl⟩
    have e : ((Builtin.Int.intBits n : Nat) : Int).toNat = Builtin.Int.intBits n := Int.toNat_natCast _
    rw [e, b2]
    exact k _ D hD (same_upd hD) upd_same
def sp_Known___init__ (K : PySem.W.Frag) : Sp := fun vs H Q _ => ∃ (p : Addr) (n : Int), vs = [.ref p, .int n] ∧ ∃ C dx, TKnown K C ∧ H p = some (.ins C dx []) ∧ 0 ≤ n ∧ n < 9223372036854775808 ∧ ∀ H' d rs, (∀ b o, H b = some o → b ≠ p → H' b = some o) → H' p = some (.ins C dx [("learnt", .ref d)]) → H' d = some (.dK (dG rs)) → Rws H' rs ((GB.hl n).map fun h => (h, [])) → (∀ q ∈ rs, q.2 ≠ V.ref d) → H d = none → (∀ q ∈ rs, ∀ r, q.2 = V.ref r → H r = none) → Q .non H'
theorem prsV_up {H H' : Hp} (m : SmH H H') : ∀ {xs : List V} {ps : List (Int × V)}, PrsV H xs ps → PrsV H' xs ps
  | _, _, .nil => .nil
  | _, _, .cons ⟨a, e, h⟩ t => .cons ⟨a, e, m _ _ h⟩ (prsV_up m t)
theorem prsV_snoc {H : Hp} : ∀ {xs : List V} {ps : List (Int × V)} {x : V} {p : Int × V}, PrsV H xs ps → (∃ a, x = .ref a ∧ H a = some (.tup [.int p.1, p.2])) → PrsV H (xs ++ [x]) (ps ++ [p])
  | _, _, _, _, .nil, h => .cons h .nil
  | _, _, _, _, .cons r t, h => .cons r (prsV_snoc t h)
theorem prsV_len {H : Hp} {xs : List V} {ps : List (Int × V)} (h : PrsV H xs ps) : xs.length = ps.length := Paired.length h
theorem rws_same {H H' : Hp} (k : ∀ r m, H r = some (.dK (dI m)) → H' r = some (.dK (dI m))) : ∀ {rs : List (Int × V)} {tb : List (Int × List (Int × Int))}, Rws H rs tb → Rws H' rs tb
  | _, _, .nil => .nil
  | _, _, .cons ⟨e, r, e2, e3⟩ t => .cons ⟨e, r, e2, k _ _ e3⟩ (rws_same k t)
theorem rws_snoc {H : Hp} : ∀ {rs : List (Int × V)} {tb : List (Int × List (Int × Int))} {q : Int × V} {e : Int × List (Int × Int)}, Rws H rs tb → (q.1 = e.1 ∧ ∃ r, q.2 = .ref r ∧ H r = some (.dK (dI e.2))) → Rws H (rs ++ [q]) (tb ++ [e])
  | _, _, _, _, .nil, h => .cons h .nil
  | _, _, _, _, .cons r t, h => .cons r (rws_snoc t h)
theorem hl_nd (n : Int) : (GB.hl n).Nodup := by
  unfold GB.hl
  refine List.Pairwise.map _ (fun a b h => ?_) (GB.hnds_sorted n.toNat)
  intro e
  have : a < b := h
  omega
theorem putT_none {tb : List (Int × List (Int × Int))} {h : Int} {j : List (Int × Int)} (hn : h ∉ tb.map (·.1)) : putT tb h j = tb := by
  unfold putT
  conv => rhs; rw [← List.map_id tb]
  refine List.map_congr_left fun e he => ?_
  rw [if_neg (fun z => hn (by rw [← z]; exact List.mem_map_of_mem he))]
  rfl
theorem rws_put {H : Hp} {h : Int} {r : Addr} {j : List (Int × Int)} (hr : H r = some (.dK (dI j))) : ∀ {rs : List (Int × V)} {tb : List (Int × List (Int × Int))}, (tb.map (·.1)).Nodup → h ∈ tb.map (·.1) → Rws H rs tb → Rws H (putG rs h (.ref r)) (putT tb h j)
  | _, _, _, hm, .nil => by simp at hm
  | q :: rs, e :: tb, nd, hm, .cons ⟨e1, r2, e2, e3⟩ t => by
    rw [List.map_cons, List.nodup_cons] at nd
    have e0 : putT (e :: tb) h j = (if e.1 = h then (e.1, j) else e) :: putT tb h j := rfl
    rw [e0]
    unfold putG
    by_cases z : e.1 = h
    · rw [if_pos (e1.trans z), if_pos z, putT_none (by rw [← z]; exact nd.1)]
      exact .cons ⟨e1, r, rfl, hr⟩ t
    · rw [if_neg (fun w => z (e1.symm.trans w)), if_neg z]
      rw [List.map_cons] at hm
      exact .cons ⟨e1, r2, e2, e3⟩ (rws_put hr nd.2 ((List.mem_cons.mp hm).resolve_left fun w => z w.symm) t)
theorem rws_ne {H : Hp} {d : Addr} : ∀ {rs : List (Int × V)} {tb : List (Int × List (Int × Int))}, Rws H rs tb → H d = none → ∀ q ∈ rs, q.2 ≠ V.ref d
  | _, _, .cons ⟨_, r, e2, e3⟩ t, hd, q, hq => by
    rcases List.mem_cons.mp hq with z | z
    · rw [z, e2]
      intro w
      cases w
      rw [hd] at e3
      cases e3
    · exact rws_ne t hd q z
theorem rws_but {H H' : Hp} {d : Addr} : ∀ {rs : List (Int × V)} {tb : List (Int × List (Int × Int))}, Rws H rs tb → (∀ q ∈ rs, q.2 ≠ V.ref d) → (∀ r o, r ≠ d → H r = some o → H' r = some o) → Rws H' rs tb
  | _, _, .nil, _, _ => .nil
  | _, _, .cons ⟨e, r, e2, e3⟩ t, ap, k => .cons ⟨e, r, e2, k _ _ (fun z => ap _ List.mem_cons_self (by rw [e2, z])) e3⟩ (rws_but t (fun q hq => ap q (List.mem_cons_of_mem _ hq)) k)
theorem sc_Known___init__ : FnScope ["self", "hands"] ["self", "hands"] (defScope s_Known___init__) := ⟨rfl, rfl, rfl, by decide +kernel, rfl, by decide +kernel, by decide +kernel⟩
set_option maxHeartbeats 1000000 in
theorem ok_Known___init__ {f f_hands_of : Addr} {fd fd_hands_of : FuncData} (F : Fun K "__init__" "Known.__init__" s_Known___init__ f fd)
    (G_hands_of : FnOk P w K mg base CX0 3 f_hands_of fd_hands_of ["hands"] (sp_hands_of K)) (C_hands_of : Cal K mg "hands_of" f_hands_of fd_hands_of ["hands"]) (h_dict : mg "dict" = none) : FnOk P w K mg base CX0 4 f fd ["self", "hands"] (sp_Known___init__ K) := by
  refine F.ok sc_Known___init__ (fun vs H Q E h => ?_) (fun cdv A outer s H vs Q E hr h => ?_)
  · obtain ⟨p, n, rfl, _⟩ := h
    rfl
  obtain ⟨p, n, rfl, h⟩ := h
  have hu64 := hr.units
  have hu0 := hr.units0
  have hu := hu_of hr
  refine ⟨_, (pss_one (ps_fldK (K := K) rfl (pv 0) (pe_callTy (call_dictG rfl) (by rfl) h_dict PyProof.Rows.boot_dict (pa_cons (pe_comp ["hand"] [none] rfl rfl (by kernel_rfl) (pi_listK (K := K) rfl (pcall G_hands_of C_hands_of hr (pa_cons (pv 1) pa_nil))) (fun _ _ _ _ _ nd => pg_name (i := 0) nd rfl (Or.inl rfl)) (fun _ _ _ _ _ => pif_nil) (fun _ _ _ _ _ => (pe_tup (pa_cons (pv 0) (pa_cons pe_dnewK pa_nil))))) pa_nil)) rfl)), ?_⟩
  obtain ⟨C, dx, ⟨cl, n1⟩, hp, h0, h1, k⟩ := h
  clean_wf
  refine ⟨n, rfl, h0, h1, fun H1 l hl s1 g1 => ?_⟩
  clean_wf
  intro D hD
  have ln := GB.hl_len n
  refine comp_list (K := K) (a := l) (xs := (GB.hl n).map V.int) (fun i σ H' => ∃ v ys rs, σ = [v] ∧ Same H1 H' ∧ H' D = some (.lst ys) ∧ PrsV H' ys rs ∧ rs.map (·.1) = (GB.hl n).take i ∧ Rws H' rs (((GB.hl n).take i).map fun h => (h, [])) ∧ ∀ q ∈ rs, ∀ r, q.2 = V.ref r → H1 r = none) ⟨none, [], [], rfl, same_upd hD, upd_same, .nil, rfl, .nil, fun q hq => nomatch hq⟩ ?_ ?_ ?_
  · rintro i σ H' _ ⟨_, _, _, _, z, _⟩
    exact SqL.of (z _ _ g1)
  · rintro i x σ H' hx ⟨v, ys, rs, rfl, sm, hDx, hpr, hk, hrw, hfr⟩
    obtain ⟨h, hh, rfl⟩ := int_get hx
    have hi := (List.getElem?_eq_some_iff.mp hh).1
    have ly : ys.length ≤ i := by
      rw [prsV_len hpr, ← List.length_map (f := (·.1)), hk, List.length_take]
      omega
    clean_wf
    intro r H2 hr s2 g2
    clean_wf
    intro t H3 ht s3 g3
    have hD3 := s3 _ _ (s2 _ _ hDx)
    refine ⟨ys, hD3, small1000 (by omega), some (.int h), _, rs ++ [(h, .ref r)], rfl, fun b o z => ?_, upd_same, ?_, ?_, ?_, fun q hq r' e => ?_⟩
    · rw [upd_ne (ne_of_none z hD)]
      exact s3 _ _ (s2 _ _ (sm b o z))
    · exact prsV_snoc (prsV_up ((SmH.same (s2.trans s3)).trans (SmH.lst hD3)) hpr) ⟨t, rfl, SmH.lst hD3 _ _ g3⟩
    · rw [List.map_append, hk, take_get hh]
      rfl
    · rw [take_get hh, List.map_append]
      have kp : ∀ r m, H' r = some (.dK (dI m)) → (upd H3 D (.lst (ys ++ [V.ref t]))) r = some (.dK (dI m)) := fun r m e => by rw [upd_ne (ne_of (s3 _ _ (s2 _ _ e)) hD3 (by intro z; cases z))]; exact s3 _ _ (s2 _ _ e)
      exact rws_snoc (rws_same kp hrw) ⟨rfl, r, rfl, by rw [upd_ne (ne_of (s3 _ _ g2) hD3 (by intro z; cases z))]; exact s3 _ _ g2⟩
    · rcases List.mem_append.mp hq with z | z
      · exact hfr q z r' e
      · rw [List.mem_singleton.mp z] at e
        cases e
        exact sm.free hr
  rintro σ H2 ⟨v, ys, rs, rfl, s2, hD2, hpr, hk, hrw, hfr⟩
  rw [show (GB.hl n).take ((GB.hl n).map V.int).length = GB.hl n by rw [List.length_map, List.take_length]] at hk hrw
  refine ⟨D, ys, rs, rfl, hD2, hpr, by rw [hk]; exact hl_nd n, by rw [← List.length_map (f := (·.1)), hk]; omega, fun d hd => ?_⟩
  have s3 := same_upd (o := .dK (dG rs)) hd
  have g3 : (upd H2 d (.dK (dG rs))) d = some (.dK (dG rs)) := upd_same
  generalize upd H2 d (.dK (dG rs)) = H3 at s3 g3 ⊢
  have s4 : Same H H3 := s1.trans (s2.trans s3)
  have hp4 := s4 _ _ hp
  clean_wf
  intro H5 b5 g5
  refine k H5 d rs (fun b o e hb => b5.at hb (s4 _ _ e)) g5 (b5.of hp4 g3 (by intro z; cases z)) (rws_same (fun r m e => b5.of hp4 e (by intro z; cases z)) (rws_same (fun r m e => s3 _ _ e) hrw)) (rws_ne hrw hd) ((s1.trans s2).free hd) (fun q hq r e => s1.free (hfr q hq r e))
def sp_Known_learn (K : PySem.W.Frag) (mg : Str → Option Value) : Sp := fun vs H Q _ => ∃ (p : Addr) (h : Int) (c : Addr), vs = [.ref p, .int h, .ref c] ∧ ∃ d rs tb m, KnAt K mg H p d rs tb ∧ Rd H c (.dK (dI m)) ∧ Ck m ∧
  ∀ H' rs' tb', SmB d H H' → KnAt K mg H' p d rs' tb' → (tbl tb h = none → tb' = tb) → (∀ m0, tbl tb h = some m0 → ∃ j, Td j ∧ (∀ k, IsMx [m0, m] k (ct j k)) ∧ tb' = putT tb h j) → (∀ q ∈ rs', q ∈ rs ∨ ∃ r, q.2 = .ref r ∧ H r = none) → Q .non H'
theorem sc_Known_learn : FnScope ["self", "hand", "counts"] ["self", "hand", "counts"] (defScope s_Known_learn) := ⟨rfl, rfl, rfl, by decide +kernel, rfl, by decide +kernel, by decide +kernel⟩
theorem ok_Known_learn {f f_joined C_Known : Addr} {fd fd_joined : FuncData} (F : Fun K "learn" "Known.learn" s_Known_learn f fd)
    (G_joined : FnOk P w K mg base CX0 2 f_joined fd_joined ["one", "other"] (sp_joined K)) (C_joined : Cal K mg "joined" f_joined fd_joined ["one", "other"]) (T_Known : TKnown K C_Known) (m_Known : mg "Known" = some (.ref C_Known)) : FnOk P w K mg base CX0 3 f fd ["self", "hand", "counts"] (sp_Known_learn K mg) := by
  refine F.ok sc_Known_learn (fun vs H Q E h => ?_) (fun cdv A outer s H vs Q E hr h => ?_)
  · obtain ⟨p, x, c, rfl, _⟩ := h
    rfl
  obtain ⟨p, x, c, rfl, h⟩ := h
  have hu64 := hr.units
  have hu0 := hr.units0
  have hu := hu_of hr
  refine ⟨_, (pss_one (ps_if (pt_cmp (pc_din hu (pv 1) (pe_fldK (K := K) rfl (pv 0) rfl))) (pss_one (ps_dput hu (pe_fldK (K := K) rfl (pv 0) rfl) (pv 1) (pcall G_joined C_joined hr (pa_cons (pe_dget hu (pe_fldK (K := K) rfl (pv 0) rfl) (pv 1) (fun _ _ => rfl)) (pa_cons (pv 2) pa_nil))) rfl)) pss_nil)), ?_⟩
  obtain ⟨d, rs, tb, m, S, hc, cm, k⟩ := h
  obtain ⟨⟨C, dx, eC, hp⟩, hd, hrw, hhs, htd, hap⟩ := id S
  rw [m_Known] at eC
  cases eC
  obtain ⟨cl, n1⟩ := id T_Known
  have hks := hrw.keys
  have nd : (rs.map (·.1)).Nodup := by rw [hks]; exact hhs.up.imp fun h => by omega
  have lrs : rs.length < sizeLine := small1000 (by
    have := hs_len (by rw [← hks]; exact nd) hhs.rg
    rw [List.length_map] at this
    have e : rs.length = tb.length := Paired.length hrw
    omega)
  clean_wf
  rcases hrw.lk x with ⟨e1, e2⟩ | ⟨r, m0, e1, e2, e3⟩
  · rw [e1]
    refine ite2 (fun z => absurd z (by decide)) fun _ => ?_
    exact k H rs tb (.refl _ _) S (fun _ => rfl) (fun m0 z => by rw [e2] at z; cases z) fun q hq => .inl hq
  · have hd' := hd
    rw [e1]
    refine ite2 (fun _ => ?_) fun z => absurd rfl z
    clean_wf
    have t0 := htd _ (tbl_mem e2)
    refine ⟨r, c, m0, m, rfl, .inl e3, hc, t0.toCk, cm, fun H1 q j s1 hq g1 tj mx => ?_⟩
    have hp1 := s1 _ _ hp
    have hd1 := s1 _ _ hd
    clean_wf
    intro H2 b2 g2
    have key : x ∈ tb.map (·.1) := tbl_key.mp (by rw [e2]; rfl)
    have nq : q ≠ d := fun z => by rw [z] at hq; rw [hq] at hd; cases hd
    have hrw2 : Rws H2 rs tb := rws_but hrw hap fun r o n e => b2.at n (s1 _ _ e)
    refine k H2 _ (putT tb x j) (fun b o n e => b2.at n (s1 _ _ e)) ⟨⟨_, dx, m_Known, b2.of hd1 hp1 (by intro z; cases z)⟩, g2, rws_put (b2.at nq g1) (by rw [← hks]; exact nd) key hrw2, by rw [putT_keys]; exact hhs, fun e he => ?_, fun w hw => ?_⟩ (fun z => by rw [e2] at z; cases z) (fun m1 z => ⟨j, tj, ?_, rfl⟩) fun w hw => ?_
    · obtain ⟨e0, h0, rfl⟩ := List.mem_map.mp he
      by_cases w : e0.1 = x
      · rw [if_pos w]; exact tj
      · rw [if_neg w]; exact htd e0 h0
    · rcases putg_vals _ _ _ _ hw with z | z
      · rw [z]
        intro w
        cases w
        exact nq rfl
      · exact hap w z
    · rw [e2] at z
      cases z
      exact mx
    · rcases putg_vals _ _ _ _ hw with z | z
      · rw [z]
        exact .inr ⟨q, rfl, hq⟩
      · exact .inl z
theorem rws_get {H : Hp} : ∀ {rs : List (Int × V)} {tb : List (Int × List (Int × Int))} {i : Nat} {q : Int × V}, Rws H rs tb → rs[i]? = some q → ∃ e r, tb[i]? = some e ∧ q.1 = e.1 ∧ q.2 = .ref r ∧ H r = some (.dK (dI e.2))
  | _, _, _, _, .nil, e => by simp at e
  | _, _, 0, _, .cons ⟨e1, r, e2, e3⟩ _, e => by simp at e; subst e; exact ⟨_, r, rfl, e1, e2, e3⟩
  | _, _, i + 1, x, .cons _ t, e => by
    obtain ⟨p, r, h1, h2⟩ := rws_get (i := i) t (by simpa using e)
    exact ⟨p, r, by simpa using h1, h2⟩
theorem dG_get {m : List (Int × V)} {i : Nat} {k : Key} {v : V} (h : (dG m)[i]? = some (k, v)) : ∃ p, m[i]? = some p ∧ k = Sum.inl p.1 ∧ v = p.2 := by
  unfold dG at h
  rw [List.getElem?_map] at h
  cases e : m[i]? with
  | none => rw [e] at h; cases h
  | some p => rw [e] at h; cases h; exact ⟨p, rfl, rfl, rfl⟩
theorem knUp {B B' : Hp} {p d : Addr} {rs : List (Int × V)} {tb : List (Int × List (Int × Int))} (s : Same B B') (k : KnAt K mg B p d rs tb) : KnAt K mg B' p d rs tb := by
  obtain ⟨⟨C, dx, e, h⟩, h2, h3, h4, h5, h6⟩ := k
  exact ⟨⟨C, dx, e, s _ _ h⟩, s _ _ h2, rws_same (fun r m q => s _ _ q) h3, h4, h5, h6⟩
theorem same_tupQ {K : PySem.W.Frag} {H H' : Hp} {a : Addr} {xs : List V} (e : Same H H') (h : SqT K H a xs) : SqT K H' a xs := SmT.same e _ _ h

def canR (g : Int → Int) : List (Int × Int) := (hs63.filter fun k => decide (0 < g k)).map fun k => (k, g k)
theorem sorted_extI : ∀ {l m : List Int}, l.Pairwise (· < ·) → m.Pairwise (· < ·) → (∀ x, x ∈ l ↔ x ∈ m) → l = m
  | [], [], _, _, _ => rfl
  | [], b :: m, _, _, h => absurd ((h b).mpr List.mem_cons_self) (by simp)
  | a :: l, [], _, _, h => absurd ((h a).mp List.mem_cons_self) (by simp)
  | a :: l, b :: m, hl, hm, h => by
    rw [List.pairwise_cons] at hl hm
    have e : a = b := by
      rcases List.mem_cons.mp ((h a).mp List.mem_cons_self) with z | z
      · exact z
      · rcases List.mem_cons.mp ((h b).mpr List.mem_cons_self) with w | w
        · exact w.symm
        · have := hm.1 a z; have := hl.1 b w; omega
    subst e
    rw [sorted_extI hl.2 hm.2 fun x => ?_]
    constructor
    · intro hx
      rcases List.mem_cons.mp ((h x).mp (List.mem_cons_of_mem _ hx)) with z | z
      · have := hl.1 x hx; omega
      · exact z
    · intro hx
      rcases List.mem_cons.mp ((h x).mpr (List.mem_cons_of_mem _ hx)) with z | z
      · have := hm.1 x hx; omega
      · exact z
theorem hs63_up : hs63.Pairwise (· < ·) := by decide +kernel
theorem le_nd_lt {S : List Int} (so : S.Pairwise (· ≤ ·)) (nd : S.Nodup) : S.Pairwise (· < ·) := by
  have := List.pairwise_and_iff.mpr ⟨so, nd⟩
  exact this.imp fun h => by omega
theorem PKm_can {m : List (Int × Int)} {S : List Int} (c : Ck m) (pm : S.Perm (m.map (·.1))) (so : S.Pairwise (· ≤ ·)) : PKm m S = canR (ct m) := by
  unfold PKm canR
  have := sorted_extI (l := S.filter fun k => decide (0 < ct m k)) (m := hs63.filter fun k => decide (0 < ct m k)) ((le_nd_lt so (pm.nodup_iff.mpr c.nd)).filter _) (hs63_up.filter _) fun x => ?_
  · rw [this]
  · rw [List.mem_filter, List.mem_filter]
    constructor
    · rintro ⟨h1, h2⟩
      obtain ⟨p, hp, e⟩ := List.mem_map.mp (pm.mem_iff.mp h1)
      have := c.rg p hp
      rw [e] at this
      exact ⟨mem_hs.mpr this, h2⟩
    · rintro ⟨h1, h2⟩
      have h3 : 0 < ct m x := of_decide_eq_true h2
      exact ⟨pm.mem_iff.mpr (ct_in (by omega)), h2⟩

def Lst1 (H : Hp) (x : V) (e : Int × List (Int × Int)) : Prop := ∃ t u xs, x = .ref t ∧ H t = some (.tup [.int e.1, .ref u]) ∧ H u = some (.tup xs) ∧ Prs H xs e.2
abbrev LstV (H : Hp) : List V → List (Int × List (Int × Int)) → Prop := Paired (Lst1 H)
theorem Lst1.up {H H' : Hp} (h : ∀ a xs, H a = some (.tup xs) → H' a = some (.tup xs)) {x : V} {e : Int × List (Int × Int)} (q : Lst1 H x e) : Lst1 H' x e := by
  obtain ⟨t, u, xs, e1, e2, e3, e4⟩ := q
  exact ⟨t, u, xs, e1, h _ _ e2, h _ _ e3, e4.mono h⟩
theorem lstV_up {H H' : Hp} (h : ∀ a xs, H a = some (.tup xs) → H' a = some (.tup xs)) {xs : List V} {ls : List (Int × List (Int × Int))} (q : LstV H xs ls) : LstV H' xs ls := Paired.mapP q fun _ _ z => z.up h
theorem lstV_snoc {H : Hp} : ∀ {xs : List V} {ls : List (Int × List (Int × Int))} {x : V} {e : Int × List (Int × Int)}, LstV H xs ls → Lst1 H x e → LstV H (xs ++ [x]) (ls ++ [e])
  | _, _, _, _, .nil, h => .cons h .nil
  | _, _, _, _, .cons r t, h => .cons r (lstV_snoc t h)

def canT (tb : List (Int × List (Int × Int))) : List (Int × List (Int × Int)) := (tb.filter fun e => !e.2.isEmpty).map fun e => (e.1, canR (ct e.2))
theorem canT_snoc {tb : List (Int × List (Int × Int))} {i : Nat} {e : Int × List (Int × Int)} (he : tb[i]? = some e) : canT (tb.take (i + 1)) = canT (tb.take i) ++ if e.2.isEmpty then [] else [(e.1, canR (ct e.2))] := by
  unfold canT
  rw [take_get he, List.filter_append, List.map_append]
  congr 1
  cases z : e.2.isEmpty <;> simp [z]
theorem nd_len64 {m : List (Int × Int)} (c : Ck m) : m.length < 64 := by
  have := hs_len c.nd (fun k hk => by obtain ⟨p, hp, e⟩ := List.mem_map.mp hk; rw [← e]; exact c.rg p hp)
  rw [List.length_map] at this
  exact this
def sp_Known_listed (K : PySem.W.Frag) (mg : Str → Option Value) : Sp := fun vs H Q _ => ∃ (p : Addr), vs = [.ref p] ∧ ∃ d rs tb, KnAt K mg H p d rs tb ∧ ∀ H' t xs, Same H H' → H t = none → H' t = some (.tup xs) → LstV H' xs (canT tb) → Q (.ref t) H'
theorem sc_Known_listed : FnScope ["self"] ["self"] (defScope s_Known_listed) := ⟨rfl, rfl, rfl, by decide +kernel, rfl, by decide +kernel, by decide +kernel⟩
set_option maxHeartbeats 1000000 in
theorem ok_Known_listed {f f_packed C_Known : Addr} {fd fd_packed : FuncData} (F : Fun K "listed" "Known.listed" s_Known_listed f fd)
    (G_packed : FnOk P w K mg base CX0 1 f_packed fd_packed ["counts"] (sp_packed K)) (C_packed : Cal K mg "packed" f_packed fd_packed ["counts"]) (h_tuple : mg "tuple" = none) (T_Known : TKnown K C_Known) (m_Known : mg "Known" = some (.ref C_Known)) : FnOk P w K mg base CX0 2 f fd ["self"] (sp_Known_listed K mg) := by
  refine F.ok sc_Known_listed (fun vs H Q E h => ?_) (fun cdv A outer s H vs Q E hr h => ?_)
  · obtain ⟨p, rfl, _⟩ := h
    rfl
  obtain ⟨p, rfl, h⟩ := h
  have hu64 := hr.units
  have hu0 := hr.units0
  have hu := hu_of hr
  refine ⟨_, (pss_one (ps_thaw (ps_ret (pe_callTy (call_tupleK (K := K) rfl) (by rfl) h_tuple PyProof.Rows.boot_tuple (pa_cons (pe_comp ["hand", "row"] [none, none] rfl rfl (by kernel_rfl) (pi_items (pe_fldK (K := K) rfl (pv 0) rfl)) (fun _ _ _ _ _ nd => pg_tupK (K := K) (n := 2) rfl rfl (pgs_cons (pg_name (i := 0) nd rfl (Or.inl rfl)) (pgs_cons (pg_name (i := 1) nd rfl (Or.inl rfl)) pgs_nil))) (fun _ _ _ _ _ => (pif_one (pt_cmpR (op_neE hu0) (pv 1) pe_dnewK (nomark _)))) (fun _ _ _ _ _ => (pe_tup (pa_cons (pv 0) (pa_cons (pcall G_packed C_packed hr (pa_cons (pv 1) pa_nil)) pa_nil))))) pa_nil))))), ?_⟩
  obtain ⟨d, rs, tb, S, k⟩ := h
  obtain ⟨⟨C, dx, eC, hp⟩, hd, hrw, hhs, htd, hap⟩ := id S
  rw [m_Known] at eC
  cases eC
  obtain ⟨cl, n1⟩ := id T_Known
  have lrs : rs.length = tb.length := Paired.length hrw
  have ltb : tb.length < 64 := by
    have := hs_len (hhs.up.imp fun h => by omega) hhs.rg
    rw [List.length_map] at this
    exact this
  refine x_thaw (d := d) hd ?_
  clean_wf
  refine x_fz hd fun o A hA sA => ?_
  intro D hD
  have nDd : D ≠ d := fun z => by rw [z, hA] at hD; cases hD
  refine comp_items (fun i σ H' => ∃ v1 v2 ys, σ = [v1, v2] ∧ Same A H' ∧ H' D = some (.lst ys) ∧ LstV H' ys (canT (tb.take i)) ∧ ys.length ≤ i) ⟨none, none, [], rfl, same_upd hD, upd_same, .nil, Nat.le_refl _⟩ ?_ ?_ ?_
  · rintro i σ H' _ ⟨_, _, _, _, z, _⟩
    exact z _ _ hA
  · rintro i ky v t σ H0 H' hkv ⟨v1, v2, ys, rfl, sm0, hD0, hy0, hyi⟩ ht0 s0 ht
    obtain ⟨q, hq, rfl, rfl⟩ := dG_get hkv
    obtain ⟨e, r, he, e1, e2, e3⟩ := rws_get hrw hq
    have hi := (List.getElem?_eq_some_iff.mp he).1
    have nrd : r ≠ d := fun z => hap q (List.mem_of_getElem? hq) (by rw [e2, z])
    have sm := sm0.trans s0
    have hr' := sm _ _ (sA _ _ nrd e3)
    have hDx := s0 _ _ hD0
    have hy := lstV_up (fun a xs z => s0 a _ z) hy0
    rw [e2] at ht
    have ht := SqT.of (K := K) ht
    clean_wf
    intro l H1 hl s1 g1
    have hr1 : Rd H1 r (.dK (dI e.2)) := .inl (s1 _ _ hr')
    have gl1 : Rd H1 l (.dK []) := .inl g1
    clean_wf
    refine ite2 (fun h1 => ?_) fun h1 => ?_
    · have ne : e.2.isEmpty = false := by
        cases z : e.2.isEmpty
        · rfl
        · rw [z] at h1; cases h1
      have te := htd e (List.mem_of_getElem? he)
      clean_wf
      refine ⟨r, e.2, rfl, hr1, Nat.lt_of_lt_of_le (nd_len64 te.toCk) (Nat.le_refl _), fun H2 u xs S s2 hu pm so gu pr => ?_⟩
      rw [PKm_can te.toCk pm so] at pr
      clean_wf
      intro t3 H3 ht3 s3 g3
      have s13 : Same H' H3 := s1.trans (s2.trans s3)
      have hD3 := s13 _ _ hDx
      have kp : ∀ a xs, H3 a = some (.tup xs) → (upd H3 D (.lst (ys ++ [V.ref t3]))) a = some (.tup xs) := fun a xs z => by
        rw [upd_ne (ne_of z hD3 (by intro z; cases z))]
        exact z
      refine ⟨ys, hD3, small1000 (by omega), _, _, _, rfl, fun b o z => ?_, upd_same, ?_, by rw [List.length_append]; exact Nat.succ_le_succ hyi⟩
      · rw [upd_ne (ne_of_none z hD)]
        exact s13 _ _ (sm b o z)
      · rw [canT_snoc he, ne]
        refine lstV_snoc (lstV_up (fun a xs z => kp a xs (s13 _ _ z)) hy) ⟨t3, u, xs, rfl, ?_, kp _ _ (s3 _ _ gu), (pr.mono fun a xs z => kp _ _ (s3 _ _ z))⟩
        rw [← e1]
        exact kp _ _ g3
    · have ne : e.2.isEmpty = true := by
        cases z : e.2.isEmpty
        · rw [z] at h1; exact absurd rfl h1
        · rfl
      refine ⟨_, _, ys, rfl, sm.trans s1, s1 _ _ hDx, ?_, Nat.le_succ_of_le hyi⟩
      rw [canT_snoc he, ne]
      simp only [if_true, List.append_nil]
      exact lstV_up (fun a xs z => s1 _ _ z) hy
  rintro σ H' ⟨v1, v2, ys, rfl, sm, hDx, hy, hyi⟩
  rw [dG_len, lrs, List.take_length] at hy
  rw [dG_len, lrs] at hyi
  clean_wf
  intro t H3 ht s3 g3
  have kd := s3 _ _ (sm _ _ hA)
  have ntd : t ≠ d := fun z => by rw [z, sm _ _ hA] at ht; cases ht
  refine ⟨⟨o, kd⟩, ?_⟩
  refine k _ t ys (thaw_same (fun b u n e => s3 _ _ (sm _ _ (sA b u n e))) hd) ?_ (by rw [upd_ne ntd]; exact g3) (lstV_up (fun a xs z => ?_) hy)
  · cases z : H t with
    | none => rfl
    | some u => rw [sm _ _ (sA t u ntd z)] at ht; cases ht
  · have z3 := s3 _ _ z
    rw [upd_ne (ne_of z3 kd (by intro z; cases z))]
    exact z3

def mgd : List (Int × List (Int × Int)) → Int → Int → Int → Int
  | [], _, _, c => c
  | e :: ls, h, k, c => mgd ls h k (if e.1 = h then max c (ct e.2 k) else c)
theorem mgd_app (h k : Int) (e : Int × List (Int × Int)) : ∀ (ls : List (Int × List (Int × Int))) (c : Int), mgd (ls ++ [e]) h k c = if e.1 = h then max (mgd ls h k c) (ct e.2 k) else mgd ls h k c
  | [], c => rfl
  | _ :: ls, c => mgd_app h k e ls _
theorem sqT_smB {K : PySem.W.Frag} {H H' : Hp} {d a : Addr} {kvs : List (Key × V)} {xs : List V} (sb : SmB d H H') (hd : H d = some (.dK kvs)) (h : SqT K H a xs) : SqT K H' a xs := by
  rcases h with (h | ⟨z, h⟩) | h
  · exact .inl (.inl (sb _ _ (ne_of h hd (by intro z; cases z)) h))
  · exact .inl (.inr ⟨z, sb _ _ (ne_of h hd (by intro z; cases z)) h⟩)
  · exact .inr h
theorem isMx_max2 {m n : List (Int × Int)} {k b : Int} (h : IsMx [m, n] k b) : b = max (ct m k) (ct n k) := by
  obtain ⟨⟨q, hq, e⟩, u⟩ := h
  have u1 := u m (by simp)
  have u2 := u n (by simp)
  simp at hq
  rcases hq with z | z <;> rw [z] at e <;> omega
theorem tbl_none_key {tb : List (Int × List (Int × Int))} {h : Int} : h ∉ tb.map (·.1) ↔ tbl tb h = none := by
  rw [← tbl_key]
  cases tbl tb h <;> simp
theorem posI_td {m : List (Int × Int)} (t : Td m) : posI m = m := by
  unfold posI
  exact List.filter_eq_self.mpr fun p hp => decide_eq_true (t.ps p hp)
theorem lstV_get {H : Hp} : ∀ {xs : List V} {ls : List (Int × List (Int × Int))} {i : Nat} {x : V}, LstV H xs ls → xs[i]? = some x → ∃ e, ls[i]? = some e ∧ Lst1 H x e
  | _, _, _, _, .nil, e => by simp at e
  | _, _, 0, _, .cons h _, e => by simp at e; subst e; exact ⟨_, rfl, h⟩
  | _, _, i + 1, x, .cons _ t, e => by
    obtain ⟨p, h1, h2⟩ := lstV_get (i := i) t (by simpa using e)
    exact ⟨p, by simpa using h1, h2⟩
def sp_Known_merge (K : PySem.W.Frag) (mg : Str → Option Value) : Sp := fun vs H Q _ => ∃ (p a : Addr), vs = [.ref p, .ref a] ∧ ∃ d rs tb xs ls, KnAt K mg H p d rs tb ∧ SqT K H a xs ∧ LstV H xs ls ∧ ls.length ≤ 64 ∧ (∀ e ∈ ls, Td e.2) ∧
  ∀ H' rs' tb', SmB d H H' → KnAt K mg H' p d rs' tb' → tb'.map (·.1) = tb.map (·.1) → (∀ h ∈ tb.map (·.1), ∀ k, ct ((tbl tb' h).getD []) k = mgd ls h k (ct ((tbl tb h).getD []) k)) → (∀ q ∈ rs', q ∈ rs ∨ ∃ r, q.2 = .ref r ∧ H r = none) → Q .non H'
theorem sc_Known_merge : FnScope ["self", "listed", "hand", "row"] ["self", "listed"] (defScope s_Known_merge) := ⟨rfl, rfl, rfl, by decide +kernel, rfl, by decide +kernel, by decide +kernel⟩
set_option maxHeartbeats 1000000 in
theorem ok_Known_merge {f f_unpacked f_Known_learn C_Known : Addr} {fd fd_unpacked fd_Known_learn : FuncData} (F : Fun K "merge" "Known.merge" s_Known_merge f fd)
    (G_unpacked : FnOk P w K mg base CX0 3 f_unpacked fd_unpacked ["pairs"] (sp_unpacked K)) (C_unpacked : Cal K mg "unpacked" f_unpacked fd_unpacked ["pairs"])
    (G_Known_learn : FnOk P w K mg base CX0 3 f_Known_learn fd_Known_learn ["self", "hand", "counts"] (sp_Known_learn K mg)) (B_Known_learn : Binds K fd_Known_learn ["self", "hand", "counts"] []) (T_Known : TKnown K C_Known) (m_Known : mg "Known" = some (.ref C_Known)) (mt_Known_learn : Meth K C_Known "learn" f_Known_learn) : FnOk P w K mg base CX0 4 f fd ["self", "listed"] (sp_Known_merge K mg) := by
  refine F.ok sc_Known_merge (fun vs H Q E h => ?_) (fun cdv A outer s H vs Q E hr h => ?_)
  · obtain ⟨p, a, rfl, _⟩ := h
    rfl
  obtain ⟨p, a, rfl, h⟩ := h
  have hu64 := hr.units
  have hu0 := hr.units0
  have hu := hu_of hr
  refine ⟨_, (pss_one (ps_for PassesOwn.never rfl (pi_tupK (K := K) rfl (pv 1)) (pg_tupK (K := K) (n := 2) rfl rfl (pgs_cons (pg_name (i := 2) sc_Known_merge.nd rfl (Or.inl rfl)) (pgs_cons (pg_name (i := 3) sc_Known_merge.nd rfl (Or.inl rfl)) pgs_nil)))
      (pss_one (ps_expr (pe_methS (MOk.cons T_Known.cl mt_Known_learn G_Known_learn B_Known_learn MOk.nil) (pv 0) hr (pa_cons (pv 2) (pa_cons (pcall G_unpacked C_unpacked hr (pa_cons (pv 3) pa_nil)) pa_nil))))))), ?_⟩
  obtain ⟨d, rs, tb, xs, ls, S, hS, hx, hl, ht, k⟩ := h
  have lx : xs.length = ls.length := Paired.length hx
  clean_wf
  refine for_tup (xs := xs) (fun i σ H' => ∃ v2 v3 rsi tbi, σ = [some (.ref p), some (.ref a), v2, v3] ∧ SmB d H H' ∧ KnAt K mg H' p d rsi tbi ∧ tbi.map (·.1) = tb.map (·.1) ∧ (∀ h ∈ tb.map (·.1), ∀ k, ct ((tbl tbi h).getD []) k = mgd (ls.take i) h k (ct ((tbl tb h).getD []) k)) ∧ (∀ q ∈ rsi, q ∈ rs ∨ ∃ r, q.2 = .ref r ∧ H r = none)) ⟨none, none, rs, tb, rfl, .refl _ _, S, rfl, fun _ _ _ => rfl, fun q hq => .inl hq⟩ (fun i σ H' _ z => ?_) ?_ ?_
  · obtain ⟨_, _, _, _, _, z, _⟩ := z
    exact sqT_smB z S.dc hS
  · rintro i x σ H' hxi ⟨v2, v3, rsi, tbi, rfl, sb, Si, ki, ci, fi⟩
    obtain ⟨e, he, t, u, ys, rfl, e2, e3, e4⟩ := lstV_get hx hxi
    have te := ht e (List.mem_of_getElem? he)
    have ntd : t ≠ d := ne_of e2 S.dc (by intro z; cases z)
    have nud : u ≠ d := ne_of e3 S.dc (by intro z; cases z)
    have ht' := SqT.of (K := K) (sb _ _ ntd e2)
    have hu' := SqT.of (K := K) (sb _ _ nud e3)
    have py : Prs H' ys e.2 := e4.mono fun b zs z => sb _ _ (ne_of z S.dc (by intro z; cases z)) z
    obtain ⟨⟨C, dx, eC, hp⟩, hd2, _⟩ := id Si
    rw [m_Known] at eC
    cases eC
    obtain ⟨cl, n1⟩ := id T_Known
    clean_wf
    refine ⟨u, ys, e.2, rfl, .inr hu', py, by have := nd_len64 te.toCk; omega, te.nd, fun H2 q s2 hq g2 => ?_⟩
    have S2 := knUp s2 Si
    rw [posI_td te] at g2
    have hd2 := s2 _ _ hd2
    clean_wf
    refine ⟨p, e.1, q, rfl, d, rsi, tbi, e.2, S2, .inl g2, te.toCk, fun H3 rs3 tb3 sb3 S3 c1 c2 c3 => ?_⟩
    refine ⟨_, _, rs3, tb3, rfl, fun b o n z => sb3 _ _ n (s2 _ _ (sb _ _ n z)), S3, ?_, fun h hh k => ?_, fun w hw => ?_⟩
    · cases z : tbl tbi e.1 with
      | none => rw [c1 z]; exact ki
      | some m0 =>
        obtain ⟨j, _, _, ej⟩ := c2 m0 z
        rw [ej, putT_keys]
        exact ki
    · rw [take_get he, mgd_app, ← ci h hh k]
      cases z : tbl tbi e.1 with
      | none =>
        rw [c1 z, if_neg]
        intro w
        rw [w, ← tbl_none_key] at z
        exact z (by rw [ki]; exact hh)
      | some m0 =>
        obtain ⟨j, _, mx, ej⟩ := c2 m0 z
        rw [ej, putT_tbl]
        by_cases w : e.1 = h
        · rw [if_pos w, if_pos ⟨w.symm, by rw [z]; rfl⟩, ← w, z]
          exact isMx_max2 (mx k)
        · rw [if_neg w, if_neg (fun u => w u.1.symm)]
    · rcases c3 w hw with z | ⟨r, e5, e6⟩
      · exact fi w z
      · refine .inr ⟨r, e5, ?_⟩
        have nrd : r ≠ d := fun z => by rw [z, hd2] at e6; cases e6
        cases z : H r with
        | none => rfl
        | some o => rw [s2 _ _ (sb _ _ nrd z)] at e6; cases e6
  rintro σ H' ⟨v2, v3, rsi, tbi, rfl, sb, Si, ki, ci, fi⟩
  clean_wf
  rw [lx, List.take_length] at ci
  exact k _ rsi tbi sb Si ki ci fi
end
end K34


namespace K34
open PySem L2
abbrev s__law_cell_at : Stmt := top 14
abbrev s__law_stream : Stmt := top 15
abbrev s__law_hands : Stmt := top 16
abbrev s__law_counts : Stmt := top 18
abbrev s__law_more : Stmt := top 17
section
variable {P : Program} {w : World} {K : PySem.W.Frag} {mg : Str → Option Value} {base : Heap}
def sp__law_cell_at (K : PySem.W.Frag) : Sp := fun vs H Q _ => ∃ (a : Addr) (k : Int), vs = [.ref a, .int k] ∧ ∃ ns : List Int, SqL K H a (ns.map V.int) ∧ 0 ≤ k ∧ ∀ c : Int, Q (.int c) H
theorem sc__law_cell_at : FnScope ["_law_script", "_law_k"] ["_law_script", "_law_k"] (defScope s__law_cell_at) := ⟨rfl, rfl, rfl, by decide +kernel, rfl, by decide +kernel, by decide +kernel⟩
theorem ok__law_cell_at {f  : Addr} {fd  : FuncData} (F : Fun K "_law_cell_at" "_law_cell_at" s__law_cell_at f fd) (h_len : mg "len" = none) : FnOk P w K mg base CX0 1 f fd ["_law_script", "_law_k"] (sp__law_cell_at K) := by
  refine F.ok sc__law_cell_at (fun vs H Q E h => ?_) (fun cdv A outer s H vs Q E hr h => ?_)
  · obtain ⟨a, k, rfl, _⟩ := h
    rfl
  obtain ⟨a, k, rfl, h⟩ := h
  have hu64 := hr.units
  have hu0 := hr.units0
  have hu := hu_of hr
  refine ⟨_, (pss_cons (ps_if (pt_cmpR op_lt (pv 1) (pe_callB (call_lenK (K := K) rfl) (by rfl) h_len PySem.boot_len (pa_cons (pv 0) pa_nil)) (nomark _)) (pss_one (ps_ret (pe_ix (ix_listK (K := K) rfl) (pv 0) (pv 1) (fun _ _ => rfl)))) pss_nil)
      (pss_one (ps_ret pe_int))), ?_⟩
  obtain ⟨ns, hS, h0, q⟩ := h
  clean_wf
  refine ite2 (fun h1 => ?_) fun h1 => ?_
  · have h1 : k < ((ns.map V.int).length : Nat) := of_decide_eq_true h1
    rw [List.length_map] at h1
    have hx : k.toNat < ns.length := by omega
    have hat : atI (ns.map V.int) k = some (V.int ns[k.toNat]) := atI_int h0 (by rw [List.getElem?_map, List.getElem?_eq_getElem hx]; rfl)
    clean_wf
    exact q _
  · clean_wf
    exact q _
theorem cut1 (ns : List Int) : cutV (ns.map V.int) (some 1) none = (ns.drop 1).map V.int := by
  unfold cutV
  show ((ns.map V.int).drop (HT.sIx (ns.map V.int).length 0 (some 1))).take _ = _
  have e1 : HT.sIx (ns.map V.int).length 0 (some 1) = min 1 (ns.map V.int).length := by
    show (if (1 : Int) < 0 then ((1 : Int) + ((ns.map V.int).length : Nat)).toNat else min (1 : Int).toNat (ns.map V.int).length) = _
    rw [if_neg (by decide)]
    rfl
  have e2 : HT.sIx (ns.map V.int).length (ns.map V.int).length none = (ns.map V.int).length := rfl
  rw [e1, e2, List.map_drop]
  cases ns with
  | nil => rfl
  | cons x ns =>
    rw [List.map_cons, List.length_cons, show min 1 ((ns.map V.int).length + 1) = 1 by omega, List.drop_one, List.tail_cons]
    exact List.take_of_length_le (by omega)

def Mx (x : Int) : Prop := 0 ≤ x ∧ x < 10000000000
theorem pow10 : (10 : Int) ^ (10 : Int).toNat = 10000000000 := by decide
theorem pow10p : (0 : Int) < (10 : Int) ^ (10 : Int).toNat := by rw [pow10]; decide
def sp__law_stream (K : PySem.W.Frag) : Sp := fun vs H Q _ => ∃ (c n : Int), vs = [.int c, .int n] ∧ 0 ≤ n ∧ n ≤ 100 ∧ ∀ H' l (xs : List Int), Same H H' → H l = none → H' l = some (.lst (xs.map V.int)) → xs.length = n.toNat → (∀ x ∈ xs, Mx x) → Q (.ref l) H'
theorem sc__law_stream : FnScope ["_law_cell", "_law_amount", "_law_found", "_law_rest", "_law_k", "_law_number"] ["_law_cell", "_law_amount"] (defScope s__law_stream) := ⟨rfl, rfl, rfl, by decide +kernel, rfl, by decide +kernel, by decide +kernel⟩
set_option maxHeartbeats 1000000 in
theorem ok__law_stream {f  : Addr} {fd  : FuncData} (F : Fun K "_law_stream" "_law_stream" s__law_stream f fd) (h_range : mg "range" = none) : FnOk P w K mg base CX0 1 f fd ["_law_cell", "_law_amount"] (sp__law_stream K) := by
  refine F.ok sc__law_stream (fun vs H Q E h => ?_) (fun cdv A outer s H vs Q E hr h => ?_)
  · obtain ⟨c, n, rfl, _⟩ := h
    rfl
  obtain ⟨c, n, rfl, h⟩ := h
  have hu64 := hr.units
  have hu0 := hr.units0
  have hu := hu_of hr
  refine ⟨_, (pss_cons (ps_set (i := 2) sc__law_stream.nd rfl (Or.inl rfl) (pe_lst pa_nil))
      (pss_cons (ps_set (i := 3) sc__law_stream.nd rfl (Or.inl rfl) (pe_op op_fdiv (pv 0) pe_int))
      (pss_cons (ps_if (pt_cmpR op_eq (pe_op op_mod (pv 0) pe_int) pe_int (nomark _)) (pss_cons (ps_for PassesOwn.never rfl (pi_range1 rfl h_range (pa_cons (pv 1) pa_nil)) (pg_name (i := 4) sc__law_stream.nd rfl (Or.inl rfl))
      (pss_cons (ps_expr (pe_appendK (K := K) rfl (pe_bm PySem.F.plainAttrs_list PySem.F.slot_list_append PySem.F.type_list_append mt_append (pv 2) (pa_cons (pe_op op_mod (pv 3) (pe_op op_pow pe_int pe_int)) pa_nil))))
      (pss_one (ps_set (i := 3) sc__law_stream.nd rfl (Or.inl rfl) (pe_op op_fdivB (pv 3) (pe_op op_pow pe_int pe_int))))))
      (pss_one (ps_ret (pv 2)))) pss_nil)
      (pss_cons (ps_set (i := 5) sc__law_stream.nd rfl (Or.inl rfl) (pe_op op_add (pe_op op_mod (pv 3) pe_int) pe_int))
      (pss_cons (ps_for PassesOwn.never rfl (pi_range1 rfl h_range (pa_cons (pe_op op_add (pv 1) pe_int) pa_nil)) (pg_name (i := 4) sc__law_stream.nd rfl (Or.inl rfl))
      (pss_cons (ps_set (i := 5) sc__law_stream.nd rfl (Or.inl rfl) (pe_op op_mod (pe_op op_add (pe_op op_add (pe_op op_mul (pv 5) (pv 5)) (pe_op op_mul pe_int (pv 5))) (pv 4)) pe_int))
      (pss_one (ps_expr (pe_appendK (K := K) rfl (pe_bm PySem.F.plainAttrs_list PySem.F.slot_list_append PySem.F.type_list_append mt_append (pv 2) (pa_cons (pe_op op_mod (pe_op op_mul (pv 5) (pe_op op_add (pe_op op_fdiv (pv 5) pe_int) pe_int)) pe_int) pa_nil)))))))
      (pss_one (ps_ret (pe_slice (sl_listK (K := K) rfl) (pv 2) (po_some pe_int) po_none)))))))), ?_⟩
  obtain ⟨h0, h1, k⟩ := h
  have p10 := pow10p
  clean_wf
  intro l H1 hl s1 g1
  clean_wf
  refine x_cut (fun σ' H2 => σ' = [some (.int c), some (.int n), some (.ref l), some (.int (c / 2)), none, none] ∧ Same H H2 ∧ H2 l = some (.lst [])) ?_ fun N rest => ?_
  · rintro σ' H2 ⟨rfl, s2, g2⟩
    clean_wf
    refine ⟨_, rfl, by omega, by omega, ?_⟩
    have c0 := Int.emod_nonneg (c / 2) (show (2147483647 : Int) ≠ 0 by decide)
    have c1 := Int.emod_lt_of_pos (c / 2) (show (0 : Int) < 2147483647 by decide)
    refine for_range (fun i σ H' => ∃ v num xs, σ = [some (.int c), some (.int n), some (.ref l), some (.int (c / 2)), v, some (.int num)] ∧ Same H H' ∧ H' l = some (.lst ((xs : List Int).map V.int)) ∧ xs.length = i ∧ (∀ x ∈ xs, Mx x) ∧ 0 ≤ num ∧ num < 4294967296)
      ⟨none, _, [], rfl, s2, g2, rfl, (fun _ z => nomatch z), by omega, by omega⟩ ?_ ?_
    · rintro i σ H' hi ⟨v, num, xs, rfl, sm, hl', lx, hm, n0, n1⟩
      have m1 : CMul num num := .inl ⟨by omega, by omega⟩
      have m2 : CMul 48271 num := .inl ⟨by decide, by decide⟩
      have le : (xs.map V.int).length ≤ 1000 := by rw [List.length_map]; omega
      have ls := small1000 le
      have z0 := Int.emod_nonneg (num * num + 48271 * num + (0 + (i : Int))) (show (2147483647 : Int) ≠ 0 by decide)
      have z1 := Int.emod_lt_of_pos (num * num + 48271 * num + (0 + (i : Int))) (show (0 : Int) < 2147483647 by decide)
      have m3 : ∀ y, CMul ((num * num + 48271 * num + (0 + (i : Int))) % 2147483647) y := fun y => .inl ⟨by omega, by omega⟩
      have m4 := m3 ((num * num + 48271 * num + (0 + (i : Int))) % 2147483647 / 613 + 40692)
      clean_wf
      intro H2 b2 g2
      generalize (num * num + 48271 * num + (0 + (i : Int))) % 2147483647 = w at z0 z1 m4 g2 ⊢
      have y0 := Int.emod_nonneg (w * (w / 613 + 40692)) (show (2147483399 : Int) ≠ 0 by decide)
      have y1 := Int.emod_lt_of_pos (w * (w / 613 + 40692)) (show (0 : Int) < 2147483399 by decide)
      refine ⟨_, _, xs ++ [w * (w / 613 + 40692) % 2147483399], rfl, b2.same sm hl, by rw [g2, List.map_append]; rfl, by rw [List.length_append, lx]; rfl, fun x hx => ?_, z0, by omega⟩
      rcases List.mem_append.mp hx with z | z
      · exact hm x z
      · rw [List.mem_singleton.mp z]
        exact ⟨y0, by omega⟩
    rintro σ H' ⟨v, num, xs, rfl, sm, hl', lx, hm, n0, n1⟩
    clean_wf
    intro q H2 hq s2 g2
    rw [cut1] at g2
    refine k H2 q (xs.drop 1) (sm.trans s2) (sm.free hq) g2 (by rw [List.length_drop, lx]; omega) fun x hx => hm x (List.mem_of_mem_drop hx)
  clean_wf
  refine ite2 (fun _ => ?_) fun _ => ?_
  · clean_wf
    refine ⟨_, rfl, by omega, by omega, ?_⟩
    refine for_range (fun i σ H' => ∃ v r xs, σ = [some (.int c), some (.int n), some (.ref l), some (.int r), v, none] ∧ Same H H' ∧ H' l = some (.lst ((xs : List Int).map V.int)) ∧ xs.length = i ∧ (∀ x ∈ xs, Mx x))
      ⟨none, _, [], rfl, s1, g1, rfl, (fun _ z => nomatch z)⟩ ?_ ?_
    · rintro i σ H' hi ⟨v, r, xs, rfl, sm, hl', lx, hm⟩
      have le : (xs.map V.int).length ≤ 1000 := by rw [List.length_map]; omega
      have ls := small1000 le
      have cd : ∀ z, CDivB z (10 ^ (10 : Int).toNat) := fun z => ⟨pow10p, by rw [pow10]; decide⟩
      have cd1 := cd r
      clean_wf
      intro H2 b2 g2
      clean_wf
      refine ⟨_, _, xs ++ [r % 10 ^ (10 : Int).toNat], rfl, b2.same sm hl, by rw [g2, List.map_append]; rfl, by rw [List.length_append, lx]; rfl, fun x hx => ?_⟩
      rcases List.mem_append.mp hx with z | z
      · exact hm x z
      · rw [List.mem_singleton.mp z, pow10]
        exact ⟨Int.emod_nonneg _ (by decide), Int.emod_lt_of_pos _ (by decide)⟩
    rintro σ H' ⟨v, r, xs, rfl, sm, hl', lx, hm⟩
    clean_wf
    exact k H' l xs sm hl hl' (by omega) hm
  · exact rest _ _ ⟨rfl, s1, g1⟩
theorem any_int (ns : List Int) (h : Int) : ((ns.map PyData.int).any fun z => z.eqv (.int h)) = decide (h ∈ ns) := by
  rw [List.any_map, Bool.eq_iff_iff, List.any_eq_true, decide_eq_true_iff]
  constructor
  · rintro ⟨x, hx, e⟩
    have : x = h := by
      have e' : (x == h) = true := e
      exact eq_of_beq e'
    exact this ▸ hx
  · intro hh
    exact ⟨h, hh, beq_self_eq_true (a := h)⟩
theorem dps_ints {K : PySem.W.Frag} {H : Hp} : ∀ ns : List Int, Dps K H (ns.map V.int) (ns.map PyData.int)
  | [] => .nil
  | n :: ns => .cons (.int n) (dps_ints ns)
theorem lay_ints : ∀ ns : List Int, PyData.canLayAll0 (ns.map PyData.int) = true
  | [] => rfl
  | n :: ns => by rw [List.map_cons, PyData.canLayAll0.eq_2, lay_ints ns]; rfl
theorem x_ninI {K : PySem.W.Frag} {H : Hp} {Q : VK} {a : Addr} {ns : List Int} {h : Int} (ha : SqL K H a (ns.map V.int)) (q : Q (.bl (!decide (h ∈ ns))) H) : rInP K true (.int h) (.ref a) H Q :=
  ⟨a, _, _, _, rfl, .inl ha, dps_ints ns, .int h, lay_ints ns, rfl, by show 0 ≤ 60; decide, by rw [any_int]; exact q⟩
theorem x_inI {K : PySem.W.Frag} {H : Hp} {Q : VK} {a : Addr} {ns : List Int} {h : Int} (ha : SqL K H a (ns.map V.int)) (q : Q (.bl (decide (h ∈ ns))) H) : rInP K false (.int h) (.ref a) H Q :=
  ⟨a, _, _, _, rfl, .inl ha, dps_ints ns, .int h, lay_ints ns, rfl, by show 0 ≤ 60; decide, by rw [any_int]; exact q⟩
theorem range_hs {n : Nat} (h : n ≤ 63) : Hs ((List.range n).map fun (i : Nat) => (i : Int)) := by
  refine ⟨?_, fun x hx => ?_⟩
  · rw [List.pairwise_map]
    exact List.pairwise_lt_range.imp fun h => by omega
  · obtain ⟨i, hi, rfl⟩ := List.mem_map.mp hx
    have := List.mem_range.mp hi
    omega
theorem sorted_hs {ms ns : List Int} (pm : ms.Perm ns) (so : ms.Pairwise (· ≤ ·)) (nd : ns.Nodup) (rg : ∀ x ∈ ns, 0 ≤ x ∧ x < 63) : Hs ms := by
  refine ⟨?_, fun x hx => rg x (pm.mem_iff.mp hx)⟩
  have n2 := pm.nodup_iff.mpr nd
  exact so.and n2 |>.imp fun ⟨a, b⟩ => by omega
theorem at_int {xs : List Int} {i : Nat} (h : i < xs.length) : atI (xs.map V.int) (i : Int) = some (V.int xs[i]) := atI_nat (by rw [List.getElem?_map, List.getElem?_eq_getElem h]; rfl)
theorem at_int' {xs : List Int} {j : Int} (h0 : 0 ≤ j) (h : j.toNat < xs.length) : atI (xs.map V.int) j = some (V.int xs[j.toNat]) := atI_int h0 (by rw [List.getElem?_map, List.getElem?_eq_getElem h]; rfl)
def sp__law_hands (K : PySem.W.Frag) : Sp := fun vs H Q _ => ∃ (c : Int), vs = [.int c] ∧ ∀ H' l (hs : List Int), Same H H' → H l = none → H' l = some (.lst (hs.map V.int)) → Hs hs → hs ≠ [] → hs.length ≤ 6 → Q (.ref l) H'
theorem sc__law_hands : FnScope ["_law_cell", "_law_found", "_law_number"] ["_law_cell"] (defScope s__law_hands) := ⟨rfl, rfl, rfl, by decide +kernel, rfl, by decide +kernel, by decide +kernel⟩
set_option maxHeartbeats 1000000 in
theorem ok__law_hands {f f__law_stream : Addr} {fd fd__law_stream : FuncData} (F : Fun K "_law_hands" "_law_hands" s__law_hands f fd)
    (G__law_stream : FnOk P w K mg base CX0 1 f__law_stream fd__law_stream ["_law_cell", "_law_amount"] (sp__law_stream K)) (C__law_stream : Cal K mg "_law_stream" f__law_stream fd__law_stream ["_law_cell", "_law_amount"]) (h_list : mg "list" = none) (h_range : mg "range" = none) (h_sorted : mg "sorted" = none) : FnOk P w K mg base CX0 2 f fd ["_law_cell"] (sp__law_hands K) := by
  refine F.ok sc__law_hands (fun vs H Q E h => ?_) (fun cdv A outer s H vs Q E hr h => ?_)
  · obtain ⟨c, rfl, _⟩ := h
    rfl
  obtain ⟨c, rfl, h⟩ := h
  have hu64 := hr.units
  have hu0 := hr.units0
  have hu := hu_of hr
  refine ⟨_, (pss_cons (ps_if (pt_cmpR op_eq (pe_op op_mod (pv 0) pe_int) pe_int (nomark _)) (pss_one (ps_ret (pe_callTy (call_listR rfl) (by rfl) h_list PyProof.Rows.boot_list (pa_cons (pe_callTy call_rangeT (by rfl) h_range PyProof.Rows.boot_range (pa_cons (pe_op op_add pe_int (pe_op op_mod (pe_op op_fdiv (pv 0) pe_int) pe_int)) pa_nil)) pa_nil)))) pss_nil)
      (pss_cons (ps_set (i := 1) sc__law_hands.nd rfl (Or.inl rfl) (pe_lst pa_nil))
      (pss_cons (ps_for PassesOwn.never rfl (pi_listK (K := K) rfl (pcall G__law_stream C__law_stream hr (pa_cons (pv 0) (pa_cons (pe_op op_add pe_int (pe_op op_mod (pe_op op_fdiv (pv 0) pe_int) pe_int)) pa_nil)))) (pg_name (i := 2) sc__law_hands.nd rfl (Or.inl rfl))
      (pss_one (ps_if (pt_cmpR (op_ninK (K := K) rfl hu64) (pe_op op_mod (pv 2) pe_int) (pv 1) (by rfl)) (pss_one (ps_expr (pe_appendK (K := K) rfl (pe_bm PySem.F.plainAttrs_list PySem.F.slot_list_append PySem.F.type_list_append mt_append (pv 1) (pa_cons (pe_op op_mod (pv 2) pe_int) pa_nil))))) pss_nil)))
      (pss_one (ps_ret (pe_callB call_sortedL (by rfl) h_sorted PyProof.Rows.boot_sorted (pa_cons (pv 1) pa_nil))))))), ?_⟩
  have r0 := Int.emod_nonneg (c / 3) (show (6 : Int) ≠ 0 by decide)
  have r1 := Int.emod_lt_of_pos (c / 3) (show (0 : Int) < 5 by decide)
  clean_wf
  refine ite2 (fun _ => ?_) fun _ => ?_
  · clean_wf
    refine ⟨_, rfl, fun r hr => ?_⟩
    clean_wf
    have er : (1 + c / 3 % 6) = (((1 + c / 3 % 6).toNat : Nat) : Int) := by omega
    refine ⟨r, (1 + c / 3 % 6).toNat, rfl, by rw [upd_same, ← er], by omega, fun l hl => ?_⟩
    exact h _ l _ ((same_upd hr).trans (same_upd hl)) ((same_upd hr).free hl) upd_same (range_hs (by omega)) (by
      intro z
      have := congrArg List.length z
      rw [List.length_map, List.length_range, List.length_nil] at this
      omega) (by rw [List.length_map, List.length_range]; omega)
  · clean_wf
    intro l H1 hl s1 g1
    clean_wf
    refine ⟨c, _, rfl, by omega, by omega, fun H2 q xs s2 hq g2 lx hm => ?_⟩
    have nlq : q ≠ l := fun z => by rw [z] at hq; rw [hq] at g1; cases g1
    have g12 := s2 _ _ g1
    clean_wf
    refine for_list (xs := xs.map V.int) (fun i σ H' => ∃ v ns, σ = [some (.int c), some (.ref l), v] ∧ Same H H' ∧ H' q = some (.lst (xs.map V.int)) ∧ H' l = some (.lst ((ns : List Int).map V.int)) ∧ ns.Nodup ∧ (∀ x ∈ ns, 0 ≤ x ∧ x < 63) ∧ ns.length ≤ i ∧ (0 < i → ns ≠ []))
      ⟨none, [], rfl, s1.trans s2, g2, g12, .nil, (fun _ z => nomatch z), Nat.le_refl _, fun z => absurd z (Nat.lt_irrefl _)⟩ (fun i σ H' _ z => by obtain ⟨_, _, _, _, z, _⟩ := z; exact SqL.of z) ?_ ?_
    · rintro i x σ H' hx ⟨v, ns, rfl, sm, hq', hl', nd, rg, ln, ne⟩
      obtain ⟨n, hn, rfl⟩ := int_get hx
      have hi := (List.getElem?_eq_some_iff.mp hn).1
      have b0 := Int.emod_nonneg n (show (63 : Int) ≠ 0 by decide)
      have b1 := Int.emod_lt_of_pos n (show (0 : Int) < 63 by decide)
      have le : (ns.map V.int).length ≤ 1000 := by rw [List.length_map]; omega
      have ls := small1000 le
      clean_wf
      refine x_ninI (SqL.of hl') ?_
      clean_wf
      refine ite2 (fun h1 => ?_) fun h1 => ?_
      · have h1 : n % 63 ∉ ns := by
          intro z
          rw [decide_eq_true z] at h1
          cases h1
        clean_wf
        intro H3 b3 g3
        refine ⟨_, ns ++ [n % 63], rfl, b3.same sm hl, b3.at nlq hq', by rw [g3, List.map_append]; rfl, ?_, fun x hx => ?_, by rw [List.length_append]; exact Nat.succ_le_succ ln, fun _ z => by simp at z⟩
        · rw [List.nodup_append]
          refine ⟨nd, by simp, fun a ha b hb => ?_⟩
          rw [List.mem_singleton.mp hb]
          intro z
          exact h1 (z ▸ ha)
        · rcases List.mem_append.mp hx with z | z
          · exact rg x z
          · rw [List.mem_singleton.mp z]
            exact ⟨b0, b1⟩
      · have h1 : n % 63 ∈ ns := by
          by_cases z : n % 63 ∈ ns
          · exact z
          · rw [decide_eq_false z] at h1
            exact absurd rfl h1
        exact ⟨_, ns, rfl, sm, hq', hl', nd, rg, by omega, fun _ z => by rw [z] at h1; cases h1⟩
    rintro σ H' ⟨v, ns, rfl, sm, hq', hl', nd, rg, ln, ne⟩
    rw [List.length_map, lx] at ln ne
    clean_wf
    refine ⟨l, ns, rfl, SqL.of hl', by omega, fun p ms hp pm so => ?_⟩
    exact h _ p ms (sm.trans (same_upd hp)) (sm.free hp) upd_same (sorted_hs pm so nd rg) (fun z => ne (by omega) (by rw [z] at pm; exact pm.symm.eq_nil)) (by rw [pm.length_eq]; omega)
def sp__law_counts (K : PySem.W.Frag) : Sp := fun vs H Q _ => ∃ (a : Addr) (c : Int), vs = [.ref a, .int c] ∧ ∃ xs : List Int, SqL K H a (xs.map V.int) ∧ xs.length = 12 ∧ (∀ x ∈ xs, Mx x) ∧ ∀ H' d m, Same H H' → H d = none → H' d = some (.dK (dI m)) → Ck m → Q (.ref d) H'
theorem sc__law_counts : FnScope ["_law_xs", "_law_cell", "_law_counts_here", "_law_callers", "_law_k"] ["_law_xs", "_law_cell"] (defScope s__law_counts) := ⟨rfl, rfl, rfl, by decide +kernel, rfl, by decide +kernel, by decide +kernel⟩
set_option maxHeartbeats 1000000 in
theorem ok__law_counts {f  : Addr} {fd  : FuncData} (F : Fun K "_law_counts" "_law_counts" s__law_counts f fd) (h_range : mg "range" = none) : FnOk P w K mg base CX0 1 f fd ["_law_xs", "_law_cell"] (sp__law_counts K) := by
  refine F.ok sc__law_counts (fun vs H Q E h => ?_) (fun cdv A outer s H vs Q E hr h => ?_)
  · obtain ⟨a, c, rfl, _⟩ := h
    rfl
  obtain ⟨a, c, rfl, h⟩ := h
  have hu64 := hr.units
  have hu0 := hr.units0
  have hu := hu_of hr
  refine ⟨_, (pss_cons (ps_set (i := 2) sc__law_counts.nd rfl (Or.inl rfl) pe_dnewK)
      (pss_cons (ps_set (i := 3) sc__law_counts.nd rfl (Or.inl rfl) (pe_ix (ix_listK (K := K) rfl) (pe_lst (pa_cons pe_int (pa_cons pe_int pa_nil))) (pe_op op_mod (pe_ix (ix_listK (K := K) rfl) (pv 0) pe_int (fun _ _ => rfl)) pe_int) (fun _ _ => rfl)))
      (pss_cons (ps_for PassesOwn.never rfl (pi_range1 rfl h_range (pa_cons (pe_op op_mod (pe_ix (ix_listK (K := K) rfl) (pv 0) pe_int (fun _ _ => rfl)) pe_int) pa_nil)) (pg_name (i := 4) sc__law_counts.nd rfl (Or.inl rfl))
      (pss_cons (ps_dput hu (pv 2) (pe_op op_mod (pe_ix (ix_listK (K := K) rfl) (pv 0) (pe_op op_add pe_int (pe_op op_mul pe_int (pv 4))) (fun _ _ => rfl)) (pv 3)) (pe_op op_mod (pe_ix (ix_listK (K := K) rfl) (pv 0) (pe_op op_add pe_int (pe_op op_mul pe_int (pv 4))) (fun _ _ => rfl)) pe_int) rfl)
      (pss_one (ps_if (pt_cmpR op_eq (pe_op op_mod (pe_op op_fdiv (pe_ix (ix_listK (K := K) rfl) (pv 0) pe_int (fun _ _ => rfl)) pe_int) pe_int) pe_int (nomark _)) (pss_one (ps_dput hu (pv 2) (pe_op op_mod (pe_ix (ix_listK (K := K) rfl) (pv 0) (pe_op op_add pe_int (pe_op op_mul pe_int (pv 4))) (fun _ _ => rfl)) (pv 3)) (pe_op op_mod (pe_op op_mul (pe_ix (ix_listK (K := K) rfl) (pv 0) (pe_op op_add pe_int (pe_op op_mul pe_int (pv 4))) (fun _ _ => rfl)) (pv 1)) (pe_op op_pow pe_int pe_int)) rfl)) pss_nil))))
      (pss_one (ps_ret (pv 2)))))), ?_⟩
  obtain ⟨xs, hS, lx, hm, k⟩ := h
  have p60 := pow60p
  clean_wf
  intro d H1 hd s1 g1
  clean_wf
  intro l2 H2 hl2 s2 g2
  have hS2 := s2.seq (s1.seq hS)
  have at0 := at_int (xs := xs) (i := 0) (by omega)
  have at1 := at_int (xs := xs) (i := 1) (by omega)
  obtain ⟨z, hz, hz'⟩ := at2 63 4 xs[0]
  have zp : 0 < z ∧ z ≤ 63 := by omega
  have z0 := zp.1
  have m0 := hm _ (List.getElem_mem (l := xs) (n := 0) (by omega))
  clean_wf
  refine ⟨_, rfl, ?_, ?_, ?_⟩
  · have := Int.emod_nonneg xs[1] (show (4 : Int) ≠ 0 by decide); omega
  · have := Int.emod_lt_of_pos xs[1] (show (0 : Int) < 4 by decide); omega
  have q0 := Int.emod_nonneg xs[1] (show (4 : Int) ≠ 0 by decide)
  have q1 := Int.emod_lt_of_pos xs[1] (show (0 : Int) < 4 by decide)
  have gd2 := s2 _ _ g1
  refine for_range (fun i σ H' => ∃ v m, σ = [some (.ref a), some (.int c), some (.ref d), some (.int z), v] ∧ Same H H' ∧ H' d = some (.dK (dI m)) ∧ Ck m)
    ⟨none, [], rfl, s1.trans s2, gd2, .nil⟩ ?_ ?_
  · rintro i σ H' hi ⟨v, m, rfl, sm, hd', cm⟩
    have hS' := sm.seq hS
    have nd := cm.nd
    have lm := cm.len
    have ie : 2 + 2 * (0 + (i : Int)) = ((2 + 2 * i : Nat) : Int) := by omega
    have je : 3 + 2 * (0 + (i : Int)) = ((3 + 2 * i : Nat) : Int) := by omega
    have ati : atI (xs.map V.int) (2 + 2 * (0 + (i : Int))) = some (V.int xs[2 + 2 * i]) := by rw [ie]; exact at_int _
    have atj : atI (xs.map V.int) (3 + 2 * (0 + (i : Int))) = some (V.int xs[3 + 2 * i]) := by rw [je]; exact at_int _
    have m2 : CMul 2 (0 + (i : Int)) := .inl ⟨by decide, by decide⟩
    have mj := hm _ (List.getElem_mem (l := xs) (n := 3 + 2 * i) (by omega))
    have mc : CMul xs[3 + 2 * i] c := .inl ⟨by have := mj.1; omega, by have := mj.2; omega⟩
    have k0 := Int.emod_nonneg xs[2 + 2 * i] (show z ≠ 0 by omega)
    have k1 := Int.emod_lt_of_pos xs[2 + 2 * i] z0
    refine x_cut (fun σ' H2 => σ' = [some (.ref a), some (.int c), some (.ref d), some (.int z), some (.int (0 + (i : Int)))] ∧ ∃ m2, Same H H2 ∧ H2 d = some (.dK (dI m2)) ∧ Ck m2) ?_ fun N rest => ?_
    · rintro σ' H2 ⟨rfl, m2, sm2, hd2, cm2⟩
      have hS2 := sm2.seq hS
      have nd2 := cm2.nd
      have lm2 := cm2.len
      clean_wf
      refine ite2 (fun _ => ?_) fun _ => ?_
      · clean_wf
        intro H3 b3 g3
        exact ⟨_, _, rfl, b3.same sm2 hd, g3, cm2.put k0 (by omega) (Int.emod_nonneg _ (Int.ne_of_gt pow60p))⟩
      · exact ⟨_, _, rfl, sm2, hd2, cm2⟩
    · clean_wf
      intro H3 b3 g3
      exact rest _ _ ⟨rfl, _, b3.same sm hd, g3, cm.put k0 (by omega) (Int.emod_nonneg _ (by decide))⟩
  rintro σ H' ⟨v, m, rfl, sm, hd', cm⟩
  clean_wf
  exact k H' d m sm hd hd' cm

structure RwD (H : Hp) (D : Addr) (ds : List (Int × V)) (du : List (Int × List (Int × Int))) : Prop where
  dc : H D = some (.dK (dG ds))
  rw : Rws H ds du
  nd : (ds.map (·.1)).Nodup
  ln : ds.length ≤ 63
  ap : ∀ q ∈ ds, q.2 ≠ V.ref D
theorem td_get {tb : List (Int × List (Int × Int))} (h : ∀ e ∈ tb, Td e.2) (x : Int) : Td ((tbl tb x).getD []) := by
  cases e : tbl tb x with
  | none => exact Td.nil
  | some m => exact h _ (tbl_mem e)
theorem rws_at {H : Hp} : ∀ {rs : List (Int × V)} {tb : List (Int × List (Int × Int))}, Rws H rs tb → ∀ q ∈ rs, ∃ r m, q.2 = V.ref r ∧ H r = some (.dK (dI m))
  | _, _, .cons ⟨_, r, e2, e3⟩ t, q, hq => by
    rcases List.mem_cons.mp hq with z | z
    · rw [z]; exact ⟨r, _, e2, e3⟩
    · exact rws_at t q z
theorem len_more {hs : List Int} (h : hs.length ≤ 6) : (hs63.filter fun x => !decide (x ∈ hs)) ≠ [] := by
  intro z
  have h2 : ∀ x ∈ hs63, x ∈ hs := fun x hx => by
    have := List.filter_eq_nil_iff.mp z x hx
    simpa using this
  have := nd_len (l := hs63) (hs63_up.imp fun h => by omega) (m := hs) h2
  have l63 : hs63.length = 63 := by decide +kernel
  omega
def sp__law_more (K : PySem.W.Frag) : Sp := fun vs H Q _ => ∃ (a : Addr) (c : Int), vs = [.ref a, .int c] ∧ ∃ hs : List Int, H a = some (.lst (hs.map V.int)) ∧ hs.length ≤ 6 ∧ ∀ H' x, Same H H' → 0 ≤ x → x < 63 → x ∉ hs → Q (.int x) H'
theorem take63 (i : Nat) (hi : i < 63) : hs63.take (i + 1) = hs63.take i ++ [(i : Int)] := by
  have : hs63[i]? = some (i : Int) := by
    unfold hs63
    rw [List.getElem?_map, List.getElem?_range hi]
    rfl
  exact take_get this
theorem sc__law_more : FnScope ["_law_hands_here", "_law_cell", "_law_rest"] ["_law_hands_here", "_law_cell"] (defScope s__law_more) := ⟨rfl, rfl, rfl, by decide +kernel, rfl, by decide +kernel, by decide +kernel⟩
set_option maxHeartbeats 1000000 in
theorem ok__law_more {f  : Addr} {fd  : FuncData} (F : Fun K "_law_more" "_law_more" s__law_more f fd) (h_len : mg "len" = none) (h_range : mg "range" = none) : FnOk P w K mg base CX0 1 f fd ["_law_hands_here", "_law_cell"] (sp__law_more K) := by
  refine F.ok sc__law_more (fun vs H Q E h => ?_) (fun cdv A outer s H vs Q E hr h => ?_)
  · obtain ⟨a, c, rfl, _⟩ := h
    rfl
  obtain ⟨a, c, rfl, h⟩ := h
  have hu64 := hr.units
  have hu0 := hr.units0
  have hu := hu_of hr
  refine ⟨_, (pss_cons (ps_comp (i := 2) ["_law_hands_here", "_law_hand"] [some 0, none] sc__law_more.nd rfl (Or.inl rfl) rfl rfl (by kernel_rfl) (pi_range1 rfl h_range (pa_cons pe_int pa_nil)) (fun _ _ _ _ _ nd => pg_name (i := 1) nd rfl (Or.inl rfl)) (fun _ _ _ _ _ => (pif_one (pt_cmpR (op_ninK (K := K) rfl hu64) (pv 1) (pv 0) (by rfl)))) (fun _ _ _ _ _ => (pv 1)))
      (pss_one (ps_ret (pe_ix (ix_listK (K := K) rfl) (pv 2) (pe_op op_mod (pv 1) (pe_callB (call_lenK (K := K) rfl) (by rfl) h_len PySem.boot_len (pa_cons (pv 2) pa_nil))) (fun _ _ => rfl))))), ?_⟩
  obtain ⟨hs, ha, lh, k⟩ := h
  clean_wf
  refine ⟨63, rfl, by decide, by decide, fun D hD => ?_⟩
  refine comp_range (fun i σ H' => ∃ v, σ = [some (.ref a), v] ∧ Same H H' ∧ H' D = some (.lst (((hs63.take i).filter fun x => !decide (x ∈ hs)).map V.int))) ⟨none, rfl, same_upd hD, upd_same⟩ ?_ ?_
  · rintro i σ H' hi ⟨v, rfl, sm, hDx⟩
    have hi : i < 63 := hi
    have ha' := sm _ _ ha
    have lf : (((hs63.take i).filter fun x => !decide (x ∈ hs)).map V.int).length ≤ i := by
      rw [List.length_map]
      exact Nat.le_trans (List.length_filter_le _ _) (List.length_take_le _ _)
    clean_wf
    refine x_ninI (SqL.of ha') ?_
    rw [Int.zero_add]
    clean_wf
    refine ite2 (fun h1 => ?_) fun h1 => ?_
    · clean_wf
      refine ⟨_, hDx, small1000 (by omega), _, rfl, fun b o z => ?_, ?_⟩
      · rw [upd_ne (ne_of_none z hD)]
        exact sm b o z
      · rw [upd_same, take63 i hi, List.filter_append, List.map_append]
        congr 2
        simp [h1]
    · refine ⟨_, rfl, sm, ?_⟩
      rw [hDx, take63 i hi, List.filter_append, List.map_append]
      congr 1
      simp at h1
      simp [h1]
  rintro σ H' ⟨v, rfl, sm, hDx⟩
  rw [show hs63.take (63 : Int).toNat = hs63 by decide +kernel] at hDx
  have ne := len_more lh
  have mL : ∀ x ∈ hs63.filter (fun x => !decide (x ∈ hs)), 0 ≤ x ∧ x < 63 ∧ x ∉ hs := fun x hx => by
    obtain ⟨h1, h2⟩ := List.mem_filter.mp hx
    have := mem_hs.mp h1
    exact ⟨this.1, this.2, by simpa using h2⟩
  generalize hs63.filter (fun x => !decide (x ∈ hs)) = L at hDx ne mL
  have pl : 0 < (((L.map V.int).length : Nat) : Int) := by rw [List.length_map]; have := List.length_pos_iff.mpr ne; omega
  have q0 := Int.emod_nonneg c (show (((L.map V.int).length : Nat) : Int) ≠ 0 by omega)
  have q1 := Int.emod_lt_of_pos c pl
  have q2 : (c % (((L.map V.int).length : Nat) : Int)).toNat < L.length := by
    have e : (L.map V.int).length = L.length := List.length_map _
    omega
  have at1 := at_int' (xs := L) q0 q2
  clean_wf
  have m := mL _ (List.getElem_mem q2)
  exact k H' _ sm m.1 m.2.1 m.2.2
end
end K34


namespace K34
open PySem L2
abbrev s__law_learn : Stmt := top 19
section
variable {P : Program} {w : World} {K : PySem.W.Frag} {mg : Str → Option Value} {base : Heap}

structure Du (H : Hp) (D : Addr) (ds : List (Int × V)) (du : List (Int × List (Int × Int))) : Prop where
  dc : H D = some (.dK (dG ds))
  rw : Rws H ds du
  nd : (ds.map (·.1)).Nodup
  rg : ∀ q ∈ ds, 0 ≤ q.1 ∧ q.1 < 63
  ap : ∀ q ∈ ds, q.2 ≠ V.ref D
  inj : ∀ q ∈ ds, ∀ q' ∈ ds, q.2 = q'.2 → q.1 = q'.1
  td : ∀ e ∈ du, Td e.2
theorem Du.len {H : Hp} {D : Addr} {ds : List (Int × V)} {du : List (Int × List (Int × Int))} (g : Du H D ds du) : ds.length < 64 := by
  have := hs_len g.nd (fun k hk => by obtain ⟨p, hp, e⟩ := List.mem_map.mp hk; rw [← e]; exact g.rg p hp)
  rw [List.length_map] at this
  exact this

def dw (du : List (Int × List (Int × Int))) (h k : Int) : Int := ct ((tbl du h).getD []) k
theorem rws_upd2 {H H' : Hp} {h : Int} {r : Addr} {j : List (Int × Int)} (kp : ∀ b o, b ≠ r → H b = some o → H' b = some o) (hr : H' r = some (.dK (dI j))) : ∀ {rs : List (Int × V)} {tb : List (Int × List (Int × Int))}, (∀ q ∈ rs, q.2 = .ref r ↔ q.1 = h) → Rws H rs tb → Rws H' rs (putT tb h j)
  | _, _, _, .nil => .nil
  | q :: rs, e :: tb, hk, .cons ⟨e1, r2, e2, e3⟩ t => by
    have e0 : putT (e :: tb) h j = (if e.1 = h then (e.1, j) else e) :: putT tb h j := rfl
    rw [e0]
    refine .cons ?_ (rws_upd2 kp hr (fun q hq => hk q (List.mem_cons_of_mem _ hq)) t)
    by_cases z : e.1 = h
    · rw [if_pos z]
      exact ⟨e1, r, (hk q List.mem_cons_self).mpr (e1.trans z), hr⟩
    · rw [if_neg z]
      have nr : r2 ≠ r := fun w => z (e1.symm.trans ((hk q List.mem_cons_self).mp (by rw [e2, w])))
      exact ⟨e1, r2, e2, kp _ _ nr e3⟩
theorem putG_new {m : List (Int × V)} {k : Int} {v : V} : lkG m k = none → putG m k v = m ++ [(k, v)] := by
  induction m with
  | nil => intro _; rfl
  | cons p m ih =>
    intro h
    unfold lkG at h
    unfold putG
    by_cases z : p.1 = k
    · rw [if_pos z] at h; cases h
    · rw [if_neg z] at h ⊢
      rw [ih h]
      rfl
theorem lkg_snoc {m : List (Int × V)} {k : Int} {v : V} : lkG m k = none → lkG (m ++ [(k, v)]) k = some v := by
  induction m with
  | nil => intro _; show (if k = k then some v else none) = _; rw [if_pos rfl]
  | cons p m ih =>
    intro h
    unfold lkG at h
    show (if p.1 = k then some p.2 else lkG (m ++ [(k, v)]) k) = _
    by_cases z : p.1 = k
    · rw [if_pos z] at h; cases h
    · rw [if_neg z] at h ⊢
      exact ih h
theorem tbl_snoc {du : List (Int × List (Int × Int))} {h k : Int} {m : List (Int × Int)} (hn : tbl du h = none) : tbl (du ++ [(h, m)]) k = if k = h then some m else tbl du k := by
  induction du with
  | nil =>
    show (if h = k then some m else none) = _
    by_cases z : k = h
    · rw [if_pos z, if_pos z.symm]
    · rw [if_neg z, if_neg (fun w => z w.symm)]; rfl
  | cons e du ih =>
    unfold tbl at hn
    show tbl (e :: (du ++ [(h, m)])) k = _
    unfold tbl
    by_cases z : e.1 = h
    · rw [if_pos z] at hn; cases hn
    · rw [if_neg z] at hn
      rw [ih hn]
      by_cases w : e.1 = k
      · rw [if_pos w, if_neg (fun u => z (w.trans u)), if_pos w]
      · rw [if_neg w, if_neg w]
def sp__law_learn (K : PySem.W.Frag) : Sp := fun vs H Q _ => ∃ (D : Addr) (h : Int) (c : Addr), vs = [.ref D, .int h, .ref c] ∧ ∃ ds du n, Du H D ds du ∧ 0 ≤ h ∧ h < 63 ∧ H c = some (.dK (dI n)) ∧ Ck n ∧ c ≠ D ∧ (∀ q ∈ ds, q.2 ≠ V.ref c) ∧
  ∀ H' ds' du', (∀ b o, b ≠ D → (∀ q ∈ ds, q.2 ≠ V.ref b) → H b = some o → H' b = some o) → Du H' D ds' du' → (∀ g k, dw du' g k = if g = h then max (dw du g k) (ct n k) else dw du g k) → (∀ q ∈ ds', q ∈ ds ∨ ∃ r, q.2 = .ref r ∧ H r = none) → (∀ q ∈ ds, q ∈ ds') → Q .non H'
theorem sc__law_learn : FnScope ["_law_due", "_law_hand", "_law_counts_here", "_law_row", "_law_caller", "_law_count"] ["_law_due", "_law_hand", "_law_counts_here"] (defScope s__law_learn) := ⟨rfl, rfl, rfl, by decide +kernel, rfl, by decide +kernel, by decide +kernel⟩
set_option maxHeartbeats 4000000 in
theorem ok__law_learn {f  : Addr} {fd  : FuncData} (F : Fun K "_law_learn" "_law_learn" s__law_learn f fd) : FnOk P w K mg base CX0 1 f fd ["_law_due", "_law_hand", "_law_counts_here"] (sp__law_learn K) := by
  refine F.ok sc__law_learn (fun vs H Q E h => ?_) (fun cdv A outer s H vs Q E hr h => ?_)
  · obtain ⟨D, x, c, rfl, _⟩ := h
    rfl
  obtain ⟨D, x, c, rfl, h⟩ := h
  have hu64 := hr.units
  have hu0 := hr.units0
  have hu := hu_of hr
  refine ⟨_, (pss_cons (ps_set (i := 3) sc__law_learn.nd rfl (Or.inl rfl) (pe_bm PySem.F.plainAttrs_dict PySem.F.slot_dict_setdefault PySem.F.type_dict_setdefault mt_dsetdef (pv 0) (pa_cons (pv 1) (pa_cons pe_dnewK pa_nil))))
      (pss_one (ps_thaw (ps_for PassesOwn.never rfl (pi_items (pv 2)) (pg_tupK (K := K) (n := 2) rfl rfl (pgs_cons (pg_name (i := 4) sc__law_learn.nd rfl (Or.inl rfl)) (pgs_cons (pg_name (i := 5) sc__law_learn.nd rfl (Or.inl rfl)) pgs_nil)))
      (pss_one (ps_if (pt_cmpR op_gt (pv 5) (pe_dget2 hu (pv 3) (pv 4) pe_int ⟨rfl, rfl, rfl, rfl⟩) (nomark _)) (pss_one (ps_dput hu (pv 3) (pv 4) (pv 5) rfl)) pss_nil)))))), ?_⟩
  obtain ⟨ds, du, n, g, x0, x1, hc, cn, ncD, ncr, k⟩ := h
  have gl := g.len
  have hD := g.dc
  clean_wf
  intro r0 H1 hr0 s1 g1
  refine x_setd (s1 _ _ hD) g.nd (by omega) fun v H2 hv => ?_
  obtain ⟨r, ds2, du2, m1, rfl, s2, g2, er, em1, f2, f3, f4⟩ : ∃ r ds2 du2 m1, v = .ref r ∧ (∀ b o, b ≠ D → H b = some o → H2 b = some o) ∧ Du H2 D ds2 du2 ∧ lkG ds2 x = some (.ref r) ∧ tbl du2 x = some m1 ∧ (∀ g k, dw du2 g k = dw du g k) ∧ (∀ q ∈ ds2, q ∈ ds ∨ q.2 = .ref r ∧ H r = none) ∧ (∀ q ∈ ds, q ∈ ds2) := by
    rcases hv with ⟨e1, rfl⟩ | ⟨e1, rfl, rfl⟩
    · rcases g.rw.lk x with ⟨z, _⟩ | ⟨r, m, z1, z2, z3⟩
      · rw [z] at e1; cases e1
      · rw [z1] at e1
        cases e1
        exact ⟨r, ds, du, m, rfl, fun b o _ e => s1 _ _ e, ⟨s1 _ _ g.dc, rws_same (fun _ _ q => s1 _ _ q) g.rw, g.nd, g.rg, g.ap, g.inj, g.td⟩, z1, z2, fun _ _ => rfl, fun q hq => .inl hq, fun q hq => hq⟩
    · rcases g.rw.lk x with ⟨_, z⟩ | ⟨r, m, z1, z2, z3⟩
      rotate_left
      · rw [z1] at e1; cases e1
      have nD : r0 ≠ D := fun w => by rw [w, hD] at hr0; cases hr0
      have eD := putG_new (v := .ref r0) e1
      refine ⟨r0, ds ++ [(x, .ref r0)], du ++ [(x, [])], [], rfl, fun b o nb e => by rw [upd_ne nb]; exact s1 _ _ e, ⟨by rw [upd_same, eD], rws_snoc (rws_but (rws_same (fun _ _ q => s1 _ _ q) g.rw) g.ap fun r o n e => by rw [upd_ne n]; exact e) ⟨rfl, r0, rfl, by rw [upd_ne nD]; exact g1⟩, ?_, ?_, ?_, ?_, ?_⟩, ?_, ?_, ?_, ?_, fun q hq => List.mem_append_left _ hq⟩
      · rw [List.map_append, List.nodup_append]
        refine ⟨g.nd, by simp, fun a ha b hb => ?_⟩
        rw [List.map_cons, List.map_nil, List.mem_singleton] at hb
        intro w
        rw [w, hb, g.rw.keys] at ha
        have := tbl_key.mpr ha
        rw [z] at this
        cases this
      · intro q hq
        rcases List.mem_append.mp hq with w | w
        · exact g.rg q w
        · rw [List.mem_singleton.mp w]; exact ⟨x0, x1⟩
      · intro q hq
        rcases List.mem_append.mp hq with w | w
        · exact g.ap q w
        · rw [List.mem_singleton.mp w]
          intro u
          cases u
          exact nD rfl
      · have old : ∀ q ∈ ds, q.2 ≠ .ref r0 := fun q hq w => rws_ne g.rw hr0 q hq w
        intro q hq q' hq' e
        rcases List.mem_append.mp hq with w | w <;> rcases List.mem_append.mp hq' with w' | w'
        · exact g.inj q w q' w' e
        · rw [List.mem_singleton.mp w'] at e
          exact absurd e (old q w)
        · rw [List.mem_singleton.mp w] at e
          exact absurd e.symm (old q' w')
        · rw [List.mem_singleton.mp w, List.mem_singleton.mp w']
      · intro e he
        rcases List.mem_append.mp he with w | w
        · exact g.td e w
        · rw [List.mem_singleton.mp w]; exact .nil
      · exact lkg_snoc e1
      · rw [tbl_snoc z, if_pos rfl]
      · intro g' k'
        unfold dw
        rw [tbl_snoc z]
        by_cases w : g' = x
        · rw [if_pos w, w, z]; rfl
        · rw [if_neg w]
      · intro q hq
        rcases List.mem_append.mp hq with w | w
        · exact .inl w
        · rw [List.mem_singleton.mp w]; exact .inr ⟨rfl, hr0⟩
  have rmem := lkg_mem er
  have hr2 : H2 r = some (.dK (dI m1)) := by
    rcases g2.rw.lk x with ⟨z, _⟩ | ⟨r', m, z1, z2, z3⟩
    · rw [z] at er; cases er
    · rw [z1] at er
      cases er
      rw [z2] at em1
      cases em1
      exact z3
  have nrD : r ≠ D := fun z => g2.ap _ rmem (by rw [z])
  have nrc : r ≠ c := fun z => by
    rcases f3 _ rmem with w | ⟨_, w⟩
    · exact ncr _ w (by rw [z])
    · rw [z, hc] at w; cases w
  have hc2 := s2 _ _ ncD hc
  have tm1 : Td m1 := g2.td _ (tbl_mem em1)
  clean_wf
  refine x_items (d := c) hc2 (fun R h => by clean_wf; exact h) (fun i σ A => ∃ v1 v2 j, σ = [some (.ref D), some (.int x), some (.ref c), some (.ref r), v1, v2] ∧ (∀ b o, b ≠ c → b ≠ r → H2 b = some o → A b = some o) ∧ A r = some (.dK (dI j)) ∧ Td j ∧ ∀ k, ct j k = if k ∈ (n.take i).map (·.1) ∧ ct m1 k < ct n k then ct n k else ct m1 k)
    (fun A o hA s => ⟨none, none, m1, rfl, fun b o nb _ e => s b o nb e, s _ _ nrc hr2, tm1, fun k => by rw [if_neg (by simp)]⟩) ?_ ?_
  · rintro i ky v t σ A A1 o hkv ⟨v1, v2, j, rfl, sA, hA2, tj, hj⟩ hA ht t2 g3
    obtain ⟨q, hq, rfl, rfl⟩ := dI_get hkv
    have pm := List.mem_of_getElem? hq
    have g4 : A1 t = some (.tup [.int q.1, .int q.2]) := g3
    have hr3 := t2 _ _ hA2
    have ndj := tj.nd
    have lj := tj.len
    have pr := cn.rg q pm
    have cnp : ct n q.1 = q.2 := ct_of cn.nd pm
    have pnot : q.1 ∉ (n.take i).map (·.1) := by
      intro z
      have nd := cn.nd
      rw [← List.take_append_drop i n, List.map_append, List.nodup_append] at nd
      refine nd.2.2 _ z q.1 ?_ rfl
      have hi := (List.getElem?_eq_some_iff.mp hq).1
      rw [List.drop_eq_getElem_cons hi, List.map_cons, (List.getElem?_eq_some_iff.mp hq).2]
      exact List.mem_cons_self
    have cjp : ct j q.1 = ct m1 q.1 := by rw [hj, if_neg fun z => pnot z.1]
    have step : ∀ (j' : List (Int × Int)), (∀ k, ct j' k = if k = q.1 then (if ct m1 q.1 < q.2 then q.2 else ct m1 q.1) else ct j k) → ∀ k, ct j' k = if k ∈ (n.take (i + 1)).map (·.1) ∧ ct m1 k < ct n k then ct n k else ct m1 k := by
      intro j' hj' k
      rw [hj', take_get hq, List.map_append]
      by_cases e : k = q.1
      · rw [if_pos e, e, cnp]
        by_cases w : ct m1 q.1 < q.2
        · rw [if_pos w, if_pos ⟨by simp, w⟩]
        · rw [if_neg w, if_neg (fun z => w z.2)]
      · rw [if_neg e, hj]
        have : k ∈ (n.take i).map (·.1) ++ [q].map (·.1) ↔ k ∈ (n.take i).map (·.1) := by simp [e]
        simp only [this]
    clean_wf
    refine ite2 (fun h1 => ?_) fun h1 => ?_
    · have h1 : ct j q.1 < q.2 := of_decide_eq_true h1
      have cj0 := tj.toCk.ct q.1
      clean_wf
      intro H3 b3 g5
      refine ⟨b3.at nrc.symm (t2 _ _ hA), _, _, _, rfl, fun b o nb nb2 e => b3.at nb2 (t2 _ _ (sA b o nb nb2 e)), g5, ⟨tj.toCk.put pr.1 pr.2 (by omega), fun e he => ?_⟩, step _ fun k => ?_⟩
      · rcases put_vals _ _ _ _ he with z | z
        · rw [z]; show 0 < q.2; omega
        · exact tj.ps e z
      · rw [ct_put, if_pos (show ct m1 q.1 < q.2 by omega)]
    · have h1 : ¬ ct j q.1 < q.2 := fun z => h1 (decide_eq_true z)
      refine ⟨t2 _ _ hA, _, _, j, rfl, fun b o nb nb2 e => t2 _ _ (sA b o nb nb2 e), hr3, tj, step _ fun k => ?_⟩
      by_cases e : k = q.1
      · rw [if_pos e, if_neg (by omega), e, cjp]
      · rw [if_neg e]
  · rintro σ A ⟨v1, v2, j, rfl, sA, hA2, tj, hj⟩
    rw [dI_len, List.take_length] at hj
    have mxj : ∀ y, IsMx [m1, n] y (ct j y) := fun y => by
      rw [hj]
      by_cases w : y ∈ n.map (·.1) ∧ ct m1 y < ct n y
      · rw [if_pos w]
        exact ⟨⟨n, by simp, rfl⟩, fun z hz => by rcases List.mem_cons.mp hz with rfl | hz; exact Int.le_of_lt w.2; rw [List.mem_singleton.mp hz]; exact Int.le_refl _⟩
      · rw [if_neg w]
        refine ⟨⟨m1, by simp, rfl⟩, fun z hz => ?_⟩
        rcases List.mem_cons.mp hz with rfl | hz
        · exact Int.le_refl _
        · rw [List.mem_singleton.mp hz]
          by_cases z : y ∈ n.map (·.1)
          · exact Int.not_lt.mp fun q => w ⟨z, q⟩
          · rw [ct_out z]
            exact tm1.toCk.ct y
    -- from the heap behind learn to the end: only the row has changed
    have kp : ∀ b o, b ≠ r → H2 b = some o → (upd A c (.dK (dI n))) b = some o := fun b o nb e => by
      by_cases z : b = c
      · subst z
        rw [hc2] at e
        cases e
        exact upd_same
      · rw [upd_ne z]
        exact sA b o z nb e
    have gr : (upd A c (.dK (dI n))) r = some (.dK (dI j)) := by rw [upd_ne nrc]; exact hA2
    generalize upd A c (.dK (dI n)) = H9 at kp gr ⊢
    have hkey : ∀ q ∈ ds2, q.2 = .ref r ↔ q.1 = x := fun q hq => ⟨fun z => g2.inj q hq _ rmem z, fun z => by
      have := lkg_of (k := q.1) (v := q.2) g2.nd hq
      rw [z, er] at this
      exact (Option.some.inj this).symm⟩
    have rw9 : Rws H9 ds2 (putT du2 x j) := rws_upd2 kp gr hkey g2.rw
    refine k H9 ds2 (putT du2 x j) (fun b o nb nr e => ?_) ⟨kp _ _ nrD.symm g2.dc, rw9, g2.nd, g2.rg, g2.ap, g2.inj, fun e he => ?_⟩ (fun g' k' => ?_) (fun q hq => ?_) f4
    · refine kp b o (fun z => ?_) (s2 _ _ nb e)
      rcases f3 _ rmem with w | ⟨_, w⟩
      · exact nr _ w (by rw [z])
      · rw [z, w] at e; cases e
    · obtain ⟨e0, h0, rfl⟩ := List.mem_map.mp he
      by_cases w : e0.1 = x
      · rw [if_pos w]; exact tj
      · rw [if_neg w]; exact g2.td e0 h0
    · rw [← f2 g' k']
      unfold dw
      rw [putT_tbl]
      by_cases w : g' = x
      · rw [if_pos w, if_pos ⟨w, by rw [em1]; rfl⟩, w, em1]
        exact isMx_max2 (mxj k')
      · rw [if_neg w, if_neg (fun u => w u.1)]
    · rcases f3 q hq with w | ⟨w1, w2⟩
      · exact .inl w
      · exact .inr ⟨r, w1, w2⟩
end
end K34


namespace K34
open PySem L2
abbrev s__law_listed : Stmt := top 20
section
variable {P : Program} {w : World} {K : PySem.W.Frag} {mg : Str → Option Value} {base : Heap}

def canD (du : List (Int × List (Int × Int))) (S : List Int) : List (Int × List (Int × Int)) := (S.filter fun h => !(canR (dw du h)).isEmpty).map fun h => (h, canR (dw du h))
theorem x_neNilT {K : PySem.W.Frag} {H : Hp} {Q : VK} {a b : Addr} {xs : List V} {ds : List PyData} (ha : SqT K H a xs) (hx : Dps K H xs ds) (hl : PyData.canLayAll0 ds = true) (hb : SqT K H b []) (q : Q (.bl (!decide (ds = []))) H) : rNeP K (.ref a) (.ref b) H Q := by
  refine ⟨.tuple ds, .tuple [], .inl (.tup ha hx), .inl (.tup hb .nil), by first | (rw [PyData.canLay0.eq_5]; exact hl) | (rw [PyData.canLay0.eq_6]; exact hl) | (rw [PyData.canLay0.eq_7]; exact hl), rfl, by have : (PyData.tuple []).depth = 1 := rfl; omega, ?_⟩
  have e : (PyData.tuple ds).eqv (.tuple []) = decide (ds = []) := by
    cases ds with
    | nil => rfl
    | cons d ds => rw [decide_eq_false (by intro z; cases z)]; rfl
  rw [e]
  exact q
theorem prs_can {m : List (Int × Int)} {S : List Int} (t : Td m) (pm : S.Perm (m.map (·.1))) (so : S.Pairwise (· ≤ ·)) : prs S (ct m) = canR (ct m) := by
  rw [← PKm_can t.toCk pm so]
  unfold prs PKm
  congr 1
  exact (List.filter_eq_self.mpr fun k hk => decide_eq_true (t.pos (pm.mem_iff.mp hk))).symm
theorem canD_snoc {du : List (Int × List (Int × Int))} {S : List Int} {i : Nat} {h : Int} (hh : S[i]? = some h) : canD du (S.take (i + 1)) = canD du (S.take i) ++ if (canR (dw du h)).isEmpty then [] else [(h, canR (dw du h))] := by
  unfold canD
  rw [take_get hh, List.filter_append, List.map_append]
  congr 1
  cases z : (canR (dw du h)).isEmpty <;> simp [z]
def sp__law_listed (K : PySem.W.Frag) : Sp := fun vs H Q _ => ∃ (D : Addr), vs = [.ref D] ∧ ∃ ds du, Du H D ds du ∧ ∀ H' t xs S, Same H H' → H t = none → H' t = some (.tup xs) → S.Perm (ds.map (·.1)) → S.Pairwise (· ≤ ·) → LstV H' xs (canD du S) → Q (.ref t) H'
theorem sc__law_listed : FnScope ["_law_due", "_law_found", "_law_hand", "_law_row"] ["_law_due"] (defScope s__law_listed) := ⟨rfl, rfl, rfl, by decide +kernel, rfl, by decide +kernel, by decide +kernel⟩
set_option maxHeartbeats 2000000 in
theorem ok__law_listed {f  : Addr} {fd  : FuncData} (F : Fun K "_law_listed" "_law_listed" s__law_listed f fd) (h_sorted : mg "sorted" = none) (h_tuple : mg "tuple" = none) : FnOk P w K mg base CX0 1 f fd ["_law_due"] (sp__law_listed K) := by
  refine F.ok sc__law_listed (fun vs H Q E h => ?_) (fun cdv A outer s H vs Q E hr h => ?_)
  · obtain ⟨D, rfl, _⟩ := h
    rfl
  obtain ⟨D, rfl, h⟩ := h
  have hu64 := hr.units
  have hu0 := hr.units0
  have hu := hu_of hr
  refine ⟨_, (pss_cons (ps_set (i := 1) sc__law_listed.nd rfl (Or.inl rfl) (pe_lst pa_nil))
      (pss_cons (ps_for PassesOwn.never rfl (pi_listK (K := K) rfl (pe_callB (call_sortedG rfl) (by rfl) h_sorted PyProof.Rows.boot_sorted (pa_cons (pv 0) pa_nil))) (pg_name (i := 2) sc__law_listed.nd rfl (Or.inr rfl))
      (pss_cons (ps_set (i := 3) sc__law_listed.nd rfl (Or.inl rfl) (pe_callTy (call_tupleK (K := K) rfl) (by rfl) h_tuple PyProof.Rows.boot_tuple (pa_cons (pe_comp ["_law_due", "_law_hand", "_law_caller"] [some 0, some 2, none] rfl rfl (by kernel_rfl) (pi_listK (K := K) rfl (pe_callB (call_sortedD rfl) (by rfl) h_sorted PyProof.Rows.boot_sorted (pa_cons (pe_dget hu (pv 0) (pv 2) (fun _ _ => rfl)) pa_nil))) (fun _ _ _ _ _ nd => pg_name (i := 2) nd rfl (Or.inl rfl)) (fun _ _ _ _ _ => pif_nil) (fun _ _ _ _ _ => (pe_tup (pa_cons (pv 2) (pa_cons (pe_dget hu (pe_dget hu (pv 0) (pv 1) (fun _ _ => rfl)) (pv 2) (fun _ _ => rfl)) pa_nil))))) pa_nil)))
      (pss_one (ps_if (pt_cmpR (op_neK (K := K) rfl hu64) (pv 3) (pe_tup pa_nil) (nomark _)) (pss_one (ps_expr (pe_appendK (K := K) rfl (pe_bm PySem.F.plainAttrs_list PySem.F.slot_list_append PySem.F.type_list_append mt_append (pv 1) (pa_cons (pe_tup (pa_cons (pv 2) (pa_cons (pv 3) pa_nil))) pa_nil))))) pss_nil))))
      (pss_one (ps_ret (pe_callTy (call_tupleK (K := K) rfl) (by rfl) h_tuple PyProof.Rows.boot_tuple (pa_cons (pv 1) pa_nil)))))), ?_⟩
  obtain ⟨ds, du, g, k⟩ := h
  have gl := g.len
  clean_wf
  intro l H1 hl s1 g1
  clean_wf
  refine ⟨D, ds, rfl, .inl (s1 _ _ g.dc), gl, fun q S hq pm so => ?_⟩
  have s2 := same_upd (o := .lst (S.map V.int)) hq
  have g2 : (upd H1 q (.lst (S.map V.int))) q = some (.lst (S.map V.int)) := upd_same
  generalize upd H1 q (.lst (S.map V.int)) = H2 at s2 g2 ⊢
  have lS : S.length < 64 := by rw [pm.length_eq, List.length_map]; exact gl
  have nql : q ≠ l := fun z => by rw [z, g1] at hq; cases hq
  refine ⟨q, rfl, ⟨_, SqL.of g2⟩, ?_⟩
  refine for_list (xs := S.map V.int) (fun i σ H' => ∃ v2 v3 ys, σ = [some (.ref D), some (.ref l), v2, v3] ∧ Same H H' ∧ H' q = some (.lst (S.map V.int)) ∧ H' l = some (.lst ys) ∧ ys.length ≤ i ∧ LstV H' ys (canD du (S.take i))) ⟨none, none, [], rfl, s1.trans s2, g2, s2 _ _ g1, Nat.le_refl _, .nil⟩ (fun i σ H' _ z => by obtain ⟨_, _, _, _, _, z, _⟩ := z; exact SqL.of z) ?_ ?_
  · rintro i x σ H' hx ⟨v2, v3, ys, rfl, sm, hq', hl', ly, hy⟩
    obtain ⟨h, hh, rfl⟩ := int_get hx
    have hi := (List.getElem?_eq_some_iff.mp hh).1
    obtain ⟨r, m, e1, e2, e3⟩ : ∃ r m, lkG ds h = some (.ref r) ∧ tbl du h = some m ∧ H r = some (.dK (dI m)) := by
      rcases g.rw.lk h with ⟨_, z⟩ | z
      · have := tbl_key.mpr (show h ∈ du.map (·.1) by rw [← g.rw.keys]; exact pm.mem_iff.mp (List.mem_of_getElem? hh))
        rw [z] at this
        cases this
      · exact z
    have tm := g.td _ (tbl_mem e2)
    have hD' := sm _ _ g.dc
    have hr' := sm _ _ e3
    clean_wf
    refine ⟨r, m, rfl, .inl hr', nd_len64 tm.toCk, fun p T hp pT sT => ?_⟩
    have s3 := same_upd (o := .lst (T.map V.int)) hp
    have g3 : (upd H' p (.lst (T.map V.int))) p = some (.lst (T.map V.int)) := upd_same
    generalize upd H' p (.lst (T.map V.int)) = H3 at s3 g3 ⊢
    have lT : T.length < 64 := by rw [pT.length_eq, List.length_map]; exact nd_len64 tm.toCk
    refine ⟨p, rfl, ⟨_, SqL.of g3⟩, fun E1 hE1 => ?_⟩
    refine comp_list (K := K) (a := p) (xs := T.map V.int) (fun i' σ A => ∃ v zs, σ = [some (.ref D), some (.int h), v] ∧ Same H3 A ∧ A E1 = some (.lst zs) ∧ zs.length ≤ i' ∧ Prs A zs (prs (T.take i') (ct m))) ⟨none, [], rfl, same_upd hE1, upd_same, Nat.le_refl _, .nil⟩ ?_ ?_ ?_
    · rintro i' σ A _ ⟨_, _, _, z, _⟩
      exact SqL.of (z _ _ g3)
    · rintro i' x σ A hx' ⟨v, zs, rfl, sA, hEx, lz, pz⟩
      obtain ⟨c, hc, rfl⟩ := int_get hx'
      have hi' := (List.getElem?_eq_some_iff.mp hc).1
      have hDA := sA _ _ (s3 _ _ hD')
      have hrA := sA _ _ (s3 _ _ hr')
      have hlc : lkI m c = some (ct m c) := lk_ct (pT.mem_iff.mp (List.mem_of_getElem? hc))
      clean_wf
      intro u A1 hu' sA1 gA1
      have hE1' := sA1 _ _ hEx
      refine ⟨zs, hE1', small1000 (by omega), _, _, rfl, fun b o z => ?_, upd_same, by rw [List.length_append]; exact Nat.succ_le_succ lz, ?_⟩
      · rw [upd_ne (ne_of_none z hE1)]
        exact sA1 _ _ (sA b o z)
      · have kp : ∀ a xs, A1 a = some (.tup xs) → (upd A1 E1 (.lst (zs ++ [V.ref u]))) a = some (.tup xs) := fun a xs z => by
          rw [upd_ne (ne_of z hE1' (by intro z; cases z))]
          exact z
        have e : prs (T.take (i' + 1)) (ct m) = prs (T.take i') (ct m) ++ [(c, ct m c)] := by
          unfold prs
          rw [take_get hc, List.map_append]
          rfl
        rw [e]
        exact Prs.snoc (pz.mono fun a xs z => kp _ _ (sA1 _ _ z)) ⟨u, rfl, kp _ _ gA1⟩
    rintro σ A ⟨v, zs, rfl, sA, hEx, lz, pz⟩
    rw [show T.take (T.map V.int).length = T by rw [List.length_map, List.take_length], prs_can tm pT sT] at pz
    clean_wf
    intro u H4 hu4 s4 g4
    have em : dw du h = ct m := by
      funext y
      unfold dw
      rw [e2]
      rfl
    have gu : SqT K H4 u zs := SqT.of g4
    clean_wf
    intro w H5 hw s5 g5
    have z5 : Prs H5 zs (canR (ct m)) := pz.mono fun a xs z => s5 _ _ (s4 _ _ z)
    refine x_neNilT (same_tupQ s5 gu) z5.dps (prs_lay _) (SqT.of g5) ?_
    have t5 : Same H' H5 := s3.trans (sA.trans (s4.trans s5))
    have l5 := t5 _ _ hl'
    have y5 := lstV_up (fun a xs z => t5 _ _ z) hy
    have lls : ys.length < sizeLine := small1000 (by omega)
    clean_wf
    refine ite2 (fun h1 => ?_) fun h1 => ?_
    · have ne : (canR (dw du h)).isEmpty = false := by
        rw [em]
        cases z : canR (ct m) with
        | nil => rw [z] at h1; cases h1
        | cons a b => rfl
      clean_wf
      intro t H6 ht6 s6 g6
      have l6 := s6 _ _ l5
      clean_wf
      intro H7 b7 g7
      have kp : ∀ a xs, H6 a = some (.tup xs) → H7 a = some (.tup xs) := fun a xs z => b7.of l6 z (by intro z; cases z)
      refine ⟨_, _, _, rfl, b7.same (sm.trans (t5.trans s6)) hl, b7.at nql (s6 _ _ (t5 _ _ hq')), g7, by rw [List.length_append]; exact Nat.succ_le_succ ly, ?_⟩
      rw [canD_snoc hh, ne]
      exact lstV_snoc (lstV_up (fun a xs z => kp _ _ (s6 _ _ z)) y5) ⟨t, u, zs, rfl, kp _ _ g6, kp _ _ (s6 _ _ (s5 _ _ g4)), by rw [em]; exact z5.mono fun a xs z => kp _ _ (s6 _ _ z)⟩
    · have ne : (canR (dw du h)).isEmpty = true := by
        rw [em]
        cases z : canR (ct m) with
        | nil => rfl
        | cons a b => rw [z] at h1; exact absurd rfl h1
      refine ⟨_, _, _, rfl, sm.trans t5, t5 _ _ hq', l5, Nat.le_succ_of_le ly, ?_⟩
      rw [canD_snoc hh, ne]
      simp only [if_true, List.append_nil]
      exact y5
  rintro σ H' ⟨v2, v3, ys, rfl, sm, hq', hl', ly, hy⟩
  rw [show S.take (S.map V.int).length = S by rw [List.length_map, List.take_length]] at hy
  rw [List.length_map] at ly
  clean_wf
  intro t H3 ht s3 g3
  exact k H3 t ys S (sm.trans s3) (sm.free ht) g3 pm so (lstV_up (fun a xs z => s3 _ _ z) hy)
end
end K34


namespace K34
open PySem L2
abbrev s__law_plain : Stmt := top 21
section
variable {P : Program} {w : World} {K : PySem.W.Frag} {mg : Str → Option Value} {base : Heap}
def sp__law_plain (K : PySem.W.Frag) : Sp := fun vs H Q _ => ∃ (a : Addr), vs = [.ref a] ∧ ∃ xs ls, H a = some (.tup xs) ∧ LstV H xs ls ∧ Q (.bl true) H
theorem sc__law_plain : FnScope ["_law_found", "_law_row", "_law_pair"] ["_law_found"] (defScope s__law_plain) := ⟨rfl, rfl, rfl, by decide +kernel, rfl, by decide +kernel, by decide +kernel⟩
set_option maxHeartbeats 2000000 in
theorem ok__law_plain {f  : Addr} {fd  : FuncData} (F : Fun K "_law_plain" "_law_plain" s__law_plain f fd) (h_bool : mg "bool" = none) (h_int : mg "int" = none) (h_isinstance : mg "isinstance" = none) (h_len : mg "len" = none) (h_tuple : mg "tuple" = none) : FnOk P w K mg base CX0 1 f fd ["_law_found"] (sp__law_plain K) := by
  refine F.ok sc__law_plain (fun vs H Q E h => ?_) (fun cdv A outer s H vs Q E hr h => ?_)
  · obtain ⟨a, rfl, _⟩ := h
    rfl
  obtain ⟨a, rfl, h⟩ := h
  have hu64 := hr.units
  have hu0 := hr.units0
  have hu := hu_of hr
  refine ⟨_, (pss_cons (ps_if (pt_not (pt_callK K rfl (pe_callB (call_isiK (K := K) rfl) (by rfl) h_isinstance PyProof.Rows.boot_isinstance (pa_cons (pv 0) (pa_cons (pe_type h_tuple PyProof.Rows.boot_tuple) pa_nil))))) (pss_one (ps_ret pe_bl)) pss_nil)
      (pss_cons (ps_for PassesOwn.never rfl (pi_tupK (K := K) rfl (pv 0)) (pg_name (i := 1) sc__law_plain.nd rfl (Or.inl rfl))
      (pss_cons (ps_if (PW.pt (pw_or (pt_not (pt_callK K rfl (pe_callB (call_isiK (K := K) rfl) (by rfl) h_isinstance PyProof.Rows.boot_isinstance (pa_cons (pv 1) (pa_cons (pe_type h_tuple PyProof.Rows.boot_tuple) pa_nil))))) (pw_or (pt_cmpR op_ne (pe_callB (call_lenK (K := K) rfl) (by rfl) h_len PySem.boot_len (pa_cons (pv 1) pa_nil)) pe_int (nomark _)) (pw_or1 (pt_not (pt_callK K rfl (pe_callB (call_isiK (K := K) rfl) (by rfl) h_isinstance PyProof.Rows.boot_isinstance (pa_cons (pe_ix (ix_tupK (K := K) rfl) (pv 1) pe_int (fun _ _ => rfl)) (pa_cons (pe_type h_tuple PyProof.Rows.boot_tuple) pa_nil))))))))) (pss_one (ps_ret pe_bl)) pss_nil)
      (pss_one (ps_for PassesOwn.never rfl (pi_tupK (K := K) rfl (pe_ix (ix_tupK (K := K) rfl) (pv 1) pe_int (fun _ _ => rfl))) (pg_name (i := 2) sc__law_plain.nd rfl (Or.inl rfl))
      (pss_cons (ps_if (PW.pt (pw_or (pt_not (pt_callK K rfl (pe_callB (call_isiK (K := K) rfl) (by rfl) h_isinstance PyProof.Rows.boot_isinstance (pa_cons (pv 2) (pa_cons (pe_type h_tuple PyProof.Rows.boot_tuple) pa_nil))))) (pw_or1 (pt_cmpR op_ne (pe_callB (call_lenK (K := K) rfl) (by rfl) h_len PySem.boot_len (pa_cons (pv 2) pa_nil)) pe_int (nomark _))))) (pss_one (ps_ret pe_bl)) pss_nil)
      (pss_one (ps_if (PW.pt (pw_or (pt_not (pt_callK K rfl (pe_callB (call_isiK (K := K) rfl) (by rfl) h_isinstance PyProof.Rows.boot_isinstance (pa_cons (pe_ix (ix_tupK (K := K) rfl) (pv 2) pe_int (fun _ _ => rfl)) (pa_cons (pe_type h_int PyProof.Rows.boot_int) pa_nil))))) (pw_or (pt_callK K rfl (pe_callB (call_isiK (K := K) rfl) (by rfl) h_isinstance PyProof.Rows.boot_isinstance (pa_cons (pe_ix (ix_tupK (K := K) rfl) (pv 2) pe_int (fun _ _ => rfl)) (pa_cons (pe_type h_bool PyProof.Rows.boot_bool) pa_nil)))) (pw_or1 (pt_callK K rfl (pe_callB (call_isiK (K := K) rfl) (by rfl) h_isinstance PyProof.Rows.boot_isinstance (pa_cons (pe_ix (ix_tupK (K := K) rfl) (pv 2) pe_int (fun _ _ => rfl)) (pa_cons (pe_type h_bool PyProof.Rows.boot_bool) pa_nil)))))))) (pss_one (ps_ret pe_bl)) pss_nil)))))))
      (pss_one (ps_ret pe_bl)))), ?_⟩
  obtain ⟨xs, ls, ha, hx, k⟩ := h
  have sa := SqT.of (K := K) ha
  clean_wf
  refine ⟨_, _, _, true, rfl, .tup ha, (by kernel_rfl), ?_⟩
  clean_wf
  refine for_tup (xs := xs) (fun i σ H' => H = H' ∧ ∃ v1 v2, σ = [some (.ref a), v1, v2]) ⟨rfl, none, none, rfl⟩ (fun i σ H' _ z => by rw [← z.1]; exact sa) ?_ ?_
  · rintro i x σ _ hxi ⟨rfl, v1, v2, rfl⟩
    obtain ⟨e, he, t, u, ys, rfl, e2, e3, e4⟩ := lstV_get hx hxi
    have st := SqT.of (K := K) e2
    have su := SqT.of (K := K) e3
    clean_wf
    refine ⟨_, _, _, true, rfl, .tup e2, (by kernel_rfl), ?_⟩
    clean_wf
    refine ite2 (fun z => by cases z) fun _ => ?_
    have a1 : atI [V.int e.1, V.ref u] 1 = some (.ref u) := by kernel_rfl
    clean_wf
    refine ⟨_, _, _, true, rfl, .tup e3, (by kernel_rfl), ?_⟩
    clean_wf
    refine for_tup (xs := ys) (fun i σ A => H = A ∧ ∃ v2, σ = [some (.ref a), some (.ref t), v2]) ⟨rfl, _, rfl⟩ (fun i σ H' _ z => by rw [← z.1]; exact su) ?_ ?_
    · rintro i' x' σ _ hxi' ⟨rfl, v2', rfl⟩
      obtain ⟨pp, hpp, b, rfl, hb⟩ := e4.get hxi'
      have sb := SqT.of (K := K) hb
      have b0 : atI [V.int pp.1, V.int pp.2] 0 = some (.int pp.1) := by kernel_rfl
      have b1 : atI [V.int pp.1, V.int pp.2] 1 = some (.int pp.2) := by kernel_rfl
      clean_wf
      refine ⟨_, _, _, true, rfl, .tup hb, (by kernel_rfl), ?_⟩
      clean_wf
      refine ite2 (fun z => by cases z) fun _ => ?_
      clean_wf
      refine ⟨_, _, _, true, rfl, .int _, (by kernel_rfl), ?_⟩
      clean_wf
      refine ⟨_, _, _, false, rfl, .int _, (by kernel_rfl), ?_⟩
      clean_wf
      refine ⟨_, _, _, false, rfl, .int _, (by kernel_rfl), ?_⟩
      clean_wf
      exact ⟨rfl, _, rfl⟩
    rintro σ _ ⟨rfl, v2', rfl⟩
    exact ⟨rfl, _, _, rfl⟩
  rintro σ _ ⟨rfl, v1, v2, rfl⟩
  clean_wf
  exact k
end
end K34


namespace K34
open PySem L2
abbrev s__law_merge : Stmt := top 22
section
variable {P : Program} {w : World} {K : PySem.W.Frag} {mg : Str → Option Value} {base : Heap}

structure TDu (K : PySem.W.Frag) (mg : Str → Option Value) (H : Hp) (p d D : Addr) (hs : List Int) (rs : List (Int × V)) (tb : List (Int × List (Int × Int))) (ds : List (Int × V)) (du : List (Int × List (Int × Int))) : Prop where
  kn : KnAt K mg H p d rs tb
  dd : Du H D ds du
  hsE : tb.map (·.1) = hs
  eq : ∀ h ∈ hs, ∀ k, ct ((tbl tb h).getD []) k = dw du h k
  out : ∀ h, h ∉ hs → ∀ k, dw du h k = 0
  ne : d ≠ D
  n1 : ∀ q ∈ rs, q.2 ≠ V.ref D
  n2 : ∀ q ∈ ds, q.2 ≠ V.ref d
  n3 : ∀ q ∈ rs, ∀ q' ∈ ds, q.2 ≠ q'.2

def MuS (d D : Addr) (ds : List (Int × V)) (b : Addr) : Prop := b = d ∨ b = D ∨ ∃ q ∈ ds, q.2 = V.ref b

def FoS (p d D : Addr) (rs ds : List (Int × V)) (b : Addr) : Prop := b = p ∨ MuS d D ds b ∨ ∃ q ∈ rs, q.2 = V.ref b
theorem rws_fo {H H' : Hp} : ∀ {rs : List (Int × V)} {tb : List (Int × List (Int × Int))}, Rws H rs tb → (∀ q ∈ rs, ∀ r o, q.2 = V.ref r → H r = some o → H' r = some o) → Rws H' rs tb
  | _, _, .nil, _ => .nil
  | q :: _, _, .cons ⟨e1, r, e2, e3⟩ t, k => .cons ⟨e1, r, e2, k q List.mem_cons_self r _ e2 e3⟩ (rws_fo t fun q hq => k q (List.mem_cons_of_mem _ hq))
theorem rws_al {H : Hp} : ∀ {rs : List (Int × V)} {tb : List (Int × List (Int × Int))}, Rws H rs tb → ∀ q ∈ rs, ∀ r, q.2 = V.ref r → ∃ m, H r = some (.dK (dI m))
  | q :: _, _, .cons ⟨_, r, e2, e3⟩ t, q', hq, r', e => by
    rcases List.mem_cons.mp hq with z | z
    · rw [z, e2] at e; cases e; exact ⟨_, e3⟩
    · exact rws_al t q' z r' e
theorem TDu.mu {H : Hp} {p d D : Addr} {hs : List Int} {rs ds : List (Int × V)} {tb du : List (Int × List (Int × Int))} (t : TDu K mg H p d D hs rs tb ds du) {b : Addr} (h : MuS d D ds b) : ∃ kvs, H b = some (.dK kvs) := by
  rcases h with z | z | ⟨q, hq, e⟩
  · rw [z]; exact ⟨_, t.kn.dc⟩
  · rw [z]; exact ⟨_, t.dd.dc⟩
  · obtain ⟨m, e⟩ := rws_al t.dd.rw q hq b e; exact ⟨_, e⟩
theorem TDu.fo {H : Hp} {p d D : Addr} {hs : List Int} {rs ds : List (Int × V)} {tb du : List (Int × List (Int × Int))} (t : TDu K mg H p d D hs rs tb ds du) {b : Addr} (h : FoS p d D rs ds b) : ∃ o, H b = some o := by
  rcases h with z | z | ⟨q, hq, e⟩
  · obtain ⟨C, dx, _, e⟩ := t.kn.ob; rw [z]; exact ⟨_, e⟩
  · obtain ⟨kvs, e⟩ := t.mu z; exact ⟨_, e⟩
  · obtain ⟨m, e⟩ := rws_al t.kn.rw q hq b e; exact ⟨_, e⟩
theorem TDu.up {H H' : Hp} {p d D : Addr} {hs : List Int} {rs ds : List (Int × V)} {tb du : List (Int × List (Int × Int))} (t : TDu K mg H p d D hs rs tb ds du) (k : ∀ b o, FoS p d D rs ds b → H b = some o → H' b = some o) : TDu K mg H' p d D hs rs tb ds du := by
  obtain ⟨C, dx, e1, e2⟩ := t.kn.ob
  exact ⟨⟨⟨C, dx, e1, k _ _ (.inl rfl) e2⟩, k _ _ (.inr (.inl (.inl rfl))) t.kn.dc, rws_fo t.kn.rw fun q hq r o e z => k _ _ (.inr (.inr ⟨q, hq, e⟩)) z, t.kn.hs, t.kn.td, t.kn.ap⟩,
    ⟨k _ _ (.inr (.inl (.inr (.inl rfl)))) t.dd.dc, rws_fo t.dd.rw fun q hq r o e z => k _ _ (.inr (.inl (.inr (.inr ⟨q, hq, e⟩)))) z, t.dd.nd, t.dd.rg, t.dd.ap, t.dd.inj, t.dd.td⟩, t.hsE, t.eq, t.out, t.ne, t.n1, t.n2, t.n3⟩

theorem TDu.step {H H1 H2 : Hp} {p d D : Addr} {hs : List Int} {rs ds rs1 ds2 : List (Int × V)} {tb du tb1 du2 : List (Int × List (Int × Int))} (t : TDu K mg H p d D hs rs tb ds du)
    (s1 : SmB d H H1) (k1 : KnAt K mg H1 p d rs1 tb1) (e1 : tb1.map (·.1) = tb.map (·.1)) (w1 : ∀ q ∈ rs1, q ∈ rs ∨ ∃ r, q.2 = .ref r ∧ H r = none)
    (s2 : ∀ b o, b ≠ D → (∀ q ∈ ds, q.2 ≠ V.ref b) → H1 b = some o → H2 b = some o) (u2 : Du H2 D ds2 du2) (w2 : ∀ q ∈ ds2, q ∈ ds ∨ ∃ r, q.2 = .ref r ∧ H1 r = none)
    (eq : ∀ h ∈ hs, ∀ k, ct ((tbl tb1 h).getD []) k = dw du2 h k) (ou : ∀ h, h ∉ hs → ∀ k, dw du2 h k = 0) :
    TDu K mg H2 p d D hs rs1 tb1 ds2 du2 ∧ (∀ b o, ¬ MuS d D ds b → H b = some o → H2 b = some o) ∧ (∀ b, MuS d D ds2 b → MuS d D ds b ∨ H b = none) ∧ (∀ b, FoS p d D rs1 ds2 b → FoS p d D rs ds b ∨ H b = none) := by
  have old : ∀ q ∈ rs1, ∀ r, q.2 = V.ref r → r ≠ D ∧ (∀ q' ∈ ds, q'.2 ≠ V.ref r) := by
    intro q hq r er
    rcases w1 q hq with z | ⟨r', er', hn⟩
    · exact ⟨fun w => t.n1 q z (by rw [er, w]), fun q' hq' w => t.n3 q z q' hq' (by rw [er, w])⟩
    · rw [er'] at er
      cases er
      refine ⟨fun w => ?_, fun q' hq' w => ?_⟩
      · rw [w, t.dd.dc] at hn; cases hn
      · obtain ⟨m, e⟩ := rws_al t.dd.rw q' hq' r w
        rw [e] at hn; cases hn
  have none1 : ∀ r, H1 r = none → H r = none := by
    intro r hr
    cases z : H r with
    | none => rfl
    | some o =>
      by_cases w : r = d
      · rw [w, k1.dc] at hr; cases hr
      · rw [s1 r o w z] at hr; cases hr
  obtain ⟨C, dx, c1, c2⟩ := k1.ob
  have pD : p ≠ D := ne_of c2 (s1 _ _ (fun z => t.ne z.symm) t.dd.dc) (by intro z; cases z)
  have pds : ∀ q ∈ ds, q.2 ≠ V.ref p := fun q hq w => by
    obtain ⟨m, e⟩ := rws_al t.dd.rw q hq p w
    obtain ⟨_, _, _, e'⟩ := t.kn.ob
    rw [e] at e'; cases e'
  have k2 : KnAt K mg H2 p d rs1 tb1 := ⟨⟨C, dx, c1, s2 _ _ pD pds c2⟩, s2 _ _ t.ne t.n2 k1.dc, rws_fo k1.rw fun q hq r o e z => s2 r o (old q hq r e).1 (old q hq r e).2 z, k1.hs, k1.td, k1.ap⟩
  refine ⟨⟨k2, u2, e1.trans t.hsE, eq, ou, t.ne, fun q hq w => (old q hq D w).1 rfl, fun q hq w => ?_, fun q hq q' hq' w => ?_⟩, fun b o nb e => ?_, fun b hb => ?_, fun b hb => ?_⟩
  · rcases w2 q hq with z | ⟨r, er, hn⟩
    · exact t.n2 q z w
    · rw [er] at w; cases w; rw [k1.dc] at hn; cases hn
  · obtain ⟨r, m, er, _⟩ := rws_at k1.rw q hq
    obtain ⟨m', em'⟩ := rws_al k1.rw q hq r er
    rcases w2 q' hq' with z | ⟨r', er', hn⟩
    · exact (old q hq r er).2 q' z (by rw [← w, er])
    · rw [er, er'] at w; cases w; rw [em'] at hn; cases hn
  · exact s2 b o (fun z => nb (.inr (.inl z))) (fun q hq z => nb (.inr (.inr ⟨q, hq, z⟩))) (s1 b o (fun z => nb (.inl z)) e)
  · rcases hb with z | z | ⟨q, hq, e⟩
    · exact .inl (.inl z)
    · exact .inl (.inr (.inl z))
    · rcases w2 q hq with z | ⟨r, er, hn⟩
      · exact .inl (.inr (.inr ⟨q, z, e⟩))
      · rw [er] at e; cases e; exact .inr (none1 _ hn)
  · rcases hb with z | (z | z | ⟨q, hq, e⟩) | ⟨q, hq, e⟩
    · exact .inl (.inl z)
    · exact .inl (.inr (.inl (.inl z)))
    · exact .inl (.inr (.inl (.inr (.inl z))))
    · rcases w2 q hq with z | ⟨r, er, hn⟩
      · exact .inl (.inr (.inl (.inr (.inr ⟨q, z, e⟩))))
      · rw [er] at e; cases e; exact .inr (none1 _ hn)
    · rcases w1 q hq with z | ⟨r, er, hn⟩
      · exact .inl (.inr (.inr ⟨q, z, e⟩))
      · rw [er] at e; cases e; exact .inr hn

def Par (K : PySem.W.Frag) (mg : Str → Option Value) (H : Hp) (p D : Addr) (hs : List Int) (f : Int → Int → Int) (M F : Addr → Prop) : Prop :=
  ∃ d rs tb ds du, TDu K mg H p d D hs rs tb ds du ∧ f = dw du ∧ M = MuS d D ds ∧ F = FoS p d D rs ds
theorem Par.mu {H : Hp} {p D : Addr} {hs : List Int} {f : Int → Int → Int} {M F : Addr → Prop} (t : Par K mg H p D hs f M F) {b : Addr} (h : M b) : ∃ kvs, H b = some (.dK kvs) := by
  obtain ⟨d, rs, tb, ds, du, t, rfl, rfl, rfl⟩ := t
  exact t.mu h
theorem Par.fo {H : Hp} {p D : Addr} {hs : List Int} {f : Int → Int → Int} {M F : Addr → Prop} (t : Par K mg H p D hs f M F) {b : Addr} (h : F b) : ∃ o, H b = some o := by
  obtain ⟨d, rs, tb, ds, du, t, rfl, rfl, rfl⟩ := t
  exact t.fo h
theorem Par.up {H H' : Hp} {p D : Addr} {hs : List Int} {f : Int → Int → Int} {M F : Addr → Prop} (t : Par K mg H p D hs f M F) (k : ∀ b o, F b → H b = some o → H' b = some o) : Par K mg H' p D hs f M F := by
  obtain ⟨d, rs, tb, ds, du, t, rfl, rfl, rfl⟩ := t
  exact ⟨d, rs, tb, ds, du, t.up k, rfl, rfl, rfl⟩
theorem td_ct0 {m : List (Int × Int)} (t : Td m) (k : Int) : 0 ≤ ct m k := t.toCk.ct k
theorem td_ctr {m : List (Int × Int)} (t : Td m) {k : Int} (h : ¬ (0 ≤ k ∧ k < 63)) : ct m k = 0 := by
  refine ct_out fun z => h ?_
  obtain ⟨p, hp, e⟩ := List.mem_map.mp z
  have := t.toCk.rg p hp
  rw [e] at this
  exact this
theorem Par.nn {H : Hp} {p D : Addr} {hs : List Int} {f : Int → Int → Int} {M F : Addr → Prop} (t : Par K mg H p D hs f M F) (h k : Int) : 0 ≤ f h k := by
  obtain ⟨d, rs, tb, ds, du, t, rfl, rfl, rfl⟩ := t
  exact td_ct0 (td_get t.dd.td h) k
theorem Par.rg {H : Hp} {p D : Addr} {hs : List Int} {f : Int → Int → Int} {M F : Addr → Prop} (t : Par K mg H p D hs f M F) (h : Int) {k : Int} (hk : ¬ (0 ≤ k ∧ k < 63)) : f h k = 0 := by
  obtain ⟨d, rs, tb, ds, du, t, rfl, rfl, rfl⟩ := t
  exact td_ctr (td_get t.dd.td h) hk
theorem Par.hs {H : Hp} {p D : Addr} {hs : List Int} {f : Int → Int → Int} {M F : Addr → Prop} (t : Par K mg H p D hs f M F) : Hs hs := by
  obtain ⟨d, rs, tb, ds, du, t, rfl, rfl, rfl⟩ := t
  rw [← t.hsE]
  exact t.kn.hs

def canF (hs : List Int) (f : Int → Int → Int) : List (Int × List (Int × Int)) := (hs.filter fun h => !(canR (f h)).isEmpty).map fun h => (h, canR (f h))
theorem canF_congr {hs : List Int} {f g : Int → Int → Int} (h : ∀ x ∈ hs, ∀ k, f x k = g x k) : canF hs f = canF hs g := by
  have e : ∀ x ∈ hs, f x = g x := fun x hx => funext (h x hx)
  unfold canF
  rw [List.filter_congr fun x hx => by rw [e x hx]]
  exact List.map_congr_left fun x hx => by rw [e x (List.mem_filter.mp hx).1]
theorem canR_pos {g : Int → Int} (h : (canR g).isEmpty = false) : ∃ k, 0 < g k := by
  unfold canR at h
  cases z : hs63.filter fun k => decide (0 < g k) with
  | nil => rw [z] at h; cases h
  | cons a b =>
    have : a ∈ hs63.filter fun k => decide (0 < g k) := by rw [z]; exact List.mem_cons_self
    exact ⟨a, of_decide_eq_true (List.mem_filter.mp this).2⟩
theorem canR_ne {m : List (Int × Int)} (t : Td m) : (canR (ct m)).isEmpty = m.isEmpty := by
  cases m with
  | nil =>
    show (canR (ct [])).isEmpty = true
    cases z : (canR (ct [])).isEmpty
    · obtain ⟨k, hk⟩ := canR_pos z
      exact absurd (show (0 : Int) < 0 from hk) (Int.lt_irrefl 0)
    · rfl
  | cons p m =>
    cases z : (canR (ct (p :: m))).isEmpty
    · rfl
    · have r := t.toCk.rg p List.mem_cons_self
      have c := t.pos (k := p.1) (by rw [List.map_cons]; exact List.mem_cons_self)
      have : p.1 ∈ hs63.filter fun k => decide (0 < ct (p :: m) k) := List.mem_filter.mpr ⟨mem_hs.mpr r, decide_eq_true c⟩
      unfold canR at z
      rw [List.isEmpty_iff, List.map_eq_nil_iff] at z
      rw [z] at this
      cases this
theorem tbl_self {tb : List (Int × List (Int × Int))} (nd : (tb.map (·.1)).Nodup) {e : Int × List (Int × Int)} (he : e ∈ tb) : tbl tb e.1 = some e.2 := by
  induction tb with
  | nil => cases he
  | cons q tb ih =>
    rw [List.map_cons, List.nodup_cons] at nd
    show (if q.1 = e.1 then some q.2 else tbl tb e.1) = _
    rcases List.mem_cons.mp he with z | z
    · rw [z, if_pos rfl]
    · rw [if_neg (fun w => nd.1 (by rw [w]; exact List.mem_map_of_mem (f := (·.1)) z))]
      exact ih nd.2 z
theorem TDu.canT {H : Hp} {p d D : Addr} {hs : List Int} {rs ds : List (Int × V)} {tb du : List (Int × List (Int × Int))} (t : TDu K mg H p d D hs rs tb ds du) : K34.canT tb = canF hs (dw du) := by
  have nd : (tb.map (·.1)).Nodup := t.kn.hs.up.imp fun h => by omega
  have ef : ∀ e ∈ tb, dw du e.1 = ct e.2 := fun e he => by
    funext k
    rw [← t.eq e.1 (by rw [← t.hsE]; exact List.mem_map_of_mem (f := (·.1)) he) k, tbl_self nd he]
    rfl
  unfold K34.canT canF
  rw [← t.hsE, List.filter_map, List.map_map]
  have e1 : (tb.filter fun e => !e.2.isEmpty) = tb.filter ((fun h => !(canR (dw du h)).isEmpty) ∘ fun e => e.1) := List.filter_congr fun e he => by
    show (!e.2.isEmpty) = !(canR (dw du e.1)).isEmpty
    rw [ef e he, canR_ne (t.kn.td e he)]
  rw [e1]
  refine List.map_congr_left fun e he => ?_
  show (e.1, canR (ct e.2)) = (e.1, canR (dw du e.1))
  rw [ef e (List.mem_filter.mp he).1]
theorem TDu.canD {H : Hp} {p d D : Addr} {hs : List Int} {rs ds : List (Int × V)} {tb du : List (Int × List (Int × Int))} (t : TDu K mg H p d D hs rs tb ds du) {S : List Int} (pm : S.Perm (ds.map (·.1))) (so : S.Pairwise (· ≤ ·)) : K34.canD du S = canF hs (dw du) := by
  have hh : Hs hs := by rw [← t.hsE]; exact t.kn.hs
  unfold K34.canD canF
  rw [sorted_extI (l := S.filter fun h => !(canR (dw du h)).isEmpty) (m := hs.filter fun h => !(canR (dw du h)).isEmpty) ((le_nd_lt so (pm.nodup_iff.mpr t.dd.nd)).filter _) (hh.up.filter _) fun x => ?_]
  rw [List.mem_filter, List.mem_filter]
  refine ⟨fun ⟨_, h2⟩ => ⟨?_, h2⟩, fun ⟨_, h2⟩ => ⟨?_, h2⟩⟩
  · obtain ⟨k, hk⟩ := canR_pos (by simpa using h2)
    by_cases z : x ∈ hs
    · exact z
    · rw [t.out x z k] at hk; omega
  · obtain ⟨k, hk⟩ := canR_pos (by simpa using h2)
    refine pm.mem_iff.mpr ?_
    rw [t.dd.rw.keys]
    by_cases z : x ∈ du.map (·.1)
    · exact z
    · unfold dw at hk
      rw [tbl_none_key.mp z] at hk
      exact absurd (show (0 : Int) < 0 from hk) (Int.lt_irrefl 0)

structure GdL (ls : List (Int × List (Int × Int))) : Prop where
  ln : ls.length ≤ 64
  td : ∀ e ∈ ls, Td e.2
  nd : (ls.map (·.1)).Nodup
theorem canR_td (g : Int → Int) : Td (canR g) := by
  have ek : (canR g).map (·.1) = hs63.filter fun k => decide (0 < g k) := by unfold canR; rw [List.map_map]; exact List.map_id' _
  refine ⟨⟨?_, fun p hp => ?_, fun p hp => ?_⟩, fun p hp => ?_⟩
  · rw [ek]; exact (hs63_up.imp fun h => by omega : hs63.Nodup).filter _
  all_goals
    unfold canR at hp
    obtain ⟨k, hk, rfl⟩ := List.mem_map.mp hp
    obtain ⟨h1, h2⟩ := List.mem_filter.mp hk
    have h2 := of_decide_eq_true h2
    have h1 := mem_hs.mp h1
    first | exact h1 | exact h2 | exact Int.le_of_lt h2
theorem canF_gd {hs : List Int} (h : Hs hs) (f : Int → Int → Int) : GdL (canF hs f) := by
  have ek : (canF hs f).map (·.1) = hs.filter fun h => !(canR (f h)).isEmpty := by unfold canF; rw [List.map_map]; exact List.map_id' _
  have nd : hs.Nodup := h.up.imp fun h => by omega
  refine ⟨?_, fun e he => ?_, by rw [ek]; exact nd.filter _⟩
  · have := hs_len nd h.rg
    unfold canF
    rw [List.length_map]
    have := List.length_filter_le (fun h => !(canR (f h)).isEmpty) hs
    omega
  · obtain ⟨x, _, rfl⟩ := List.mem_map.mp he
    exact canR_td _

def mgF (hs : List Int) (ls : List (Int × List (Int × Int))) (f : Int → Int → Int) : Int → Int → Int := fun h k => if h ∈ hs then mgd ls h k (f h k) else f h k
def sp__law_merge (K : PySem.W.Frag) (mg : Str → Option Value) : Sp := fun vs H Q _ => ∃ (p D l a : Addr), vs = [.ref p, .ref D, .ref l, .ref a] ∧ ∃ hs f M F xs ls, Par K mg H p D hs f M F ∧ H l = some (.lst (hs.map V.int)) ∧ H a = some (.tup xs) ∧ LstV H xs ls ∧ GdL ls ∧
  ∀ H' M' F', Par K mg H' p D hs (mgF hs ls f) M' F' → (∀ b o, ¬ M b → H b = some o → H' b = some o) → (∀ b, M' b → M b ∨ H b = none) → (∀ b, F' b → F b ∨ H b = none) → Q .non H'
theorem lsv_keep {H H' : Hp} (s : ∀ b o, (∀ kvs, o ≠ .dK kvs) → H b = some o → H' b = some o) {xs : List V} {ls : List (Int × List (Int × Int))} (h : LstV H xs ls) : LstV H' xs ls := lstV_up (fun a xs z => s _ _ (by intro _ w; cases w) z) h
theorem sc__law_merge : FnScope ["_law_table", "_law_due", "_law_hands_here", "_law_listed_here", "_law_hand", "_law_row"] ["_law_table", "_law_due", "_law_hands_here", "_law_listed_here"] (defScope s__law_merge) := ⟨rfl, rfl, rfl, by decide +kernel, rfl, by decide +kernel, by decide +kernel⟩
set_option maxHeartbeats 4000000 in
theorem ok__law_merge {f f_Known_merge f__law_learn C_Known : Addr} {fd fd_Known_merge fd__law_learn : FuncData} (F : Fun K "_law_merge" "_law_merge" s__law_merge f fd)
    (G_Known_merge : FnOk P w K mg base CX0 4 f_Known_merge fd_Known_merge ["self", "listed"] (sp_Known_merge K mg)) (B_Known_merge : Binds K fd_Known_merge ["self", "listed"] [])
    (G__law_learn : FnOk P w K mg base CX0 4 f__law_learn fd__law_learn ["_law_due", "_law_hand", "_law_counts_here"] (sp__law_learn K)) (C__law_learn : Cal K mg "_law_learn" f__law_learn fd__law_learn ["_law_due", "_law_hand", "_law_counts_here"]) (h_dict : mg "dict" = none) (T_Known : TKnown K C_Known) (m_Known : mg "Known" = some (.ref C_Known)) (mt_Known_merge : Meth K C_Known "merge" f_Known_merge) : FnOk P w K mg base CX0 5 f fd ["_law_table", "_law_due", "_law_hands_here", "_law_listed_here"] (sp__law_merge K mg) := by
  refine F.ok sc__law_merge (fun vs H Q E h => ?_) (fun cdv A outer s H vs Q E hr h => ?_)
  · obtain ⟨p, D, l, a, rfl, _⟩ := h
    rfl
  obtain ⟨p, D, l, a, rfl, h⟩ := h
  have hu64 := hr.units
  have hu0 := hr.units0
  have hu := hu_of hr
  refine ⟨_, (pss_cons (ps_expr (pe_methS (MOk.cons T_Known.cl mt_Known_merge G_Known_merge B_Known_merge MOk.nil) (pv 0) hr (pa_cons (pv 3) pa_nil)))
      (pss_one (ps_for PassesOwn.never rfl (pi_tupK (K := K) rfl (pv 3)) (pg_tupK (K := K) (n := 2) rfl rfl (pgs_cons (pg_name (i := 4) sc__law_merge.nd rfl (Or.inl rfl)) (pgs_cons (pg_name (i := 5) sc__law_merge.nd rfl (Or.inl rfl)) pgs_nil)))
      (pss_one (ps_if (pt_cmpR (op_inK (K := K) rfl hu64) (pv 4) (pv 2) (by rfl)) (pss_one (ps_expr (pcall G__law_learn C__law_learn hr (pa_cons (pv 1) (pa_cons (pv 4) (pa_cons (pe_callTy (call_dictPT rfl) (by rfl) h_dict PyProof.Rows.boot_dict (pa_cons (pv 5) pa_nil)) pa_nil)))))) pss_nil))))), ?_⟩
  obtain ⟨hs, f, M, F, xs, ls, ⟨d, rs, tb, ds, du, t, rfl, rfl, rfl⟩, hl, ha, hx, gl, k⟩ := h
  obtain ⟨⟨C, dx, eC, hp⟩, hd, _⟩ := id t.kn
  rw [m_Known] at eC
  cases eC
  obtain ⟨cl, n1⟩ := id T_Known
  have hh : Hs hs := by rw [← t.hsE]; exact t.kn.hs
  have lx : xs.length = ls.length := Paired.length hx
  clean_wf
  refine ⟨p, a, rfl, d, rs, tb, xs, ls, t.kn, SqT.of ha, hx, gl.ln, gl.td, fun H1 rs1 tb1 s1 k1 e1 c1 w1 => ?_⟩
  have keep1 : ∀ b o, (∀ kvs, o ≠ .dK kvs) → H b = some o → H1 b = some o := fun b o n e => s1 _ _ (fun z => n _ (by rw [z, t.kn.dc] at e; cases e; rfl)) e
  have ha1 := keep1 _ _ (by intro _ z; cases z) ha
  have hl1 := keep1 _ _ (by intro _ z; cases z) hl
  have hx1 := lsv_keep keep1 hx
  have hD1 : Du H1 D ds du := ⟨s1 _ _ (fun z => t.ne z.symm) t.dd.dc, rws_fo t.dd.rw fun q hq r o e z => s1 _ _ (fun w => t.n2 q hq (by rw [e, w])) z, t.dd.nd, t.dd.rg, t.dd.ap, t.dd.inj, t.dd.td⟩
  have sa := SqT.of (K := K) ha1
  clean_wf
  refine for_tup (xs := xs) (fun i σ A => ∃ v4 v5 dsi dui, σ = [some (.ref p), some (.ref D), some (.ref l), some (.ref a), v4, v5] ∧ Du A D dsi dui ∧ (∀ b o, b ≠ D → (∀ q ∈ ds, q.2 ≠ V.ref b) → H1 b = some o → A b = some o) ∧ (∀ q ∈ dsi, q ∈ ds ∨ ∃ r, q.2 = .ref r ∧ H1 r = none) ∧ (∀ g k, dw dui g k = mgF hs (ls.take i) (dw du) g k) ∧ (∀ q ∈ ds, q ∈ dsi))
    ⟨none, none, ds, du, rfl, hD1, fun b o _ _ e => e, fun q hq => .inl hq, (fun g k => by unfold mgF; rw [List.take_zero]; split <;> rfl), fun q hq => hq⟩ (fun i σ A _ z => ?_) ?_ ?_
  · obtain ⟨_, _, _, _, _, u, z, _⟩ := z
    exact SqT.of (z _ _ (ne_of ha1 hD1.dc (by intro z; cases z)) (fun q hq w => by obtain ⟨m, e⟩ := rws_al hD1.rw q hq a w; rw [ha1] at e; cases e) ha1)
  · rintro i x σ A hxi ⟨v4, v5, dsi, dui, rfl, uA, sA, wA, fA, iA⟩
    obtain ⟨e, he, t1, u1, ys, rfl, e2, e3, e4⟩ := lstV_get hx1 hxi
    have te := gl.td e (List.mem_of_getElem? he)
    have keepA : ∀ b o, (∀ kvs, o ≠ .dK kvs) → H1 b = some o → A b = some o := fun b o n z => sA b o (fun w => n _ (by rw [w, hD1.dc] at z; cases z; rfl)) (fun q hq w => by obtain ⟨m, y⟩ := rws_al hD1.rw q hq b w; rw [y] at z; cases z; exact n _ rfl) z
    have f2 := keepA _ _ (by intro _ z; cases z) e2
    have f3 := keepA _ _ (by intro _ z; cases z) e3
    have f4 : Prs A ys e.2 := e4.mono fun b zs z => keepA _ _ (by intro _ w; cases w) z
    have hlA := keepA _ _ (by intro _ z; cases z) hl1
    have st := SqT.of (K := K) f2
    have stepf : ∀ dun, (∀ g k, dw dun g k = if g = e.1 ∧ e.1 ∈ hs then max (dw dui g k) (ct e.2 k) else dw dui g k) → ∀ g k, dw dun g k = mgF hs (ls.take (i + 1)) (dw du) g k := by
      intro dun hd g k
      rw [hd, fA]
      unfold mgF
      rw [take_get he]
      by_cases z : g ∈ hs
      · rw [if_pos z, if_pos z, mgd_app]
        by_cases w : e.1 = g
        · rw [if_pos w, if_pos ⟨w.symm, by rw [w]; exact z⟩]
        · rw [if_neg w, if_neg (fun u => w u.1.symm)]
      · rw [if_neg z, if_neg z, if_neg (fun u => z (by rw [u.1]; exact u.2))]
    clean_wf
    refine x_inI (SqL.of hlA) ?_
    clean_wf
    refine ite2 (fun h1 => ?_) fun h1 => ?_
    · have h1 : e.1 ∈ hs := of_decide_eq_true h1
      have hr := hh.rg _ h1
      clean_wf
      refine ⟨u1, ys, e.2, rfl, f3, f4, te.nd, by have := nd_len64 te.toCk; omega, fun c hc => ?_⟩
      have s3 := same_upd (o := .dK (dI e.2)) hc
      have g3 : (upd A c (.dK (dI e.2))) c = some (.dK (dI e.2)) := upd_same
      generalize upd A c (.dK (dI e.2)) = A1 at s3 g3 ⊢
      have uA1 : Du A1 D dsi dui := ⟨s3 _ _ uA.dc, rws_same (fun _ _ q => s3 _ _ q) uA.rw, uA.nd, uA.rg, uA.ap, uA.inj, uA.td⟩
      have cD : c ≠ D := fun z => by rw [z, uA.dc] at hc; cases hc
      have cds : ∀ q ∈ dsi, q.2 ≠ V.ref c := fun q hq w => by obtain ⟨m, y⟩ := rws_al uA.rw q hq c w; rw [hc] at y; cases y
      clean_wf
      refine ⟨D, e.1, c, rfl, dsi, dui, e.2, uA1, hr.1, hr.2, g3, te.toCk, cD, cds, fun A2 ds2 du2 s4 uA2 dA2 wA2 iA2 => ?_⟩
      have inA : ∀ b o, b ≠ D → (∀ q ∈ ds, q.2 ≠ V.ref b) → H1 b = some o → ∀ q ∈ dsi, q.2 ≠ V.ref b := fun b o nb nq z q hq w => by
        rcases wA q hq with y | ⟨r, er, hn⟩
        · exact nq q y w
        · rw [er] at w; cases w; rw [z] at hn; cases hn
      refine ⟨_, _, ds2, du2, rfl, uA2, fun b o nb nq z => s4 b o nb (inA b o nb nq z) (s3 _ _ (sA b o nb nq z)), fun q hq => ?_, stepf du2 fun g k => ?_, fun q hq => iA2 q (iA q hq)⟩
      · rcases wA2 q hq with y | ⟨r, er, hn⟩
        · exact wA q y
        · refine .inr ⟨r, er, ?_⟩
          cases z : H1 r with
          | none => rfl
          | some o =>
            have hnA : A r = none := by
              cases y : A r with
              | none => rfl
              | some o' => rw [s3 _ _ y] at hn; cases hn
            by_cases w : r = D
            · rw [w, uA.dc] at hnA; cases hnA
            · refine absurd (sA r o w (fun q hq u => ?_) z) (by rw [hnA]; intro u; cases u)
              obtain ⟨m, y⟩ := rws_al uA.rw q (iA q hq) r u
              rw [hnA] at y; cases y
      · rw [dA2 g k]
        by_cases z : g = e.1
        · rw [if_pos z, if_pos ⟨z, h1⟩]
        · rw [if_neg z, if_neg (fun u => z u.1)]
    · have h1 : e.1 ∉ hs := fun z => h1 (decide_eq_true z)
      exact ⟨_, _, dsi, dui, rfl, uA, sA, wA, (stepf dui fun g k => by rw [if_neg (fun u => h1 u.2)]), iA⟩
  rintro σ A ⟨v4, v5, dsi, dui, rfl, uA, sA, wA, fA, iA⟩
  rw [lx, List.take_length] at fA
  have ef : mgF hs ls (dw du) = dw dui := by
    funext g k
    exact (fA g k).symm
  obtain ⟨t', s', m', f'⟩ := t.step s1 k1 e1 w1 sA uA wA (fun h hm k => by rw [fA, c1 h (by rw [t.hsE]; exact hm) k, t.eq h hm k]; unfold mgF; rw [if_pos hm]) (fun h hm k => by rw [fA]; unfold mgF; rw [if_neg hm]; exact t.out h hm k)
  clean_wf
  rw [ef] at k
  exact k A _ _ ⟨d, rs1, tb1, dsi, dui, t', rfl, rfl, rfl⟩ s' m' f'
end
end K34


namespace K34
open PySem L2
abbrev s__law_ended : Stmt := top 23
section
variable {P : Program} {w : World} {K : PySem.W.Frag} {mg : Str → Option Value} {base : Heap}
def fset {α : Type} (f : Nat → α) (i : Nat) (v : α) : Nat → α := fun j => if j = i then v else f j
theorem fset_eq {α : Type} {f : Nat → α} {i : Nat} {v : α} : fset f i v i = v := if_pos rfl
theorem fset_ne {α : Type} {f : Nat → α} {i j : Nat} {v : α} (h : j ≠ i) : fset f i v j = f j := if_neg h
theorem Par.ob {H : Hp} {p D : Addr} {hs : List Int} {f : Int → Int → Int} {M F : Addr → Prop} (t : Par K mg H p D hs f M F) : ∃ C dx d, mg "Known" = some (.ref C) ∧ H p = some (.ins C dx [("learnt", .ref d)]) := by
  obtain ⟨d, rs, tb, ds, du, t, rfl, rfl, rfl⟩ := t
  obtain ⟨C, dx, h1, h2⟩ := t.kn.ob
  exact ⟨C, dx, d, h1, h2⟩
theorem Par.foK {H : Hp} {p D : Addr} {hs : List Int} {f : Int → Int → Int} {M F : Addr → Prop} (t : Par K mg H p D hs f M F) {b : Addr} (h : F b) : ∀ xs, H b ≠ some (.lst xs) := by
  obtain ⟨d, rs, tb, ds, du, t, rfl, rfl, rfl⟩ := t
  intro xs w
  rcases h with z | z | ⟨q, hq, e⟩
  · obtain ⟨C, dx, _, e⟩ := t.kn.ob; rw [← z, w] at e; cases e
  · obtain ⟨kvs, e⟩ := t.mu z; rw [w] at e; cases e
  · obtain ⟨m, e⟩ := rws_al t.kn.rw q hq b e; rw [w] at e; cases e
theorem Par.lsT {A : Hp} {Q : VK} {p D : Addr} {hs : List Int} {f : Int → Int → Int} {M F : Addr → Prop} (t : Par K mg A p D hs f M F) (k : ∀ H' a xs, Same A H' → A a = none → H' a = some (.tup xs) → LstV H' xs (canF hs f) → Q (.ref a) H') : sp_Known_listed K mg [.ref p] A Q E0 := by
  obtain ⟨d, rs, tb, ds, du, t, rfl, rfl, rfl⟩ := t
  exact ⟨p, rfl, d, rs, tb, t.kn, fun H' a xs s hn g l => k H' a xs s hn g (by rw [← t.canT]; exact l)⟩
theorem Par.lsD {A : Hp} {Q : VK} {p D : Addr} {hs : List Int} {f : Int → Int → Int} {M F : Addr → Prop} (t : Par K mg A p D hs f M F) (k : ∀ H' a xs, Same A H' → A a = none → H' a = some (.tup xs) → LstV H' xs (canF hs f) → Q (.ref a) H') : sp__law_listed K [.ref D] A Q E0 := by
  obtain ⟨d, rs, tb, ds, du, t, rfl, rfl, rfl⟩ := t
  exact ⟨D, rfl, ds, du, t.dd, fun H' a xs S s hn g pm so l => k H' a xs s hn g (by rw [← t.canD pm so]; exact l)⟩

structure Fou (K : PySem.W.Frag) (mg : Str → Option Value) (H : Hp) (p D : Nat → Addr) (hs : Nat → List Int) (f : Nat → Int → Int → Int) (M F : Nat → Addr → Prop) : Prop where
  pr : ∀ i, i < 4 → Par K mg H (p i) (D i) (hs i) (f i) (M i) (F i)
  sep : ∀ i j, i < 4 → j < 4 → i ≠ j → ∀ b, M i b → ¬ F j b
theorem Fou.up {H H' : Hp} {p D : Nat → Addr} {hs : Nat → List Int} {f : Nat → Int → Int → Int} {M F : Nat → Addr → Prop} (t : Fou K mg H p D hs f M F) (s : Same H H') : Fou K mg H' p D hs f M F := ⟨fun i hi => (t.pr i hi).up fun b o _ e => s _ _ e, t.sep⟩
theorem Fou.but {H H' : Hp} {p D : Nat → Addr} {hs : Nat → List Int} {f : Nat → Int → Int → Int} {M F : Nat → Addr → Prop} (t : Fou K mg H p D hs f M F) {a : Addr} {xs : List V} (ha : H a = some (.lst xs)) (s : But a H H') : Fou K mg H' p D hs f M F :=
  ⟨fun i hi => (t.pr i hi).up fun b o hb e => s.at (fun z => (t.pr i hi).foK hb xs (by rw [z]; exact ha)) e, t.sep⟩
theorem Fou.step {H H' : Hp} {p D : Nat → Addr} {hs : Nat → List Int} {f : Nat → Int → Int → Int} {M F : Nat → Addr → Prop} {g : Int → Int → Int} {M' F' : Addr → Prop} (t : Fou K mg H p D hs f M F) {i : Nat} (hi : i < 4) (q : Par K mg H' (p i) (D i) (hs i) g M' F')
    (s : ∀ b o, ¬ M i b → H b = some o → H' b = some o) (m : ∀ b, M' b → M i b ∨ H b = none) (fo : ∀ b, F' b → F i b ∨ H b = none) : Fou K mg H' p D hs (fset f i g) (fset M i M') (fset F i F') := by
  refine ⟨fun j hj => ?_, fun j k hj hk ne b hb hf => ?_⟩
  · by_cases z : j = i
    · rw [z, fset_eq, fset_eq, fset_eq]; exact q
    · rw [fset_ne z, fset_ne z, fset_ne z]
      exact (t.pr j hj).up fun b o hb e => s b o (fun w => t.sep i j hi hj (fun u => z u.symm) b w hb) e
  · by_cases z : j = i
    · have w : k ≠ i := fun u => ne (z.trans u.symm)
      rw [z, fset_eq] at hb
      rw [fset_ne w] at hf
      rcases m b hb with u | u
      · exact t.sep i k hi hk (fun u => w u.symm) b u hf
      · obtain ⟨o, e⟩ := (t.pr k hk).fo hf
        rw [u] at e; cases e
    · rw [fset_ne z] at hb
      by_cases w : k = i
      · rw [w, fset_eq] at hf
        rcases fo b hf with u | u
        · exact t.sep j i hj hi z b hb u
        · obtain ⟨kvs, e⟩ := (t.pr j hj).mu hb
          rw [u] at e; cases e
      · rw [fset_ne w] at hf
        exact t.sep j k hj hk ne b hb hf

def KpD (H H' : Hp) : Prop := ∀ b o, (∀ kvs, o ≠ .dK kvs) → H b = some o → H' b = some o
theorem KpD.refl (H : Hp) : KpD H H := fun _ _ _ e => e
theorem KpD.trans {A B C : Hp} (x : KpD A B) (y : KpD B C) : KpD A C := fun b o n e => y b o n (x b o n e)
theorem KpD.same {A B : Hp} (s : Same A B) : KpD A B := fun b o _ e => s b o e
theorem KpD.lst {A B : Hp} (s : KpD A B) {a : Addr} {xs : List V} (e : A a = some (.lst xs)) : B a = some (.lst xs) := s _ _ (by intro _ z; cases z) e
theorem KpD.tup {A B : Hp} (s : KpD A B) {a : Addr} {xs : List V} (e : A a = some (.tup xs)) : B a = some (.tup xs) := s _ _ (by intro _ z; cases z) e
theorem Par.kp {H H' : Hp} {p D : Addr} {hs : List Int} {f : Int → Int → Int} {M F : Addr → Prop} (t : Par K mg H p D hs f M F) (s : ∀ b o, ¬ M b → H b = some o → H' b = some o) : KpD H H' := fun b o n e => s b o (fun z => by
  obtain ⟨kvs, y⟩ := t.mu z
  rw [e] at y
  cases y
  exact n _ rfl) e

def TVl (H : Hp) (x : V) (ls : List (Int × List (Int × Int))) : Prop := ∃ a xs, x = .ref a ∧ H a = some (.tup xs) ∧ LstV H xs ls
theorem TVl.up {H H' : Hp} (s : ∀ a xs, H a = some (.tup xs) → H' a = some (.tup xs)) {x : V} {ls : List (Int × List (Int × Int))} (h : TVl H x ls) : TVl H' x ls := by
  obtain ⟨a, xs, e1, e2, e3⟩ := h
  exact ⟨a, xs, e1, s _ _ e2, lstV_up s e3⟩
theorem rng_get {α : Type} {g : Nat → α} {n i : Nat} {x : α} (h : ((List.range n).map g)[i]? = some x) : i < n ∧ x = g i := by
  rw [List.getElem?_map] at h
  by_cases z : i < n
  · rw [List.getElem?_range z] at h
    exact ⟨z, (Option.some.inj h).symm⟩
  · rw [List.getElem?_eq_none (by rw [List.length_range]; omega)] at h
    cases h
theorem rng_at {g : Nat → V} {n i : Nat} (h : i < n) : atI ((List.range n).map g) (i : Int) = some (g i) := atI_nat (by rw [List.getElem?_map, List.getElem?_range h]; rfl)
theorem rng_at' {g : Nat → V} {n : Nat} {j : Int} (h0 : 0 ≤ j) (h : j.toNat < n) : atI ((List.range n).map g) j = some (g j.toNat) := by
  have := rng_at (g := g) h
  rw [show ((j.toNat : Nat) : Int) = j by omega] at this
  exact this
theorem rng_snoc {α : Type} {tv : Nat → α} {i : Nat} {v : α} : (List.range (i + 1)).map (fset tv i v) = (List.range i).map tv ++ [v] := by
  rw [List.range_succ, List.map_append, List.map_cons, List.map_nil, fset_eq]
  congr 1
  refine List.map_congr_left fun j hj => fset_ne ?_
  have := List.mem_range.mp hj
  omega

def lsD (ls : List (Int × List (Int × Int))) : List PyData := ls.map fun e => .tuple [.int e.1, .tuple (e.2.map prD)]
theorem lsv_dps {K : PySem.W.Frag} {H : Hp} : ∀ {xs : List V} {ls : List (Int × List (Int × Int))}, LstV H xs ls → Dps K H xs (lsD ls)
  | _, _, .nil => .nil
  | _, _, .cons ⟨t, u, ys, e1, e2, e3, e4⟩ r => by
    subst e1
    exact .cons (.tup (SqT.of e2) (.cons (.int _) (.cons (.tup (SqT.of e3) e4.dps) .nil))) (lsv_dps r)
theorem lsD_lay : ∀ ls : List (Int × List (Int × Int)), PyData.canLayAll0 (lsD ls) = true
  | [] => rfl
  | e :: ls => by
    have h : (PyData.tuple (e.2.map prD)).canLay0 = true := by first | (rw [PyData.canLay0.eq_5]; exact prs_lay _) | (rw [PyData.canLay0.eq_6]; exact prs_lay _) | (rw [PyData.canLay0.eq_7]; exact prs_lay _)
    show PyData.canLayAll0 (.tuple [.int e.1, .tuple (e.2.map prD)] :: lsD ls) = true
    rw [PyData.canLayAll0.eq_2, lsD_lay ls, Bool.and_true]
    have h2 : PyData.canLayAll0 [.int e.1, .tuple (e.2.map prD)] = true := by rw [PyData.canLayAll0.eq_2, PyData.canLayAll0.eq_2, h]; rfl
    first | (rw [PyData.canLay0.eq_5]; exact h2) | (rw [PyData.canLay0.eq_6]; exact h2) | (rw [PyData.canLay0.eq_7]; exact h2)
theorem lsD_dep : ∀ ls : List (Int × List (Int × Int)), PyData.depthAll (lsD ls) ≤ 3
  | [] => by show PyData.depthAll [] ≤ 3; rw [PyData.depthAll.eq_1]; omega
  | e :: ls => by
    have e1 : PyData.depthAll (lsD (e :: ls)) = max (PyData.tuple [.int e.1, .tuple (e.2.map prD)]).depth (PyData.depthAll (lsD ls)) := rfl
    have e2 : (PyData.tuple [.int e.1, .tuple (e.2.map prD)]).depth = PyData.depthAll [.int e.1, .tuple (e.2.map prD)] + 1 := rfl
    have e3 : PyData.depthAll [.int e.1, .tuple (e.2.map prD)] = max 0 (max (PyData.depthAll (e.2.map prD) + 1) 0) := rfl
    have := prs_dep e.2
    have := lsD_dep ls
    rw [e1]
    omega
theorem x_neLst {K : PySem.W.Frag} {H : Hp} {Q : VK} {a b : Addr} {xs ys : List V} {ls : List (Int × List (Int × Int))} (ha : H a = some (.tup xs)) (hx : LstV H xs ls) (hb : H b = some (.tup ys)) (hy : LstV H ys ls) (q : Q (.bl false) H) : rNeP K (.ref a) (.ref b) H Q :=
  rNeP_refl (d := .tuple (lsD ls)) (.inl (.tup (SqT.of ha) (lsv_dps hx))) (.inl (.tup (SqT.of hb) (lsv_dps hy))) (by first | (rw [PyData.canLay0.eq_5]; exact lsD_lay _) | (rw [PyData.canLay0.eq_6]; exact lsD_lay _) | (rw [PyData.canLay0.eq_7]; exact lsD_lay _)) (by
    have e : (PyData.tuple (lsD ls)).depth = PyData.depthAll (lsD ls) + 1 := rfl
    have := lsD_dep ls
    omega) q

theorem mgd_one {ls : List (Int × List (Int × Int))} (nd : (ls.map (·.1)).Nodup) {h k c : Int} (hc : 0 ≤ c) : mgd ls h k c = max c (ct ((tbl ls h).getD []) k) := by
  induction ls with
  | nil => show c = max c 0; omega
  | cons e ls ih =>
    rw [List.map_cons, List.nodup_cons] at nd
    show mgd ls h k (if e.1 = h then max c (ct e.2 k) else c) = max c (ct ((if e.1 = h then some e.2 else tbl ls h).getD []) k)
    by_cases z : e.1 = h
    · rw [if_pos z, if_pos z]
      have zn : tbl ls h = none := tbl_none_key.mp (by rw [← z]; exact nd.1)
      have : ∀ c', mgd ls h k c' = c' := by
        intro c'
        have hn : h ∉ ls.map (·.1) := by rw [← z]; exact nd.1
        clear ih zn nd
        induction ls generalizing c' with
        | nil => rfl
        | cons q ls ih =>
          rw [List.map_cons, List.mem_cons, not_or] at hn
          show mgd ls h k (if q.1 = h then max c' (ct q.2 k) else c') = c'
          rw [if_neg (fun w => hn.1 w.symm)]
          exact ih c' hn.2
      rw [this]
      rfl
    · rw [if_neg z, if_neg z, ih nd.2]
theorem canF_tbl {hs : List Int} (hh : Hs hs) {f : Int → Int → Int} (nn : ∀ h k, 0 ≤ f h k) (rg : ∀ h k, ¬ (0 ≤ k ∧ k < 63) → f h k = 0) {h k : Int} (hm : h ∈ hs) : ct ((tbl (canF hs f) h).getD []) k = f h k := by
  have nd := (canF_gd hh f).nd
  have cr : ct (canR (f h)) k = f h k := by
    by_cases z : 0 < f h k
    · have zk : 0 ≤ k ∧ k < 63 := by
        by_cases w : 0 ≤ k ∧ k < 63
        · exact w
        · rw [rg h k w] at z; omega
      exact ct_of (canR_td (f h)).nd (show (k, f h k) ∈ canR (f h) from List.mem_map.mpr ⟨k, List.mem_filter.mpr ⟨mem_hs.mpr zk, decide_eq_true z⟩, rfl⟩)
    · have := nn h k
      rw [ct_out]
      · omega
      · intro w
        obtain ⟨q, hq, e⟩ := List.mem_map.mp w
        unfold canR at hq
        obtain ⟨y, hy, rfl⟩ := List.mem_map.mp hq
        have e : y = k := e
        rw [e] at hy
        exact z (of_decide_eq_true (List.mem_filter.mp hy).2)
  cases z : (canR (f h)).isEmpty
  · have : (h, canR (f h)) ∈ canF hs f := List.mem_map.mpr ⟨h, List.mem_filter.mpr ⟨hm, by rw [z]; rfl⟩, rfl⟩
    rw [tbl_self nd this]
    exact cr
  · have : tbl (canF hs f) h = none := tbl_none_key.mp fun w => by
      obtain ⟨q, hq, e⟩ := List.mem_map.mp w
      obtain ⟨y, hy, rfl⟩ := List.mem_map.mp hq
      have e : y = h := e
      rw [e] at hy
      have := (List.mem_filter.mp hy).2
      rw [z] at this
      cases this
    rw [this]
    rw [List.isEmpty_iff] at z
    rw [z] at cr
    exact cr
theorem mgF_can {hs hj : List Int} (hh : Hs hj) {f g : Int → Int → Int} (nn : ∀ h k, 0 ≤ f h k) (rg : ∀ h k, ¬ (0 ≤ k ∧ k < 63) → f h k = 0) {h k : Int} (h1 : h ∈ hs) (h2 : h ∈ hj) (g0 : 0 ≤ g h k) : mgF hs (canF hj f) g h k = max (g h k) (f h k) := by
  unfold mgF
  rw [if_pos h1, mgd_one (canF_gd hh f).nd g0, canF_tbl hh nn rg h2]

def best (f : Nat → Int → Int → Int) (h k : Int) : Int := max (max (f 0 h k) (f 1 h k)) (max (f 2 h k) (f 3 h k))
theorem best_of {f : Nat → Int → Int → Int} {h k y : Int} (u : ∀ m, m < 4 → f m h k ≤ y) (e : ∃ m, m < 4 ∧ y = f m h k) : y = best f h k := by
  have h0 := u 0 (by decide)
  have h1 := u 1 (by decide)
  have h2 := u 2 (by decide)
  have h3 := u 3 (by decide)
  obtain ⟨m, hm, e⟩ := e
  unfold best
  match m, hm, e with
  | 0, _, e => omega
  | 1, _, e => omega
  | 2, _, e => omega
  | 3, _, e => omega
def sp__law_ended (K : PySem.W.Frag) (mg : Str → Option Value) : Sp := fun vs H Q _ => ∃ (T U l : Addr), vs = [.ref T, .ref U, .ref l] ∧ ∃ p D hs f M F, Fou K mg H p D hs f M F ∧ H T = some (.lst ((List.range 4).map fun i => V.ref (p i))) ∧ H U = some (.lst ((List.range 4).map fun i => V.ref (D i))) ∧ H l = some (.lst ((hs 0).map V.int)) ∧
  (∀ i, i < 3 → hs i = hs 0) ∧ (∀ h ∈ hs 0, h ∈ hs 3) ∧ ∀ H', Q (.bl true) H'
theorem sc__law_ended : FnScope ["_law_tables", "_law_dues", "_law_hands_here", "_law_told", "_law_k", "_law_order", "_law_listed_here"] ["_law_tables", "_law_dues", "_law_hands_here"] (defScope s__law_ended) := ⟨rfl, rfl, rfl, by decide +kernel, rfl, by decide +kernel, by decide +kernel⟩
set_option maxHeartbeats 4000000 in
theorem ok__law_ended {f f_Known_listed f__law_listed f__law_merge C_Known : Addr} {fd fd_Known_listed fd__law_listed fd__law_merge : FuncData} (F : Fun K "_law_ended" "_law_ended" s__law_ended f fd)
    (G_Known_listed : FnOk P w K mg base CX0 5 f_Known_listed fd_Known_listed ["self"] (sp_Known_listed K mg)) (B_Known_listed : Binds K fd_Known_listed ["self"] [])
    (G__law_listed : FnOk P w K mg base CX0 5 f__law_listed fd__law_listed ["_law_due"] (sp__law_listed K)) (C__law_listed : Cal K mg "_law_listed" f__law_listed fd__law_listed ["_law_due"])
    (G__law_merge : FnOk P w K mg base CX0 5 f__law_merge fd__law_merge ["_law_table", "_law_due", "_law_hands_here", "_law_listed_here"] (sp__law_merge K mg)) (C__law_merge : Cal K mg "_law_merge" f__law_merge fd__law_merge ["_law_table", "_law_due", "_law_hands_here", "_law_listed_here"]) (h_range : mg "range" = none) (T_Known : TKnown K C_Known) (m_Known : mg "Known" = some (.ref C_Known)) (mt_Known_listed : Meth K C_Known "listed" f_Known_listed) : FnOk P w K mg base CX0 6 f fd ["_law_tables", "_law_dues", "_law_hands_here"] (sp__law_ended K mg) := by
  refine F.ok sc__law_ended (fun vs H Q E h => ?_) (fun cdv A outer s H vs Q E hr h => ?_)
  · obtain ⟨T, U, l, rfl, _⟩ := h
    rfl
  obtain ⟨T, U, l, rfl, h⟩ := h
  have hu64 := hr.units
  have hu0 := hr.units0
  have hu := hu_of hr
  refine ⟨_, (pss_cons (ps_comp (i := 3) ["_law_table"] [none] sc__law_ended.nd rfl (Or.inl rfl) rfl rfl (by kernel_rfl) (pi_listK (K := K) rfl (pv 0)) (fun _ _ _ _ _ nd => pg_name (i := 0) nd rfl (Or.inl rfl)) (fun _ _ _ _ _ => pif_nil) (fun _ _ _ _ _ => (pe_methS0 (MOk.cons T_Known.cl mt_Known_listed G_Known_listed B_Known_listed MOk.nil) (pv 0) hr)))
      (pss_cons (ps_for PassesOwn.never rfl (pi_range1 rfl h_range (pa_cons pe_int pa_nil)) (pg_name (i := 4) sc__law_ended.nd rfl (Or.inl rfl))
      (pss_cons (ps_set (i := 5) sc__law_ended.nd rfl (Or.inl rfl) (pe_op op_cat (pe_slice (sl_listK (K := K) rfl) (pv 3) (po_some (pv 4)) po_none) (pe_slice (sl_listK (K := K) rfl) (pv 3) po_none (po_some (pv 4)))))
      (pss_one (ps_for PassesOwn.never rfl (pi_listK (K := K) rfl (pe_op op_cat (pv 5) (pe_slice3 sl3_rev (pv 5) po_none po_none (po_some (pe_un un_neg pe_int))))) (pg_name (i := 6) sc__law_ended.nd rfl (Or.inl rfl))
      (pss_one (ps_expr (pcall G__law_merge C__law_merge hr (pa_cons (pe_ix (ix_listK (K := K) rfl) (pv 0) (pv 4) (fun _ _ => rfl)) (pa_cons (pe_ix (ix_listK (K := K) rfl) (pv 1) (pv 4) (fun _ _ => rfl)) (pa_cons (pv 2) (pa_cons (pv 6) pa_nil)))))))))))
      (pss_cons (ps_for PassesOwn.never rfl (pi_range1 rfl h_range (pa_cons pe_int pa_nil)) (pg_name (i := 4) sc__law_ended.nd rfl (Or.inl rfl))
      (pss_one (ps_if (PW.pt (pw_or (pt_cmpR (op_neK (K := K) rfl hu64) (pe_methS0 (MOk.cons T_Known.cl mt_Known_listed G_Known_listed B_Known_listed MOk.nil) (pe_ix (ix_listK (K := K) rfl) (pv 0) (pv 4) (fun _ _ => rfl)) hr) (pcall G__law_listed C__law_listed hr (pa_cons (pe_ix (ix_listK (K := K) rfl) (pv 1) (pv 4) (fun _ _ => rfl)) pa_nil)) (nomark _)) (pw_or1 (pt_cmpR (op_neK (K := K) rfl hu64) (pcall G__law_listed C__law_listed hr (pa_cons (pe_ix (ix_listK (K := K) rfl) (pv 1) (pv 4) (fun _ _ => rfl)) pa_nil)) (pcall G__law_listed C__law_listed hr (pa_cons (pe_ix (ix_listK (K := K) rfl) (pv 1) pe_int (fun _ _ => rfl)) pa_nil)) (nomark _))))) (pss_one (ps_ret pe_bl)) pss_nil)))
      (pss_one (ps_ret pe_bl))))), ?_⟩
  obtain ⟨p, D, hs, f, M, F, t, hT, hU, hl, e1, e3, k⟩ := h
  obtain ⟨cl, n1⟩ := id T_Known
  have inj : ∀ m, m < 4 → ∀ h ∈ hs 0, h ∈ hs m := fun m hm h hh => by
    by_cases z : m < 3
    · rw [e1 m z]; exact hh
    · rw [show m = 3 by omega]; exact e3 h hh
  clean_wf
  intro E hE
  refine comp_list (K := K) (a := T) (xs := (List.range 4).map fun i => V.ref (p i)) (fun i σ A => ∃ v tv, σ = [v] ∧ Same H A ∧ A E = some (.lst ((List.range i).map tv)) ∧ ∀ m, m < i → TVl A (tv m) (canF (hs m) (f m))) ⟨none, fun _ => .non, rfl, same_upd hE, upd_same, fun m hm => absurd hm (Nat.not_lt_zero _)⟩ ?_ ?_ ?_
  · rintro i σ A _ ⟨_, _, _, z, _⟩
    exact SqL.of (z _ _ hT)
  · rintro i x σ A hx ⟨v, tv, rfl, sA, hEx, tvs⟩
    obtain ⟨hi, rfl⟩ := rng_get hx
    have tA := (t.up sA).pr i hi
    obtain ⟨C, dx, d, eC, hp⟩ := tA.ob
    rw [m_Known] at eC
    cases eC
    clean_wf
    refine tA.lsT fun A2 a xs s2 ha g2 l2 => ?_
    have hE2 := s2 _ _ hEx
    have kp : ∀ b ys, A2 b = some (.tup ys) → (upd A2 E (.lst ((List.range i).map tv ++ [V.ref a]))) b = some (.tup ys) := fun b ys z => by
      rw [upd_ne (ne_of z hE2 (by intro z; cases z))]
      exact z
    refine ⟨_, hE2, by rw [List.length_map, List.length_range]; exact small1000 (by omega), _, fset tv i (.ref a), rfl, fun b o z => ?_, by rw [rng_snoc]; exact upd_same, fun m hm => ?_⟩
    · rw [upd_ne (ne_of_none z hE)]
      exact s2 _ _ (sA b o z)
    · by_cases z : m = i
      · rw [z, fset_eq]
        exact ⟨a, xs, rfl, kp _ _ g2, lstV_up kp l2⟩
      · rw [fset_ne z]
        exact (tvs m (by omega)).up fun b ys w => kp _ _ (s2 _ _ w)
  rintro σ H0 ⟨v, tv, rfl, s0, hE0, tvs⟩
  have hE0 : H0 E = some (.lst ((List.range 4).map tv)) := hE0
  have tvs : ∀ m, m < 4 → TVl H0 (tv m) (canF (hs m) (f m)) := fun m hm => tvs m hm
  have t0 := t.up s0
  have nnf : ∀ m, m < 4 → ∀ h k, 0 ≤ f m h k := fun m hm h k => (t.pr m hm).nn h k
  have rgf : ∀ m, m < 4 → ∀ h k, ¬ (0 ≤ k ∧ k < 63) → f m h k = 0 := fun m hm h k z => (t.pr m hm).rg h z
  clean_wf
  refine ⟨_, rfl, by decide, by decide, ?_⟩
  refine for_range (fun i σ A => ∃ v4 v5 v6 g M' F', σ = [some (.ref T), some (.ref U), some (.ref l), some (.ref E), v4, v5, v6] ∧ KpD H0 A ∧ Fou K mg A p D hs g M' F' ∧ (∀ j, i ≤ j → g j = f j) ∧ (∀ j, j < i → ∀ h ∈ hs 0, ∀ c, g j h c = best f h c)) ⟨none, none, none, f, M, F, rfl, .refl _, t0, fun _ _ => rfl, fun j hj => absurd hj (Nat.not_lt_zero _)⟩ ?_ ?_
  · rintro i σ A hi ⟨v4, v5, v6, g, M', F', rfl, kA, tA, ge, gb⟩
    have hi3 : i < 3 := by simpa using hi
    have ei : (0 + (i : Int)) = (i : Int) := by omega
    rw [ei]
    have hEA := kA.lst hE0
    have hTA := kA.lst (s0 _ _ hT)
    have hUA := kA.lst (s0 _ _ hU)
    have hlA := kA.lst (s0 _ _ hl)
    clean_wf
    intro q1 A1 hq1 s1 g1
    have hEA1 := s1 _ _ hEA
    clean_wf
    intro q2 A2 hq2 s2 g2
    have g12 := s2 _ _ g1
    have c1 : cutV ((List.range 4).map tv) (some (i : Int)) none = ((List.range 4).drop i).map tv := by
      match i, hi3 with
      | 0, _ => rfl
      | 1, _ => rfl
      | 2, _ => rfl
    have c2 : cutV ((List.range 4).map tv) none (some (i : Int)) = ((List.range 4).take i).map tv := by
      match i, hi3 with
      | 0, _ => rfl
      | 1, _ => rfl
      | 2, _ => rfl
    rw [c1] at g12
    rw [c2] at g2
    refine x_cat g12 g2 (by simp only [List.length_map, List.length_drop, List.length_take, List.length_range]; omega) fun q3 A3 hq3 s3 g3 => ?_
    rw [← List.map_append] at g3
    have io : ∀ m, m ∈ (List.range 4).drop i ++ (List.range 4).take i ↔ m < 4 := by
      match i, hi3 with
      | 0, _ => intro m; simp
      | 1, _ => intro m; simp [List.range, List.range.loop]; omega
      | 2, _ => intro m; simp [List.range, List.range.loop]; omega
    have lo : ((List.range 4).drop i ++ (List.range 4).take i).length = 4 := by
      simp only [List.length_append, List.length_drop, List.length_take, List.length_range]
      omega
    generalize (List.range 4).drop i ++ (List.range 4).take i = os at g3 io lo
    clean_wf
    refine ⟨rfl, rfl, rfl, q3, _, rfl, SqL.of g3, fun q4 hq4 => ?_⟩
    have s4 := same_upd (o := .lst (os.map tv).reverse) hq4
    have g4 : (upd A3 q4 (.lst (os.map tv).reverse)) q4 = some (.lst (os.map tv).reverse) := upd_same
    generalize upd A3 q4 (.lst (os.map tv).reverse) = A4 at s4 g4 ⊢
    rw [← List.map_reverse] at g4
    refine x_cat (s4 _ _ g3) g4 (by simp only [List.length_map, List.length_reverse]; omega) fun q5 A5 hq5 s5 g5 => ?_
    rw [← List.map_append] at g5
    have iz : ∀ m, m ∈ os ++ os.reverse ↔ m < 4 := fun m => by rw [List.mem_append, List.mem_reverse, or_self]; exact io m
    generalize os ++ os.reverse = zs at g5 iz
    have s05 : Same A A5 := s1.trans (s2.trans (s3.trans (s4.trans s5)))
    have k5 : KpD H0 A5 := kA.trans (.same s05)
    have t5 := tA.up s05
    clean_wf
    refine for_list (xs := zs.map tv) (fun j σ B => ∃ v6 g' M' F', σ = [some (.ref T), some (.ref U), some (.ref l), some (.ref E), some (.int i), some (.ref q3), v6] ∧ KpD A5 B ∧ Fou K mg B p D hs g' M' F' ∧ (∀ j, j ≠ i → g' j = g j) ∧ (∀ h ∈ hs 0, ∀ c, f i h c ≤ g' i h c ∧ (∃ m, m < 4 ∧ g' i h c = f m h c) ∧ ∀ m ∈ zs.take j, f m h c ≤ g' i h c))
      ⟨_, g, M', F', rfl, .refl _, t5, fun _ _ => rfl, fun h hh c => ⟨by rw [ge i (Nat.le_refl _)]; exact Int.le_refl _, ⟨i, by omega, by rw [ge i (Nat.le_refl _)]⟩, fun m hm => by rw [List.take_zero] at hm; cases hm⟩⟩ (fun j σ B _ z => by obtain ⟨_, _, _, _, _, z, _⟩ := z; exact SqL.of (z.lst g5)) ?_ ?_
    · rintro j x σ B hx ⟨v6, g', M', F', rfl, kB, tB, gne, gi⟩
      obtain ⟨m, hm, rfl⟩ : ∃ m, zs[j]? = some m ∧ x = tv m := by
        rw [List.getElem?_map] at hx
        cases z : zs[j]? with
        | none => rw [z] at hx; cases hx
        | some m => rw [z] at hx; exact ⟨m, rfl, (Option.some.inj hx).symm⟩
      have m4 : m < 4 := (iz m).mp (List.mem_of_getElem? hm)
      have k0B := k5.trans kB
      obtain ⟨a, xs, ea, ga, la⟩ := (tvs m m4).up fun b ys z => k0B.tup z
      rw [ea]
      have hTB := k0B.lst (s0 _ _ hT)
      have hUB := k0B.lst (s0 _ _ hU)
      have hlB := k0B.lst (s0 _ _ hl)
      have atT : atI ((List.range 4).map fun i => V.ref (p i)) (i : Int) = some (V.ref (p i)) := rng_at (g := fun i => V.ref (p i)) (by omega)
      have atU : atI ((List.range 4).map fun i => V.ref (D i)) (i : Int) = some (V.ref (D i)) := rng_at (g := fun i => V.ref (D i)) (by omega)
      have pB := tB.pr i (by omega)
      clean_wf
      refine ⟨p i, D i, l, a, rfl, hs i, g' i, M' i, F' i, xs, _, pB, by rw [e1 i hi3]; exact hlB, ga, la, canF_gd (t.pr m m4).hs _, fun B' Mn Fn pn sn mn fn => ?_⟩
      refine ⟨_, _, _, _, rfl, kB.trans (pB.kp sn), tB.step (by omega) pn sn mn fn, fun j hj => by rw [fset_ne hj]; exact gne j hj, fun h hh c => ?_⟩
      rw [fset_eq]
      have h1 : h ∈ hs i := inj i (by omega) h hh
      obtain ⟨a1, ⟨m', hm', a2⟩, a3⟩ := gi h hh c
      have ex := mgF_can (hs := hs i) (t.pr m m4).hs (g := g' i) (nnf m m4) (rgf m m4) h1 (inj m m4 h hh) (k := c) (pB.nn h c)
      rw [ex]
      refine ⟨by omega, ?_, fun m2 hm2 => ?_⟩
      · by_cases z : g' i h c ≤ f m h c
        · exact ⟨m, m4, by omega⟩
        · exact ⟨m', hm', by omega⟩
      · rw [take_get hm, List.mem_append, List.mem_singleton] at hm2
        rcases hm2 with z | z
        · have := a3 m2 z; omega
        · rw [z]; omega
    rintro σ B ⟨v6, g', M', F', rfl, kB, tB, gne, gi⟩
    rw [show zs.take (zs.map tv).length = zs by rw [List.length_map, List.take_length]] at gi
    refine ⟨_, _, _, g', M', F', rfl, k5.trans kB, tB, fun j hj => by rw [gne j (by omega)]; exact ge j (by omega), fun j hj h hh c => ?_⟩
    by_cases z : j = i
    · rw [z]
      obtain ⟨_, a2, a3⟩ := gi h hh c
      exact best_of (fun m hm => a3 m ((iz m).mpr hm)) a2
    · rw [gne j z]
      exact gb j (by omega) h hh c
  rintro σ A ⟨v4, v5, v6, g, M', F', rfl, kA, tA, ge, gb⟩
  have gb : ∀ j, j < 3 → ∀ h ∈ hs 0, ∀ c, g j h c = best f h c := fun j hj => gb j (by simpa using hj)
  have cF : ∀ j, j < 3 → canF (hs j) (g j) = canF (hs 0) (best f) := fun j hj => by rw [e1 j hj]; exact canF_congr fun h hh c => gb j hj h hh c
  clean_wf
  refine ⟨_, rfl, by decide, by decide, ?_⟩
  refine for_range (fun i σ B => ∃ v4, σ = [some (.ref T), some (.ref U), some (.ref l), some (.ref E), v4, v5, v6] ∧ Same A B) ⟨_, rfl, Same.refl _⟩ ?_ ?_
  · rintro i σ B hi ⟨v4, rfl, sB⟩
    have hi3 : i < 3 := by simpa using hi
    have ei : (0 + (i : Int)) = (i : Int) := by omega
    rw [ei]
    have hTB := sB _ _ (kA.lst (s0 _ _ hT))
    have hUB := sB _ _ (kA.lst (s0 _ _ hU))
    have atT : atI ((List.range 4).map fun i => V.ref (p i)) (i : Int) = some (V.ref (p i)) := rng_at (g := fun i => V.ref (p i)) (by omega)
    have atU : atI ((List.range 4).map fun i => V.ref (D i)) (i : Int) = some (V.ref (D i)) := rng_at (g := fun i => V.ref (D i)) (by omega)
    have atU0 : atI ((List.range 4).map fun i => V.ref (D i)) 0 = some (.ref (D 0)) := rng_at (g := fun i => V.ref (D i)) (n := 4) (i := 0) (by decide)
    have tB := tA.up sB
    have pB := tB.pr i (by omega)
    obtain ⟨C, dx, d, eC, hp⟩ := pB.ob
    rw [m_Known] at eC
    cases eC
    clean_wf
    refine pB.lsT fun B1 a1 x1 s1 ha1 g1 l1 => ?_
    have hUB1 := s1 _ _ hUB
    clean_wf
    refine ((tB.up s1).pr i (by omega)).lsD fun B2 a2 x2 s2 ha2 g2 l2 => ?_
    refine x_neLst (s2 _ _ g1) (lstV_up (fun a xs z => s2 _ _ z) l1) g2 l2 ?_
    have hUB2 := s2 _ _ hUB1
    clean_wf
    refine ((tB.up (s1.trans s2)).pr i (by omega)).lsD fun B3 a3 x3 s3 ha3 g3 l3 => ?_
    have hUB3 := s3 _ _ hUB2
    clean_wf
    refine ((tB.up (s1.trans (s2.trans s3))).pr 0 (by decide)).lsD fun B4 a4 x4 s4 ha4 g4 l4 => ?_
    rw [cF i hi3] at l3
    rw [cF 0 (by decide)] at l4
    refine x_neLst (s4 _ _ g3) (lstV_up (fun a xs z => s4 _ _ z) l3) g4 l4 ?_
    clean_wf
    exact ⟨_, rfl, sB.trans (s1.trans (s2.trans (s3.trans s4)))⟩
  rintro σ B ⟨v4, rfl, sB⟩
  clean_wf
  exact k _
end
end K34


namespace K34
open PySem L2
abbrev s_law : Stmt := top 24
section
variable {P : Program} {w : World} {K : PySem.W.Frag} {mg : Str → Option Value} {base : Heap}
theorem hl_hs (n : Int) : Hs (GB.hl n) := by
  refine ⟨?_, fun x hx => ?_⟩
  · unfold GB.hl
    exact List.Pairwise.map _ (fun a b h => by have : a < b := h; omega) (GB.hnds_sorted n.toNat)
  · unfold GB.hl at hx
    obtain ⟨h, hh, rfl⟩ := List.mem_map.mp hx
    have := (GB.mem_hnds.mp hh).1
    omega
theorem hl_or {n x : Int} (n0 : 0 ≤ n) (n1 : n < 9223372036854775808) (x0 : 0 ≤ x) (x1 : x < 63) : 0 ≤ Builtin.bitOr n (1 * (2 : Int) ^ x.toNat) ∧ Builtin.bitOr n (1 * (2 : Int) ^ x.toNat) < 9223372036854775808 ∧ (∀ h ∈ GB.hl n, h ∈ GB.hl (Builtin.bitOr n (1 * (2 : Int) ^ x.toNat))) ∧ x ∈ GB.hl (Builtin.bitOr n (1 * (2 : Int) ^ x.toNat)) := by
  have p : (1 * (2 : Int) ^ x.toNat) = ((2 ^ x.toNat : Nat) : Int) := by rw [Int.one_mul]; push_cast; rfl
  rw [p, bitOr_pp n0 (Int.natCast_nonneg _), Int.toNat_natCast]
  have b1 : n.toNat < 2 ^ 63 := by have : (2 : Nat) ^ 63 = 9223372036854775808 := (by decide +kernel); omega
  have b2 : 2 ^ x.toNat < 2 ^ 63 := Nat.pow_lt_pow_right (by decide) (by omega)
  have b3 := Nat.or_lt_two_pow b1 b2
  refine ⟨by omega, by have : (2 : Nat) ^ 63 = 9223372036854775808 := (by decide +kernel); omega, fun h hh => ?_, ?_⟩
  · have hr := (hl_hs n).rg h hh
    rw [show h = ((h.toNat : Nat) : Int) by omega] at hh ⊢
    rw [GB.hl_mem] at hh ⊢
    rw [Int.toNat_natCast, Nat.testBit_or, hh.2]
    exact ⟨hh.1, rfl⟩
  · rw [show x = ((x.toNat : Nat) : Int) by omega, GB.hl_mem, Int.toNat_natCast, Nat.testBit_or, Int.toNat_natCast, Nat.testBit_two_pow_self, Bool.or_true]
    exact ⟨by omega, rfl⟩

structure NwT (K : PySem.W.Frag) (mg : Str → Option Value) (A B : Hp) (p d : Addr) (rs : List (Int × V)) (hs : List Int) : Prop where
  sm : Same A B
  kn : KnAt K mg B p d rs (hs.map fun h => (h, []))
  np : A p = none
  nd : A d = none
  nr : ∀ q ∈ rs, ∀ r, q.2 = V.ref r → A r = none
theorem nwT {A A1 B : Hp} {p d dx C : Addr} {rs : List (Int × V)} {n : Int} (eC : mg "Known" = some (.ref C)) (hp : A p = none) (s1 : Same A A1) (k5 : ∀ b o, A1 b = some o → b ≠ p → B b = some o) (g5 : B p = some (.ins C dx [("learnt", .ref d)])) (gd : B d = some (.dK (dG rs))) (hrw : Rws B rs ((GB.hl n).map fun h => (h, []))) (hap : ∀ q ∈ rs, q.2 ≠ V.ref d)
    (hd : A1 d = none) (hr : ∀ q ∈ rs, ∀ r, q.2 = V.ref r → A1 r = none) : NwT K mg A B p d rs (GB.hl n) := by
  have hks : ((GB.hl n).map fun h => (h, ([] : List (Int × Int)))).map (·.1) = GB.hl n := by
    rw [List.map_map]
    exact List.map_id' _
  refine ⟨fun b o e => k5 b o (s1 _ _ e) (fun z => by rw [z, hp] at e; cases e), ⟨⟨C, dx, eC, g5⟩, gd, hrw, by rw [hks]; exact hl_hs n, fun e he => by obtain ⟨h, _, rfl⟩ := List.mem_map.mp he; exact Td.nil, hap⟩, hp, s1.free hd, fun q hq r e => s1.free (hr q hq r e)⟩
theorem tbl_nils : ∀ (hs : List Int) (h : Int), (tbl (hs.map fun h => (h, ([] : List (Int × Int)))) h).getD [] = []
  | [], _ => rfl
  | x :: hs, h => by
    show ((if x = h then some [] else tbl (hs.map fun h => (h, [])) h)).getD [] = []
    by_cases z : x = h
    · rw [if_pos z]; rfl
    · rw [if_neg z]; exact tbl_nils hs h

def Born (c : Nat → Hp) (i : Nat) (b : Addr) : Prop := c i b = none ∧ ∃ o, c (i + 1) b = some o
theorem chain_le {c : Nat → Hp} (s : ∀ i, Same (c i) (c (i + 1))) {i : Nat} : ∀ (k : Nat), Same (c i) (c (i + k))
  | 0 => .refl _
  | k + 1 => (chain_le s k).trans (s (i + k))
theorem Born.one {c : Nat → Hp} (s : ∀ i, Same (c i) (c (i + 1))) {i j : Nat} {b : Addr} (x : Born c i b) (y : Born c j b) : i = j := by
  have key : ∀ {i j : Nat}, Born c i b → Born c j b → i < j → False := fun {i j} x y h => by
    obtain ⟨o, e⟩ := x.2
    have := chain_le s (i := i + 1) (j - (i + 1)) b o e
    rw [show i + 1 + (j - (i + 1)) = j by omega, y.1] at this
    cases this
  rcases Nat.lt_trichotomy i j with z | z | z
  · exact (key x y z).elim
  · exact z
  · exact (key y x z).elim
theorem fou_new {c : Nat → Hp} (s : ∀ i, Same (c i) (c (i + 1))) {p d D : Nat → Addr} {rs : Nat → List (Int × V)} {hs : Nat → List Int} (tb : ∀ i, i < 4 → NwT K mg (c i) (c (i + 1)) (p i) (d i) (rs i) (hs i)) (nD : ∀ i, i < 4 → c (5 + i) (D i) = none) (gD : ∀ i, i < 4 → c (5 + i + 1) (D i) = some (.dK [])) :
    ∃ f M F, Fou K mg (c 9) p D hs f M F := by
  have bp : ∀ i, i < 4 → Born c i (p i) := fun i hi => by
    obtain ⟨C, dx, _, e⟩ := (tb i hi).kn.ob
    exact ⟨(tb i hi).np, _, e⟩
  have bd : ∀ i, i < 4 → Born c i (d i) := fun i hi => ⟨(tb i hi).nd, _, (tb i hi).kn.dc⟩
  have br : ∀ i, i < 4 → ∀ q ∈ rs i, ∀ r, q.2 = V.ref r → Born c i r := fun i hi q hq r e => by
    obtain ⟨m, z⟩ := rws_al (tb i hi).kn.rw q hq r e
    exact ⟨(tb i hi).nr q hq r e, _, z⟩
  have bD : ∀ i, i < 4 → Born c (5 + i) (D i) := fun i hi => ⟨nD i hi, _, gD i hi⟩
  have up : ∀ i j, i ≤ j → Same (c i) (c j) := fun i j h => by
    have := chain_le s (i := i) (j - i)
    rw [show i + (j - i) = j by omega] at this
    exact this
  refine ⟨fun _ => dw [], fun i => MuS (d i) (D i) [], fun i => FoS (p i) (d i) (D i) (rs i) [], fun i hi => ?_, fun i j hi hj ne b hb hf => ?_⟩
  · have t := tb i hi
    have hks : ((hs i).map fun h => (h, ([] : List (Int × Int)))).map (·.1) = hs i := by
      rw [List.map_map]
      exact List.map_id' _
    have dD : d i ≠ D i := fun z => by
      have := Born.one s (bd i hi) (z ▸ bD i hi)
      omega
    refine ⟨d i, rs i, _, [], [], ⟨knUp (up (i + 1) 9 (by omega)) t.kn, ⟨up (5 + i + 1) 9 (by omega) _ _ (gD i hi), .nil, .nil, (fun q hq => nomatch hq), (fun q hq => nomatch hq), (fun q hq => nomatch hq), (fun q hq => nomatch hq)⟩, hks, fun h _ k => by rw [tbl_nils]; rfl, fun h _ k => rfl, dD, fun q hq z => ?_, fun q hq => (nomatch hq), fun q _ q' hq' => (nomatch hq')⟩, rfl, rfl, rfl⟩
    have := Born.one s (br i hi q hq _ z) (bD i hi)
    omega
  · have m : Born c i b ∨ Born c (5 + i) b := by
      rcases hb with z | z | ⟨q, hq, _⟩
      · rw [z]; exact .inl (bd i hi)
      · rw [z]; exact .inr (bD i hi)
      · cases hq
    have n : Born c j b ∨ Born c (5 + j) b := by
      rcases hf with z | (z | z | ⟨q, hq, _⟩) | ⟨q, hq, e⟩
      · rw [z]; exact .inl (bp j hj)
      · rw [z]; exact .inl (bd j hj)
      · rw [z]; exact .inr (bD j hj)
      · cases hq
      · exact .inl (br j hj q hq b e)
    rcases m with m | m <;> rcases n with n | n <;> (have := Born.one s m n; omega)

def KpL (q : Addr) (H H' : Hp) : Prop := ∀ b o, (∀ kvs, o ≠ .dK kvs) → b ≠ q → H b = some o → H' b = some o
theorem KpL.of {q : Addr} {A B : Hp} (s : KpD A B) : KpL q A B := fun b o n _ e => s b o n e
theorem KpL.trans {q : Addr} {A B C : Hp} (x : KpL q A B) (y : KpL q B C) : KpL q A C := fun b o n z e => y b o n z (x b o n z e)
theorem kv_put {A : Hp} {kv : Nat → V} {i : Nat} (hi : i < 4) {v : V} : ((List.range 4).map kv).set i v = (List.range 4).map (fset kv i v) := by
  match i, hi with
  | 0, _ => rfl
  | 1, _ => rfl
  | 2, _ => rfl
  | 3, _ => rfl
theorem TDu.mid {H H1 : Hp} {p d D : Addr} {hs : List Int} {rs ds : List (Int × V)} {tb du : List (Int × List (Int × Int))} (t : TDu K mg H p d D hs rs tb ds du) (s1 : SmB d H H1) : Du H1 D ds du :=
  ⟨s1 _ _ (fun z => t.ne z.symm) t.dd.dc, rws_fo t.dd.rw fun q hq r o e z => s1 _ _ (fun w => t.n2 q hq (by rw [e, w])) z, t.dd.nd, t.dd.rg, t.dd.ap, t.dd.inj, t.dd.td⟩
theorem TDu.lrn {H : Hp} {p d D : Addr} {hs : List Int} {rs ds : List (Int × V)} {tb du tb1 du2 : List (Int × List (Int × Int))} {h : Int} {n : List (Int × Int)} (t : TDu K mg H p d D hs rs tb ds du) (hh : h ∈ hs) (z2 : ∀ m0, tbl tb h = some m0 → ∃ j, Td j ∧ (∀ k, IsMx [m0, n] k (ct j k)) ∧ tb1 = putT tb h j)
    (dA : ∀ g k, dw du2 g k = if g = h then max (dw du g k) (ct n k) else dw du g k) : tb1.map (·.1) = tb.map (·.1) ∧ (∀ g ∈ hs, ∀ k, ct ((tbl tb1 g).getD []) k = dw du2 g k) ∧ (∀ g, g ∉ hs → ∀ k, dw du2 g k = 0) := by
  obtain ⟨m0, e0⟩ := Option.isSome_iff_exists.mp (tbl_key.mpr (show h ∈ tb.map (·.1) by rw [t.hsE]; exact hh))
  obtain ⟨j, _, mx, ej⟩ := z2 m0 e0
  refine ⟨by rw [ej, putT_keys], fun g hg k => ?_, fun g hg k => ?_⟩
  · rw [dA, ej, putT_tbl, ← t.eq g hg k]
    by_cases w : g = h
    · rw [if_pos w, if_pos ⟨w, by rw [e0]; rfl⟩, w, e0]
      exact isMx_max2 (mx k)
    · rw [if_neg w, if_neg (fun u => w u.1)]
  · rw [dA, if_neg (fun w => hg (by rw [w]; exact hh))]
    exact t.out g hg k
theorem ite_share {c : Bool} {P Q : Prop} (hp : P) (hq : P → ¬ c = true → Q) : if c = true then P else Q := ite2 (fun _ => hp) (hq hp)
theorem at2v (v w : V) (x : Int) : ∃ u, atI [v, w] (x % 2) = some u ∧ (u = v ∨ u = w) := by
  have h0 := Int.emod_nonneg x (show (2 : Int) ≠ 0 by decide)
  have h1 := Int.emod_lt_of_pos x (show (0 : Int) < 2 by decide)
  rcases (show x % 2 = 0 ∨ x % 2 = 1 by omega) with z | z <;> rw [z]
  · exact ⟨v, by kernel_rfl, .inl rfl⟩
  · exact ⟨w, by kernel_rfl, .inr rfl⟩
def sp_law (K : PySem.W.Frag) : Sp := fun vs H Q _ => ∃ (a : Addr) (ns : List Int), vs = [.ref a] ∧ SqL K H a (ns.map V.int) ∧ ns.length ≤ 63 ∧ ∀ H', Q (.bl true) H'
theorem sc_law : FnScope ["_law_script", "_law_hands_here", "_law_more_here", "_law_whole", "_law_tables", "_law_dues", "_law_kept", "_law_cell", "_law_xs", "_law_at", "_law_hand", "_law_counts_here", "_law_listed_here", "_law_found"] ["_law_script"] (defScope s_law) := ⟨rfl, rfl, rfl, by decide +kernel, rfl, by decide +kernel, by decide +kernel⟩
set_option maxHeartbeats 8000000 in
theorem ok_law {f f_Known___init__ f_Known_learn f_Known_listed f__law_cell_at f__law_stream f__law_hands f__law_counts f__law_more f__law_learn f__law_listed f__law_plain f__law_merge f__law_ended C_Known : Addr} {fd fd_Known___init__ fd_Known_learn fd_Known_listed fd__law_cell_at fd__law_stream fd__law_hands fd__law_counts fd__law_more fd__law_learn fd__law_listed fd__law_plain fd__law_merge fd__law_ended : FuncData} (F : Fun K "law" "law" s_law f fd)
    (G_Known___init__ : FnOk P w K mg base CX0 5 f_Known___init__ fd_Known___init__ ["self", "hands"] (sp_Known___init__ K)) (B_Known___init__ : Binds K fd_Known___init__ ["self", "hands"] [])
    (G_Known_learn : FnOk P w K mg base CX0 6 f_Known_learn fd_Known_learn ["self", "hand", "counts"] (sp_Known_learn K mg)) (B_Known_learn : Binds K fd_Known_learn ["self", "hand", "counts"] [])
    (G_Known_listed : FnOk P w K mg base CX0 6 f_Known_listed fd_Known_listed ["self"] (sp_Known_listed K mg)) (B_Known_listed : Binds K fd_Known_listed ["self"] [])
    (G__law_cell_at : FnOk P w K mg base CX0 6 f__law_cell_at fd__law_cell_at ["_law_script", "_law_k"] (sp__law_cell_at K)) (C__law_cell_at : Cal K mg "_law_cell_at" f__law_cell_at fd__law_cell_at ["_law_script", "_law_k"])
    (G__law_stream : FnOk P w K mg base CX0 6 f__law_stream fd__law_stream ["_law_cell", "_law_amount"] (sp__law_stream K)) (C__law_stream : Cal K mg "_law_stream" f__law_stream fd__law_stream ["_law_cell", "_law_amount"])
    (G__law_hands : FnOk P w K mg base CX0 6 f__law_hands fd__law_hands ["_law_cell"] (sp__law_hands K)) (C__law_hands : Cal K mg "_law_hands" f__law_hands fd__law_hands ["_law_cell"])
    (G__law_counts : FnOk P w K mg base CX0 6 f__law_counts fd__law_counts ["_law_xs", "_law_cell"] (sp__law_counts K)) (C__law_counts : Cal K mg "_law_counts" f__law_counts fd__law_counts ["_law_xs", "_law_cell"])
    (G__law_more : FnOk P w K mg base CX0 6 f__law_more fd__law_more ["_law_hands_here", "_law_cell"] (sp__law_more K)) (C__law_more : Cal K mg "_law_more" f__law_more fd__law_more ["_law_hands_here", "_law_cell"])
    (G__law_learn : FnOk P w K mg base CX0 6 f__law_learn fd__law_learn ["_law_due", "_law_hand", "_law_counts_here"] (sp__law_learn K)) (C__law_learn : Cal K mg "_law_learn" f__law_learn fd__law_learn ["_law_due", "_law_hand", "_law_counts_here"])
    (G__law_listed : FnOk P w K mg base CX0 6 f__law_listed fd__law_listed ["_law_due"] (sp__law_listed K)) (C__law_listed : Cal K mg "_law_listed" f__law_listed fd__law_listed ["_law_due"])
    (G__law_plain : FnOk P w K mg base CX0 6 f__law_plain fd__law_plain ["_law_found"] (sp__law_plain K)) (C__law_plain : Cal K mg "_law_plain" f__law_plain fd__law_plain ["_law_found"])
    (G__law_merge : FnOk P w K mg base CX0 6 f__law_merge fd__law_merge ["_law_table", "_law_due", "_law_hands_here", "_law_listed_here"] (sp__law_merge K mg)) (C__law_merge : Cal K mg "_law_merge" f__law_merge fd__law_merge ["_law_table", "_law_due", "_law_hands_here", "_law_listed_here"])
    (G__law_ended : FnOk P w K mg base CX0 6 f__law_ended fd__law_ended ["_law_tables", "_law_dues", "_law_hands_here"] (sp__law_ended K mg)) (C__law_ended : Cal K mg "_law_ended" f__law_ended fd__law_ended ["_law_tables", "_law_dues", "_law_hands_here"]) (h_len : mg "len" = none) (h_sum : mg "sum" = none) (T_Known : TKnown K C_Known) (m_Known : mg "Known" = some (.ref C_Known)) (M_Known : Mk K C_Known f_Known___init__) (mt_Known_learn : Meth K C_Known "learn" f_Known_learn) (mt_Known_listed : Meth K C_Known "listed" f_Known_listed) : FnOk P w K mg base CX0 7 f fd ["_law_script"] (sp_law K) := by
  refine F.ok sc_law (fun vs H Q E h => ?_) (fun cdv A outer s H vs Q E hr h => ?_)
  · obtain ⟨a, ks, rfl, _⟩ := h
    rfl
  obtain ⟨a, ks, rfl, h⟩ := h
  have hu64 := hr.units
  have hu0 := hr.units0
  have hu := hu_of hr
  refine ⟨_, (pss_cons (ps_set (i := 1) sc_law.nd rfl (Or.inl rfl) (pcall G__law_hands C__law_hands hr (pa_cons (pcall G__law_cell_at C__law_cell_at hr (pa_cons (pv 0) (pa_cons pe_int pa_nil))) pa_nil)))
      (pss_cons (ps_set (i := 2) sc_law.nd rfl (Or.inl rfl) (pcall G__law_more C__law_more hr (pa_cons (pv 1) (pa_cons (pe_op op_fdiv (pcall G__law_cell_at C__law_cell_at hr (pa_cons (pv 0) (pa_cons pe_int pa_nil))) pe_int) pa_nil))))
      (pss_cons (ps_set (i := 3) sc_law.nd rfl (Or.inl rfl) (pe_callB (call_sumI rfl) (by rfl) h_sum PyProof.Rows.boot_sum (pa_cons (pe_comp ["_law_hand"] [none] rfl rfl (by kernel_rfl) (pi_listK (K := K) rfl (pv 1)) (fun _ _ _ _ _ nd => pg_name (i := 0) nd rfl (Or.inl rfl)) (fun _ _ _ _ _ => pif_nil) (fun _ _ _ _ _ => (pe_op op_shl pe_int (pv 0)))) pa_nil)))
      (pss_cons (ps_set (i := 4) sc_law.nd rfl (Or.inl rfl) (pe_lst (pa_cons (pe_make M_Known G_Known___init__ hr rfl m_Known B_Known___init__ .nil pass0 (pa_cons (pv 3) pa_nil)) (pa_cons (pe_make M_Known G_Known___init__ hr rfl m_Known B_Known___init__ .nil pass0 (pa_cons (pv 3) pa_nil)) (pa_cons (pe_make M_Known G_Known___init__ hr rfl m_Known B_Known___init__ .nil pass0 (pa_cons (pv 3) pa_nil)) (pa_cons (pe_make M_Known G_Known___init__ hr rfl m_Known B_Known___init__ .nil pass0 (pa_cons (pe_op op_or (pv 3) (pe_op op_shl pe_int (pv 2))) pa_nil)) pa_nil))))))
      (pss_cons (ps_set (i := 5) sc_law.nd rfl (Or.inl rfl) (pe_lst (pa_cons pe_dnewK (pa_cons pe_dnewK (pa_cons pe_dnewK (pa_cons pe_dnewK pa_nil))))))
      (pss_cons (ps_set (i := 6) sc_law.nd rfl (Or.inl rfl) (pe_lst (pa_cons (pe_tup pa_nil) (pa_cons (pe_tup pa_nil) (pa_cons (pe_tup pa_nil) (pa_cons (pe_tup pa_nil) pa_nil))))))
      (pss_cons (ps_for PassesOwn.never rfl (pi_listK (K := K) rfl (pe_slice (sl_listK (K := K) rfl) (pv 0) (po_some pe_int) (po_some pe_int))) (pg_name (i := 7) sc_law.nd rfl (Or.inl rfl))
      (pss_cons (ps_set (i := 8) sc_law.nd rfl (Or.inl rfl) (pcall G__law_stream C__law_stream hr (pa_cons (pv 7) (pa_cons pe_int pa_nil))))
      (pss_cons (ps_set (i := 9) sc_law.nd rfl (Or.inl rfl) (pe_op op_mod (pe_ix (ix_listK (K := K) rfl) (pv 8) pe_int (fun _ _ => rfl)) pe_int))
      (pss_cons (ps_set (i := 10) sc_law.nd rfl (Or.inl rfl) (pe_ix (ix_listK (K := K) rfl) (pv 1) (pe_op op_mod (pe_ix (ix_listK (K := K) rfl) (pv 8) pe_int (fun _ _ => rfl)) (pe_callB (call_lenK (K := K) rfl) (by rfl) h_len PySem.boot_len (pa_cons (pv 1) pa_nil))) (fun _ _ => rfl)))
      (pss_cons (ps_if (PW.pt (pw_and (pt_cmpR op_eq (pv 9) pe_int (nomark _)) (pw_and1 (pt_cmpR op_eq (pe_op op_mod (pe_ix (ix_listK (K := K) rfl) (pv 8) pe_int (fun _ _ => rfl)) pe_int) pe_int (nomark _))))) (pss_one (ps_set (i := 10) sc_law.nd rfl (Or.inl rfl) (pv 2))) pss_nil)
      (pss_cons (ps_if (PW.pt (pw_or (pt_cmpR op_gt (pe_op op_mod (pe_ix (ix_listK (K := K) rfl) (pv 8) pe_int (fun _ _ => rfl)) pe_int) pe_int (nomark _)) (pw_or1 (pt_cmpR op_eq (pv 9) pe_int (nomark _))))) (pss_cons (ps_set (i := 11) sc_law.nd rfl (Or.inl rfl) (pcall G__law_counts C__law_counts hr (pa_cons (pv 8) (pa_cons (pv 7) pa_nil))))
      (pss_cons (ps_expr (pe_methS (MOk.cons T_Known.cl mt_Known_learn G_Known_learn B_Known_learn MOk.nil) (pe_ix (ix_listK (K := K) rfl) (pv 4) (pv 9) (fun _ _ => rfl)) hr (pa_cons (pv 10) (pa_cons (pv 11) pa_nil))))
      (pss_one (ps_expr (pcall G__law_learn C__law_learn hr (pa_cons (pe_ix (ix_listK (K := K) rfl) (pv 5) (pv 9) (fun _ _ => rfl)) (pa_cons (pv 10) (pa_cons (pv 11) pa_nil)))))))) (pss_cons (ps_set (i := 12) sc_law.nd rfl (Or.inl rfl) (pe_ix (ix_listK (K := K) rfl) (pe_lst (pa_cons (pe_ix (ix_listK (K := K) rfl) (pv 6) (pe_op op_mod (pe_ix (ix_listK (K := K) rfl) (pv 8) pe_int (fun _ _ => rfl)) pe_int) (fun _ _ => rfl)) (pa_cons (pcall G__law_listed C__law_listed hr (pa_cons (pe_ix (ix_listK (K := K) rfl) (pv 5) (pe_op op_mod (pe_ix (ix_listK (K := K) rfl) (pv 8) pe_int (fun _ _ => rfl)) pe_int) (fun _ _ => rfl)) pa_nil)) pa_nil))) (pe_op op_mod (pe_op op_fdiv (pe_ix (ix_listK (K := K) rfl) (pv 8) pe_int (fun _ _ => rfl)) pe_int) pe_int) (fun _ _ => rfl)))
      (pss_one (ps_expr (pcall G__law_merge C__law_merge hr (pa_cons (pe_ix (ix_listK (K := K) rfl) (pv 4) (pv 9) (fun _ _ => rfl)) (pa_cons (pe_ix (ix_listK (K := K) rfl) (pv 5) (pv 9) (fun _ _ => rfl)) (pa_cons (pv 1) (pa_cons (pv 12) pa_nil)))))))))
      (pss_cons (ps_set (i := 13) sc_law.nd rfl (Or.inl rfl) (pe_methS0 (MOk.cons T_Known.cl mt_Known_listed G_Known_listed B_Known_listed MOk.nil) (pe_ix (ix_listK (K := K) rfl) (pv 4) (pv 9) (fun _ _ => rfl)) hr))
      (pss_cons (ps_if (PW.pt (pw_or (pt_not (pt_callK K rfl (pcall G__law_plain C__law_plain hr (pa_cons (pv 13) pa_nil)))) (pw_or1 (pt_cmpR (op_neK (K := K) rfl hu64) (pv 13) (pcall G__law_listed C__law_listed hr (pa_cons (pe_ix (ix_listK (K := K) rfl) (pv 5) (pv 9) (fun _ _ => rfl)) pa_nil)) (nomark _))))) (pss_one (ps_ret pe_bl)) pss_nil)
      (pss_one (ps_asg (pv 13) (pg_sub (pv 6) (pv 9) set_list)))))))))))
      (pss_one (ps_ret (pcall G__law_ended C__law_ended hr (pa_cons (pv 4) (pa_cons (pv 5) (pa_cons (pv 1) pa_nil))))))))))))), ?_⟩
  obtain ⟨hS, hlen, k⟩ := h
  obtain ⟨cl, n1⟩ := id T_Known
  clean_wf
  refine ⟨a, 0, rfl, ks, hS, by decide, fun c0 => ?_⟩
  clean_wf
  refine ⟨c0, rfl, fun H1 l hs s1 hl g1 Hh hne hl6 => ?_⟩
  have hS1 := s1.seq hS
  clean_wf
  refine ⟨a, 0, rfl, ks, hS1, by decide, fun c1 => ?_⟩
  clean_wf
  refine ⟨l, _, rfl, hs, g1, hl6, fun H2 mo s2 m0 m1 mn => ?_⟩
  have hS2 := s2.seq hS1
  have g12 := s2 _ _ g1
  clean_wf
  intro D0 hD0
  refine comp_list (K := K) (a := l) (xs := hs.map V.int) (fun i σ H' => ∃ v, σ = [v] ∧ Same H2 H' ∧ H' D0 = some (.lst (((hs.take i).map fun h => 1 * (2 : Int) ^ h.toNat).map V.int))) ⟨none, rfl, same_upd hD0, upd_same⟩ ?_ ?_ ?_
  · rintro i σ H' _ ⟨_, _, z, _⟩
    exact SqL.of (z _ _ g12)
  · rintro i x σ H' hx ⟨v, rfl, sm, hDx⟩
    obtain ⟨h, hh, rfl⟩ := int_get hx
    have hi := (List.getElem?_eq_some_iff.mp hh).1
    have hr := Hh.rg h (List.mem_of_getElem? hh)
    have cp : CPow 1 h := ⟨hr.1, by omega, by decide⟩
    clean_wf
    refine ⟨_, hDx, ?_, _, rfl, fun b o z => ?_, ?_⟩
    · rw [List.length_map, List.length_map, List.length_take]
      exact small1000 (by omega)
    · rw [upd_ne (ne_of_none z hD0)]
      exact sm b o z
    · rw [upd_same, take_get hh, List.map_append, List.map_append]
      rfl
  rintro σ H3 ⟨v, rfl, s3, hD3⟩
  rw [show hs.take (hs.map V.int).length = hs by rw [List.length_map, List.take_length]] at hD3
  obtain ⟨n0, n1', n2⟩ := Hh.set
  refine ⟨D0, _, rfl, SqL.of hD3, ?_⟩
  generalize (hs.map fun h => 1 * (2 : Int) ^ h.toNat).sum = n at n0 n1' n2 ⊢
  obtain ⟨o0, o1, o2, o3⟩ := hl_or n0 n1' m0 m1
  have cpm : CPow 1 mo := ⟨m0, by omega, by decide⟩
  clean_wf
  intro p0 x0 B0' hp0 t0 u0
  refine ⟨p0, _, rfl, _, x0, T_Known, u0, n0, n1', fun B1 d0 rs0 k0 q0 y0 r0 a0 f0 w0 => ⟨rfl, ?_⟩⟩
  have N0 := nwT (K := K) (mg := mg) m_Known hp0 t0 k0 q0 y0 r0 a0 f0 w0
  clean_wf
  intro p1 x1 B1' hp1 t1 u1
  refine ⟨p1, _, rfl, _, x1, T_Known, u1, n0, n1', fun B2 d1 rs1 k1 q1 y1 r1 a1 f1 w1 => ⟨rfl, ?_⟩⟩
  have N1 := nwT (K := K) (mg := mg) m_Known hp1 t1 k1 q1 y1 r1 a1 f1 w1
  clean_wf
  intro p2 x2 B2' hp2 t2 u2
  refine ⟨p2, _, rfl, _, x2, T_Known, u2, n0, n1', fun B3 d2 rs2 k2 q2 y2 r2 a2 f2 w2 => ⟨rfl, ?_⟩⟩
  have N2 := nwT (K := K) (mg := mg) m_Known hp2 t2 k2 q2 y2 r2 a2 f2 w2
  clean_wf
  intro p3 x3 B3' hp3 t3 u3
  refine ⟨p3, _, rfl, _, x3, T_Known, u3, o0, o1, fun B4 d3 rs3 k3 q3 y3 r3 a3 f3 w3 => ⟨rfl, ?_⟩⟩
  have N3 := nwT (K := K) (mg := mg) m_Known hp3 t3 k3 q3 y3 r3 a3 f3 w3
  rw [n2] at N0 N1 N2
  generalize Builtin.bitOr n (1 * (2 : Int) ^ mo.toNat) = n' at *
  clean_wf
  intro T B5 hT s5 gT
  clean_wf
  intro D0' B6 hE0 s6 e0
  clean_wf
  intro D1' B7 hE1 s7 e1
  clean_wf
  intro D2' B8 hE2 s8 e2
  clean_wf
  intro D3' B9 hE3 s9 e3
  clean_wf
  intro U B10 hU s10 gU
  clean_wf
  intro z0 B11 hz0 s11 c0'
  clean_wf
  intro z1 B12 hz1 s12 c1'
  clean_wf
  intro z2 B13 hz2 s13 c2'
  clean_wf
  intro z3 B14 hz3 s14 c3'
  clean_wf
  intro Kp B15 hKp s15 gK
  obtain ⟨p, hpE⟩ : ∃ p : Nat → Addr, p = fun i => match i with | 0 => p0 | 1 => p1 | 2 => p2 | _ => p3 := ⟨_, rfl⟩
  obtain ⟨D, hDE⟩ : ∃ D : Nat → Addr, D = fun i => match i with | 0 => D0' | 1 => D1' | 2 => D2' | _ => D3' := ⟨_, rfl⟩
  obtain ⟨hq, hqE⟩ : ∃ hq : Nat → List Int, hq = fun i => match i with | 3 => GB.hl n' | _ => hs := ⟨_, rfl⟩
  obtain ⟨f, M, F, t⟩ : ∃ f M F, Fou K mg B9 p D hq f M F := by
    refine fou_new (K := K) (mg := mg) (c := fun i => match i with | 0 => H3 | 1 => B1 | 2 => B2 | 3 => B3 | 4 => B4 | 5 => B5 | 6 => B6 | 7 => B7 | 8 => B8 | _ => B9) (d := fun i => match i with | 0 => d0 | 1 => d1 | 2 => d2 | _ => d3) (rs := fun i => match i with | 0 => rs0 | 1 => rs1 | 2 => rs2 | _ => rs3) (fun i => ?_) (fun i hi => ?_) (fun i hi => ?_) (fun i hi => ?_)
    · match i with
      | 0 => exact N0.sm
      | 1 => exact N1.sm
      | 2 => exact N2.sm
      | 3 => exact N3.sm
      | 4 => exact s5
      | 5 => exact s6
      | 6 => exact s7
      | 7 => exact s8
      | 8 => exact s9
      | _ + 9 => exact .refl _
    · subst hpE hqE
      match i, hi with
      | 0, _ => exact N0
      | 1, _ => exact N1
      | 2, _ => exact N2
      | 3, _ => exact N3
    · subst hDE
      match i, hi with
      | 0, _ => exact hE0
      | 1, _ => exact hE1
      | 2, _ => exact hE2
      | 3, _ => exact hE3
    · subst hDE
      match i, hi with
      | 0, _ => exact e0
      | 1, _ => exact e1
      | 2, _ => exact e2
      | 3, _ => exact e3
  have q3 : ∀ i, i < 3 → hq i = hq 0 := fun i hi => by
    subst hqE
    match i, hi with
    | 0, _ => rfl
    | 1, _ => rfl
    | 2, _ => rfl
  have q0E : hq 0 = hs := by subst hqE; rfl
  have q03 : ∀ h ∈ hq 0, h ∈ hq 3 := fun h hh => by
    rw [q0E, ← n2] at hh
    subst hqE
    exact o2 h hh
  have qmo : mo ∈ hq 3 := by subst hqE; exact o3
  have s2_4 : Same H2 B4 := s3.trans (N0.sm.trans (N1.sm.trans (N2.sm.trans N3.sm)))
  have s915 : Same B9 B15 := s10.trans (s11.trans (s12.trans (s13.trans (s14.trans s15))))
  have t15 := t.up s915
  have s215 : Same H2 B15 := s2_4.trans (s5.trans (s6.trans (s7.trans (s8.trans (s9.trans s915)))))
  have gl15 := s215 _ _ g12
  have gT15 : B15 T = some (.lst ((List.range 4).map fun i => V.ref (p i))) := by rw [(s6.trans (s7.trans (s8.trans (s9.trans s915)))) _ _ gT]; subst hpE; rfl
  have gU15 : B15 U = some (.lst ((List.range 4).map fun i => V.ref (D i))) := by rw [(s11.trans (s12.trans (s13.trans (s14.trans s15)))) _ _ gU]; subst hDE; rfl
  have hS15 := s215.seq hS2
  obtain ⟨kv, hkE⟩ : ∃ kv : Nat → V, kv = fun i => match i with | 0 => V.ref z0 | 1 => V.ref z1 | 2 => V.ref z2 | _ => V.ref z3 := ⟨_, rfl⟩
  have gK15 : B15 Kp = some (.lst ((List.range 4).map kv)) := by rw [gK]; subst hkE; rfl
  have kv15 : ∀ m, m < 4 → ∃ ls, TVl B15 (kv m) ls ∧ GdL ls := fun m hm => by
    refine ⟨[], ?_, ⟨by decide, fun e he => (nomatch he), .nil⟩⟩
    subst hkE
    match m, hm with
    | 0, _ => exact ⟨z0, [], rfl, (s12.trans (s13.trans (s14.trans s15))) _ _ c0', .nil⟩
    | 1, _ => exact ⟨z1, [], rfl, (s13.trans (s14.trans s15)) _ _ c1', .nil⟩
    | 2, _ => exact ⟨z2, [], rfl, (s14.trans s15) _ _ c2', .nil⟩
    | 3, _ => exact ⟨z3, [], rfl, s15 _ _ c3', .nil⟩
  have nKl : Kp ≠ l := fun z => by rw [z] at hKp; rw [(s2_4.trans (s5.trans (s6.trans (s7.trans (s8.trans (s9.trans (s10.trans (s11.trans (s12.trans (s13.trans s14)))))))))) _ _ g12] at hKp; cases hKp
  have nKT : Kp ≠ T := fun z => by rw [z] at hKp; rw [(s6.trans (s7.trans (s8.trans (s9.trans (s10.trans (s11.trans (s12.trans (s13.trans s14)))))))) _ _ gT] at hKp; cases hKp
  have nKU : Kp ≠ U := fun z => by rw [z] at hKp; rw [(s11.trans (s12.trans (s13.trans s14))) _ _ gU] at hKp; cases hKp
  clear hpE hDE hqE hkE N0 N1 N2 N3 t
  clean_wf
  intro q7 C hq7 sC gq7
  obtain ⟨ws, ew, lw⟩ := cut_ints ks (some 1) (some 31)
  rw [ew] at gq7
  have nK7 : Kp ≠ q7 := fun z => by rw [z] at gK15; rw [hq7] at gK15; cases gK15
  refine ⟨_, rfl, ⟨_, SqL.of gq7⟩, ?_⟩
  refine for_list (xs := ws.map V.int) (fun i σ A => ∃ v7 v8 v9 v10 v11 v12 v13 kv g M' F', σ = [some (.ref a), some (.ref l), some (.int mo), some (.int n), some (.ref T), some (.ref U), some (.ref Kp), v7, v8, v9, v10, v11, v12, v13] ∧ KpL Kp C A ∧ A Kp = some (.lst ((List.range 4).map kv)) ∧ (∀ m, m < 4 → ∃ ls, TVl A (kv m) ls ∧ GdL ls) ∧ Fou K mg A p D hq g M' F')
    ⟨_, _, _, _, _, _, _, kv, f, M, F, rfl, fun _ _ _ _ e => e, sC _ _ gK15, fun m hm => by obtain ⟨ls, h1, h2⟩ := kv15 m hm; exact ⟨ls, h1.up fun a xs z => sC _ _ z, h2⟩, t15.up sC⟩ (fun i σ A _ z => by obtain ⟨_, _, _, _, _, _, _, _, _, _, _, _, z, _⟩ := z; exact SqL.of (z _ _ (by intro _ w; cases w) nK7.symm gq7)) ?_ ?_
  · rintro i x σ A hx ⟨v7, v8, v9, v10, v11, v12, v13, kv, g, M', F', rfl, kA, gA, tv, tA⟩
    obtain ⟨cc, hcc, rfl⟩ := int_get hx
    clean_wf
    refine ⟨cc, 12, rfl, by decide, by decide, fun A1 xa xs s1' hxa g1' lx hm => ?_⟩
    have lx : xs.length = 12 := lx
    have hxs := SqL.of (K := K) g1'
    have at8 := at_int (xs := xs) (i := 8) (by omega)
    have at9 := at_int (xs := xs) (i := 9) (by omega)
    have at10 := at_int (xs := xs) (i := 10) (by omega)
    have at11 := at_int (xs := xs) (i := 11) (by omega)
    have glA := kA _ _ (by intro _ w; cases w) nKl.symm (sC _ _ gl15)
    have gTA := kA _ _ (by intro _ w; cases w) nKT.symm (sC _ _ gT15)
    have gUA := kA _ _ (by intro _ w; cases w) nKU.symm (sC _ _ gU15)
    have gl1 := s1' _ _ glA
    have gT1 := s1' _ _ gTA
    have gU1 := s1' _ _ gUA
    have gK1 := s1' _ _ gA
    have t1' := tA.up s1'
    have tv1 : ∀ m, m < 4 → ∃ ls, TVl A1 (kv m) ls ∧ GdL ls := fun m hm => by obtain ⟨ls, h1, h2⟩ := tv m hm; exact ⟨ls, h1.up fun a xs z => s1' _ _ z, h2⟩
    have k1' : KpL Kp C A1 := kA.trans (.of (.same s1'))
    obtain ⟨at8', hat8⟩ : ∃ z, z = xs[8] % 4 := ⟨_, rfl⟩
    have z0 := Int.emod_nonneg xs[8] (show (4 : Int) ≠ 0 by decide)
    have z1 := Int.emod_lt_of_pos xs[8] (show (0 : Int) < 4 by decide)
    have hlp : (0 : Int) < ((hs.map V.int).length : Nat) := by rw [List.length_map]; have := List.length_pos_iff.mpr hne; omega
    have j0 := Int.emod_nonneg xs[9] (show (((hs.map V.int).length : Nat) : Int) ≠ 0 by omega)
    have j1 := Int.emod_lt_of_pos xs[9] hlp
    have hjx : (xs[9] % (((hs.map V.int).length : Nat) : Int)).toNat < hs.length := by rw [List.length_map] at j0 j1 ⊢; omega
    have hat := at_int' j0 hjx
    have hmem := List.getElem_mem (l := hs) hjx
    generalize hs[(xs[9] % (((hs.map V.int).length : Nat) : Int)).toNat] = hd0 at hat hmem
    have iq : (xs[8] % 4).toNat < 4 := by omega
    have ie : (((xs[8] % 4).toNat : Nat) : Int) = xs[8] % 4 := by omega
    have atT : atI ((List.range 4).map fun i => V.ref (p i)) (xs[8] % 4) = some (V.ref (p (xs[8] % 4).toNat)) := rng_at' (g := fun i => V.ref (p i)) z0 iq
    have atU : atI ((List.range 4).map fun i => V.ref (D i)) (xs[8] % 4) = some (V.ref (D (xs[8] % 4).toNat)) := rng_at' (g := fun i => V.ref (D i)) z0 iq
    have inq : ∀ h, h ∈ hs → h ∈ hq (xs[8] % 4).toNat := fun h hh => by
      rw [← q0E] at hh
      by_cases w : (xs[8] % 4).toNat < 3
      · rw [q3 _ w]; exact hh
      · rw [show (xs[8] % 4).toNat = 3 by omega]; exact q03 h hh
    generalize hI : (xs[8] % 4).toNat = ii at iq ie atT atU inq
    clean_wf
    refine x_cut (fun σ' B => ∃ h, h ∈ hq ii ∧ A1 = B ∧ σ' = [some (.ref a), some (.ref l), some (.int mo), some (.int n), some (.ref T), some (.ref U), some (.ref Kp), some (.int cc), some (.ref xa), some (.int (xs[8] % 4)), some (.int h), v11, v12, v13]) ?_ fun N rest => ?_
    rotate_left
    · clean_wf
      refine ite2 (fun h1 => ?_) fun h1 => ?_
      · clean_wf
        refine ite2 (fun h2 => ?_) fun h2 => ?_
        · clean_wf
          have : xs[8] % 4 = 3 := of_decide_eq_true h1
          exact rest _ _ ⟨mo, by rw [show ii = 3 by omega]; exact qmo, rfl, rfl⟩
        · exact rest _ _ ⟨hd0, inq _ hmem, rfl, rfl⟩
      · clean_wf
        exact rest _ _ ⟨hd0, inq _ hmem, rfl, rfl⟩
    rintro σ' _ ⟨h, hh, rfl, rfl⟩
    have hr := (t1'.pr ii iq).hs.rg h hh
    refine x_cut (fun σ' B => ∃ v11 v12 g M' F', σ' = [some (.ref a), some (.ref l), some (.int mo), some (.int n), some (.ref T), some (.ref U), some (.ref Kp), some (.int cc), some (.ref xa), some (.int (xs[8] % 4)), some (.int h), v11, v12, v13] ∧ KpD A1 B ∧ Fou K mg B p D hq g M' F') ?_ fun N rest => ?_
    rotate_left
    · clean_wf
      refine ite_share ?_ fun P h1 => ?_
      · clean_wf
        refine ⟨xa, cc, rfl, xs, hxs, lx, hm, fun A2 c n' s2' hc gc ck => ?_⟩
        have gT2 := s2' _ _ gT1
        have gU2 := s2' _ _ gU1
        have t2' := t1'.up s2'
        obtain ⟨d, rs, tb, ds, du, t, ef, eM, eF⟩ := t2'.pr ii iq
        obtain ⟨⟨C', dx', eC', hp'⟩, hd', _⟩ := id t.kn
        rw [m_Known] at eC'
        cases eC'
        have ncF : ¬ F' ii c := fun z => by
          obtain ⟨o, e⟩ := (t1'.pr ii iq).fo z
          rw [hc] at e; cases e
        rw [eF] at ncF
        have ncd : c ≠ d := fun z => ncF (.inr (.inl (.inl z)))
        clean_wf
        refine ⟨p ii, h, c, rfl, d, rs, tb, n', t.kn, .inl gc, ck, fun A3 rs3 tb3 s3' k3' z3a z3b w3' => ?_⟩
        have gc3 := s3' _ _ ncd gc
        have gU3 := s3' _ _ (ne_of gU2 t.kn.dc (by intro z; cases z)) gU2
        clean_wf
        refine ⟨D ii, h, c, rfl, ds, du, n', t.mid s3', hr.1, hr.2, gc3, ck, fun z => ncF (.inr (.inl (.inr (.inl z)))), fun q hq z => ncF (.inr (.inl (.inr (.inr ⟨q, hq, z⟩)))), fun A4 ds4 du4 s4' u4' d4' w4' _ => ?_⟩
        obtain ⟨e1', e2', e3'⟩ := t.lrn hh z3b d4'
        obtain ⟨t4, sm4, mu4, fo4⟩ := t.step s3' k3' e1' w3' s4' u4' w4' e2' e3'
        rw [← eM] at sm4 mu4
        rw [← eF] at fo4
        have par4 : Par K mg A4 (p ii) (D ii) (hq ii) (dw du4) (MuS d (D ii) ds4) (FoS (p ii) d (D ii) rs3 ds4) := ⟨d, rs3, tb3, ds4, du4, t4, rfl, rfl, rfl⟩
        exact rest _ _ ⟨_, _, _, _, _, rfl, (KpD.same s2').trans ((t2'.pr ii iq).kp sm4), t2'.step iq par4 sm4 mu4 fo4⟩
      · clean_wf
        refine ite2 (fun _ => P) fun h2 => ?_
        have i3 : ii < 3 := by
          have : ¬ xs[8] % 4 = 3 := fun z => h2 (decide_eq_true z)
          omega
        have y0 := Int.emod_nonneg xs[10] (show (4 : Int) ≠ 0 by decide)
        have y1 := Int.emod_lt_of_pos xs[10] (show (0 : Int) < 4 by decide)
        have jq : (xs[10] % 4).toNat < 4 := by omega
        have atK : atI ((List.range 4).map kv) (xs[10] % 4) = some (kv (xs[10] % 4).toNat) := rng_at' y0 jq
        have atU2 : atI ((List.range 4).map fun i => V.ref (D i)) (xs[10] % 4) = some (V.ref (D (xs[10] % 4).toNat)) := rng_at' (g := fun i => V.ref (D i)) y0 jq
        generalize (xs[10] % 4).toNat = jj at jq atK atU2
        obtain ⟨ls0, tv0, gd0⟩ := tv1 jj jq
        clean_wf
        refine (t1'.pr jj jq).lsD fun A2 fa fx r1 hfa gf lf => ?_
        clean_wf
        intro L A3 hL r2 gL
        have s13 := r1.trans r2
        obtain ⟨u, au, hu⟩ := at2v (kv jj) (.ref fa) (xs[10] / 4)
        obtain ⟨ls, tvu, gdu⟩ : ∃ ls, TVl A3 u ls ∧ GdL ls := by
          rcases hu with z | z
          · rw [z]; exact ⟨ls0, tv0.up fun a xs w => s13 _ _ w, gd0⟩
          · rw [z]; exact ⟨_, ⟨fa, fx, rfl, r2 _ _ gf, lstV_up (fun a xs w => r2 _ _ w) lf⟩, canF_gd (t1'.pr jj jq).hs _⟩
        have sL := SqL.of (K := K) gL
        have gT3 := s13 _ _ gT1
        have gU3 := s13 _ _ gU1
        have t3' := t1'.up s13
        have gx3 := s13.seq hxs
        obtain ⟨aa, xx, rfl, gaa, laa⟩ := tvu
        clean_wf
        refine ⟨p ii, D ii, l, aa, rfl, hq ii, _, _, _, xx, ls, t3'.pr ii iq, by rw [q3 ii i3, q0E]; exact s13 _ _ gl1, gaa, laa, gdu, fun A4 M4 F4 pn sn mn fn => ?_⟩
        exact rest _ _ ⟨_, _, _, _, _, rfl, (KpD.same s13).trans ((t3'.pr ii iq).kp sn), t3'.step iq pn sn mn fn⟩
    rintro σ' B ⟨v11', v12', g', M2, F2, rfl, kB, tB⟩
    have k1B : KpL Kp C B := k1'.trans (.of kB)
    have gKB := kB.lst gK1
    have gTB := kB.lst gT1
    have gUB := kB.lst gU1
    have pB := tB.pr ii iq
    obtain ⟨C', dx', d', eC', hpB⟩ := pB.ob
    rw [m_Known] at eC'
    cases eC'
    clean_wf
    refine pB.lsT fun B1 fa fx r1 hfa gf lf => ?_
    have gTB1 := r1 _ _ gTB
    have gUB1 := r1 _ _ gUB
    clean_wf
    refine ⟨fa, rfl, fx, _, gf, lf, ?_⟩
    clean_wf
    refine ((tB.up r1).pr ii iq).lsD fun B2 fb fy r2 hfb gb lb => ?_
    refine x_neLst (r2 _ _ gf) (lstV_up (fun a xs z => r2 _ _ z) lf) gb lb ?_
    clean_wf
    have gKB2 := r2 _ _ (r1 _ _ gKB)
    refine x_setL gKB2 (j := ii) ?_ fun B3 b3 g3 => ?_
    · rw [List.length_map, List.length_range]
      unfold ixN
      rw [if_pos z0, if_pos (by omega), hI]
    rw [kv_put (A := B) iq] at g3
    have kp : ∀ a xs, B2 a = some (.tup xs) → B3 a = some (.tup xs) := fun a xs z => b3.of gKB2 z (by intro w; cases w)
    refine ⟨_, _, _, _, _, _, _, _, _, _, _, rfl, ?_, g3, fun m hm => ?_, (tB.up (r1.trans r2)).but gKB2 b3⟩
    · exact k1B.trans fun b o n z e => b3.at z (r2 _ _ (r1 _ _ e))
    · by_cases z : m = ii
      · rw [z, fset_eq]
        exact ⟨_, ⟨fa, fx, rfl, kp _ _ (r2 _ _ gf), lstV_up (fun a xs z => kp _ _ (r2 _ _ z)) lf⟩, canF_gd pB.hs _⟩
      · rw [fset_ne z]
        obtain ⟨ls, h1, h2⟩ := tv1 m hm
        exact ⟨ls, h1.up fun a xs w => kp _ _ (r2 _ _ (r1 _ _ (kB.tup w))), h2⟩
  rintro σ A ⟨v7, v8, v9, v10, v11, v12, v13, kv, g, M', F', rfl, kA, gA, tv, tA⟩
  clean_wf
  refine ⟨T, U, l, rfl, p, D, hq, g, M', F', tA, kA _ _ (by intro _ w; cases w) nKT.symm (sC _ _ gT15), kA _ _ (by intro _ w; cases w) nKU.symm (sC _ _ gU15), by rw [q0E]; exact kA _ _ (by intro _ w; cases w) nKl.symm (sC _ _ gl15), q3, q03, fun H' => ?_⟩
  clean_wf
  exact k H'
end
end K34


namespace K34
open PySem L2
theorem all_mk {l : PySem.W.OpenLaw} {w : World} {K : PySem.W.Frag} {h : Heap} {mg : Str → Option Value} {fa f_count_of f_hands_among f_unpacked f_joined f_packed f_bit_of f_has f_hands_of f_Known___init__ f_Known_learn f_Known_listed f_Known_merge f__law_cell_at f__law_stream f__law_hands f__law_counts f__law_more f__law_learn f__law_listed f__law_plain f__law_merge f__law_ended f_law C_Known : Addr} (X : K.In h) (G : h.Ns mainGlobals mg) (hfa : mg "law" = some (.ref fa))
    {oc_count_of : Value} {kV_count_of : Value} {dc_count_of : Value} {pm_count_of : Value} {cd_count_of : Value} {ct_count_of : Value} {od_count_of an_count_of : Option Addr} {sl_count_of : Array (Option Value)} {oc_hands_among : Value} {kV_hands_among : Value} {dc_hands_among : Value} {pm_hands_among : Value} {cd_hands_among : Value} {ct_hands_among : Value} {od_hands_among an_hands_among : Option Addr} {sl_hands_among : Array (Option Value)} {oc_unpacked : Value} {kV_unpacked : Value} {dc_unpacked : Value} {pm_unpacked : Value} {cd_unpacked : Value} {ct_unpacked : Value} {od_unpacked an_unpacked : Option Addr} {sl_unpacked : Array (Option Value)} {oc_joined : Value} {kV_joined : Value} {dc_joined : Value} {pm_joined : Value} {cd_joined : Value} {ct_joined : Value} {od_joined an_joined : Option Addr} {sl_joined : Array (Option Value)} {oc_packed : Value} {kV_packed : Value} {dc_packed : Value} {pm_packed : Value} {cd_packed : Value} {ct_packed : Value} {od_packed an_packed : Option Addr} {sl_packed : Array (Option Value)} {oc_bit_of : Value} {kV_bit_of : Value} {dc_bit_of : Value} {pm_bit_of : Value} {cd_bit_of : Value} {ct_bit_of : Value} {od_bit_of an_bit_of : Option Addr} {sl_bit_of : Array (Option Value)} {oc_has : Value} {kV_has : Value} {dc_has : Value} {pm_has : Value} {cd_has : Value} {ct_has : Value} {od_has an_has : Option Addr} {sl_has : Array (Option Value)} {oc_hands_of : Value} {kV_hands_of : Value} {dc_hands_of : Value} {pm_hands_of : Value} {cd_hands_of : Value} {ct_hands_of : Value} {od_hands_of an_hands_of : Option Addr} {sl_hands_of : Array (Option Value)} {oc_Known___init__ : Value} {kV_Known___init__ : Value} {dc_Known___init__ : Value} {pm_Known___init__ : Value} {cd_Known___init__ : Value} {ct_Known___init__ : Value} {od_Known___init__ an_Known___init__ : Option Addr} {sl_Known___init__ : Array (Option Value)} {oc_Known_learn : Value} {kV_Known_learn : Value} {dc_Known_learn : Value} {pm_Known_learn : Value} {cd_Known_learn : Value} {ct_Known_learn : Value} {od_Known_learn an_Known_learn : Option Addr} {sl_Known_learn : Array (Option Value)} {oc_Known_listed : Value} {kV_Known_listed : Value} {dc_Known_listed : Value} {pm_Known_listed : Value} {cd_Known_listed : Value} {ct_Known_listed : Value} {od_Known_listed an_Known_listed : Option Addr} {sl_Known_listed : Array (Option Value)} {oc_Known_merge : Value} {kV_Known_merge : Value} {dc_Known_merge : Value} {pm_Known_merge : Value} {cd_Known_merge : Value} {ct_Known_merge : Value} {od_Known_merge an_Known_merge : Option Addr} {sl_Known_merge : Array (Option Value)} {oc__law_cell_at : Value} {kV__law_cell_at : Value} {dc__law_cell_at : Value} {pm__law_cell_at : Value} {cd__law_cell_at : Value} {ct__law_cell_at : Value} {od__law_cell_at an__law_cell_at : Option Addr} {sl__law_cell_at : Array (Option Value)} {oc__law_stream : Value} {kV__law_stream : Value} {dc__law_stream : Value} {pm__law_stream : Value} {cd__law_stream : Value} {ct__law_stream : Value} {od__law_stream an__law_stream : Option Addr} {sl__law_stream : Array (Option Value)} {oc__law_hands : Value} {kV__law_hands : Value} {dc__law_hands : Value} {pm__law_hands : Value} {cd__law_hands : Value} {ct__law_hands : Value} {od__law_hands an__law_hands : Option Addr} {sl__law_hands : Array (Option Value)} {oc__law_counts : Value} {kV__law_counts : Value} {dc__law_counts : Value} {pm__law_counts : Value} {cd__law_counts : Value} {ct__law_counts : Value} {od__law_counts an__law_counts : Option Addr} {sl__law_counts : Array (Option Value)} {oc__law_more : Value} {kV__law_more : Value} {dc__law_more : Value} {pm__law_more : Value} {cd__law_more : Value} {ct__law_more : Value} {od__law_more an__law_more : Option Addr} {sl__law_more : Array (Option Value)} {oc__law_learn : Value} {kV__law_learn : Value} {dc__law_learn : Value} {pm__law_learn : Value} {cd__law_learn : Value} {ct__law_learn : Value} {od__law_learn an__law_learn : Option Addr} {sl__law_learn : Array (Option Value)} {oc__law_listed : Value} {kV__law_listed : Value} {dc__law_listed : Value} {pm__law_listed : Value} {cd__law_listed : Value} {ct__law_listed : Value} {od__law_listed an__law_listed : Option Addr} {sl__law_listed : Array (Option Value)} {oc__law_plain : Value} {kV__law_plain : Value} {dc__law_plain : Value} {pm__law_plain : Value} {cd__law_plain : Value} {ct__law_plain : Value} {od__law_plain an__law_plain : Option Addr} {sl__law_plain : Array (Option Value)} {oc__law_merge : Value} {kV__law_merge : Value} {dc__law_merge : Value} {pm__law_merge : Value} {cd__law_merge : Value} {ct__law_merge : Value} {od__law_merge an__law_merge : Option Addr} {sl__law_merge : Array (Option Value)} {oc__law_ended : Value} {kV__law_ended : Value} {dc__law_ended : Value} {pm__law_ended : Value} {cd__law_ended : Value} {ct__law_ended : Value} {od__law_ended an__law_ended : Option Addr} {sl__law_ended : Array (Option Value)} {oc_law : Value} {kV_law : Value} {dc_law : Value} {pm_law : Value} {cd_law : Value} {ct_law : Value} {od_law an_law : Option Addr} {sl_law : Array (Option Value)}
    (a_count_of : PySem.W.nsIn K mainGlobals "count_of" = some (some (.ref f_count_of)))
    (a_hands_among : PySem.W.nsIn K mainGlobals "hands_among" = some (some (.ref f_hands_among)))
    (a_unpacked : PySem.W.nsIn K mainGlobals "unpacked" = some (some (.ref f_unpacked)))
    (a_joined : PySem.W.nsIn K mainGlobals "joined" = some (some (.ref f_joined)))
    (a_packed : PySem.W.nsIn K mainGlobals "packed" = some (some (.ref f_packed)))
    (a_bit_of : PySem.W.nsIn K mainGlobals "bit_of" = some (some (.ref f_bit_of)))
    (a_has : PySem.W.nsIn K mainGlobals "has" = some (some (.ref f_has)))
    (a_hands_of : PySem.W.nsIn K mainGlobals "hands_of" = some (some (.ref f_hands_of)))
    (a__law_cell_at : PySem.W.nsIn K mainGlobals "_law_cell_at" = some (some (.ref f__law_cell_at)))
    (a__law_stream : PySem.W.nsIn K mainGlobals "_law_stream" = some (some (.ref f__law_stream)))
    (a__law_hands : PySem.W.nsIn K mainGlobals "_law_hands" = some (some (.ref f__law_hands)))
    (a__law_counts : PySem.W.nsIn K mainGlobals "_law_counts" = some (some (.ref f__law_counts)))
    (a__law_more : PySem.W.nsIn K mainGlobals "_law_more" = some (some (.ref f__law_more)))
    (a__law_learn : PySem.W.nsIn K mainGlobals "_law_learn" = some (some (.ref f__law_learn)))
    (a__law_listed : PySem.W.nsIn K mainGlobals "_law_listed" = some (some (.ref f__law_listed)))
    (a__law_plain : PySem.W.nsIn K mainGlobals "_law_plain" = some (some (.ref f__law_plain)))
    (a__law_merge : PySem.W.nsIn K mainGlobals "_law_merge" = some (some (.ref f__law_merge)))
    (a__law_ended : PySem.W.nsIn K mainGlobals "_law_ended" = some (some (.ref f__law_ended)))
    (a_law : PySem.W.nsIn K mainGlobals "law" = some (some (.ref f_law)))
    (a_Known : PySem.W.nsIn K mainGlobals "Known" = some (some (.ref C_Known)))
    (z_bool : PySem.W.nsIn K mainGlobals "bool" = some none)
    (z_dict : PySem.W.nsIn K mainGlobals "dict" = some none)
    (z_int : PySem.W.nsIn K mainGlobals "int" = some none)
    (z_isinstance : PySem.W.nsIn K mainGlobals "isinstance" = some none)
    (z_len : PySem.W.nsIn K mainGlobals "len" = some none)
    (z_list : PySem.W.nsIn K mainGlobals "list" = some none)
    (z_max : PySem.W.nsIn K mainGlobals "max" = some none)
    (z_range : PySem.W.nsIn K mainGlobals "range" = some none)
    (z_set : PySem.W.nsIn K mainGlobals "set" = some none)
    (z_sorted : PySem.W.nsIn K mainGlobals "sorted" = some none)
    (z_sum : PySem.W.nsIn K mainGlobals "sum" = some none)
    (z_tuple : PySem.W.nsIn K mainGlobals "tuple" = some none)
    (at_Known___init__ : PySem.W.findIn K (.ref C_Known) "__init__" = some (some (.ref f_Known___init__)))
    (at_Known_learn : PySem.W.findIn K (.ref C_Known) "learn" = some (some (.ref f_Known_learn)))
    (at_Known_listed : PySem.W.findIn K (.ref C_Known) "listed" = some (some (.ref f_Known_listed)))
    (at_Known_merge : PySem.W.findIn K (.ref C_Known) "merge" = some (some (.ref f_Known_merge)))
    (l_count_of : K.lookup f_count_of = some ⟨oc_count_of, od_count_of, .func (PySem.W.fnOf "count_of" "count_of" (defArgs s_count_of) (defBody s_count_of) (defScope s_count_of) .none kV_count_of dc_count_of pm_count_of an_count_of cd_count_of ct_count_of), sl_count_of⟩)
    (c_count_of : PySem.W.codeIn K cd_count_of "count_of" = true)
    (k_count_of : PySem.W.keepIn K (.ref f_count_of) = true)
    (l_hands_among : K.lookup f_hands_among = some ⟨oc_hands_among, od_hands_among, .func (PySem.W.fnOf "hands_among" "hands_among" (defArgs s_hands_among) (defBody s_hands_among) (defScope s_hands_among) .none kV_hands_among dc_hands_among pm_hands_among an_hands_among cd_hands_among ct_hands_among), sl_hands_among⟩)
    (c_hands_among : PySem.W.codeIn K cd_hands_among "hands_among" = true)
    (k_hands_among : PySem.W.keepIn K (.ref f_hands_among) = true)
    (l_unpacked : K.lookup f_unpacked = some ⟨oc_unpacked, od_unpacked, .func (PySem.W.fnOf "unpacked" "unpacked" (defArgs s_unpacked) (defBody s_unpacked) (defScope s_unpacked) .none kV_unpacked dc_unpacked pm_unpacked an_unpacked cd_unpacked ct_unpacked), sl_unpacked⟩)
    (c_unpacked : PySem.W.codeIn K cd_unpacked "unpacked" = true)
    (k_unpacked : PySem.W.keepIn K (.ref f_unpacked) = true)
    (l_joined : K.lookup f_joined = some ⟨oc_joined, od_joined, .func (PySem.W.fnOf "joined" "joined" (defArgs s_joined) (defBody s_joined) (defScope s_joined) .none kV_joined dc_joined pm_joined an_joined cd_joined ct_joined), sl_joined⟩)
    (c_joined : PySem.W.codeIn K cd_joined "joined" = true)
    (k_joined : PySem.W.keepIn K (.ref f_joined) = true)
    (l_packed : K.lookup f_packed = some ⟨oc_packed, od_packed, .func (PySem.W.fnOf "packed" "packed" (defArgs s_packed) (defBody s_packed) (defScope s_packed) .none kV_packed dc_packed pm_packed an_packed cd_packed ct_packed), sl_packed⟩)
    (c_packed : PySem.W.codeIn K cd_packed "packed" = true)
    (k_packed : PySem.W.keepIn K (.ref f_packed) = true)
    (l_bit_of : K.lookup f_bit_of = some ⟨oc_bit_of, od_bit_of, .func (PySem.W.fnOf "bit_of" "bit_of" (defArgs s_bit_of) (defBody s_bit_of) (defScope s_bit_of) .none kV_bit_of dc_bit_of pm_bit_of an_bit_of cd_bit_of ct_bit_of), sl_bit_of⟩)
    (c_bit_of : PySem.W.codeIn K cd_bit_of "bit_of" = true)
    (k_bit_of : PySem.W.keepIn K (.ref f_bit_of) = true)
    (l_has : K.lookup f_has = some ⟨oc_has, od_has, .func (PySem.W.fnOf "has" "has" (defArgs s_has) (defBody s_has) (defScope s_has) .none kV_has dc_has pm_has an_has cd_has ct_has), sl_has⟩)
    (c_has : PySem.W.codeIn K cd_has "has" = true)
    (k_has : PySem.W.keepIn K (.ref f_has) = true)
    (l_hands_of : K.lookup f_hands_of = some ⟨oc_hands_of, od_hands_of, .func (PySem.W.fnOf "hands_of" "hands_of" (defArgs s_hands_of) (defBody s_hands_of) (defScope s_hands_of) .none kV_hands_of dc_hands_of pm_hands_of an_hands_of cd_hands_of ct_hands_of), sl_hands_of⟩)
    (c_hands_of : PySem.W.codeIn K cd_hands_of "hands_of" = true)
    (k_hands_of : PySem.W.keepIn K (.ref f_hands_of) = true)
    (l_Known___init__ : K.lookup f_Known___init__ = some ⟨oc_Known___init__, od_Known___init__, .func (PySem.W.fnOf "__init__" "Known.__init__" (defArgs s_Known___init__) (defBody s_Known___init__) (defScope s_Known___init__) .none kV_Known___init__ dc_Known___init__ pm_Known___init__ an_Known___init__ cd_Known___init__ ct_Known___init__), sl_Known___init__⟩)
    (c_Known___init__ : PySem.W.codeIn K cd_Known___init__ "Known.__init__" = true)
    (k_Known___init__ : PySem.W.keepIn K (.ref f_Known___init__) = true)
    (l_Known_learn : K.lookup f_Known_learn = some ⟨oc_Known_learn, od_Known_learn, .func (PySem.W.fnOf "learn" "Known.learn" (defArgs s_Known_learn) (defBody s_Known_learn) (defScope s_Known_learn) .none kV_Known_learn dc_Known_learn pm_Known_learn an_Known_learn cd_Known_learn ct_Known_learn), sl_Known_learn⟩)
    (c_Known_learn : PySem.W.codeIn K cd_Known_learn "Known.learn" = true)
    (k_Known_learn : PySem.W.keepIn K (.ref f_Known_learn) = true)
    (l_Known_listed : K.lookup f_Known_listed = some ⟨oc_Known_listed, od_Known_listed, .func (PySem.W.fnOf "listed" "Known.listed" (defArgs s_Known_listed) (defBody s_Known_listed) (defScope s_Known_listed) .none kV_Known_listed dc_Known_listed pm_Known_listed an_Known_listed cd_Known_listed ct_Known_listed), sl_Known_listed⟩)
    (c_Known_listed : PySem.W.codeIn K cd_Known_listed "Known.listed" = true)
    (k_Known_listed : PySem.W.keepIn K (.ref f_Known_listed) = true)
    (l_Known_merge : K.lookup f_Known_merge = some ⟨oc_Known_merge, od_Known_merge, .func (PySem.W.fnOf "merge" "Known.merge" (defArgs s_Known_merge) (defBody s_Known_merge) (defScope s_Known_merge) .none kV_Known_merge dc_Known_merge pm_Known_merge an_Known_merge cd_Known_merge ct_Known_merge), sl_Known_merge⟩)
    (c_Known_merge : PySem.W.codeIn K cd_Known_merge "Known.merge" = true)
    (k_Known_merge : PySem.W.keepIn K (.ref f_Known_merge) = true)
    (l__law_cell_at : K.lookup f__law_cell_at = some ⟨oc__law_cell_at, od__law_cell_at, .func (PySem.W.fnOf "_law_cell_at" "_law_cell_at" (defArgs s__law_cell_at) (defBody s__law_cell_at) (defScope s__law_cell_at) .none kV__law_cell_at dc__law_cell_at pm__law_cell_at an__law_cell_at cd__law_cell_at ct__law_cell_at), sl__law_cell_at⟩)
    (c__law_cell_at : PySem.W.codeIn K cd__law_cell_at "_law_cell_at" = true)
    (k__law_cell_at : PySem.W.keepIn K (.ref f__law_cell_at) = true)
    (l__law_stream : K.lookup f__law_stream = some ⟨oc__law_stream, od__law_stream, .func (PySem.W.fnOf "_law_stream" "_law_stream" (defArgs s__law_stream) (defBody s__law_stream) (defScope s__law_stream) .none kV__law_stream dc__law_stream pm__law_stream an__law_stream cd__law_stream ct__law_stream), sl__law_stream⟩)
    (c__law_stream : PySem.W.codeIn K cd__law_stream "_law_stream" = true)
    (k__law_stream : PySem.W.keepIn K (.ref f__law_stream) = true)
    (l__law_hands : K.lookup f__law_hands = some ⟨oc__law_hands, od__law_hands, .func (PySem.W.fnOf "_law_hands" "_law_hands" (defArgs s__law_hands) (defBody s__law_hands) (defScope s__law_hands) .none kV__law_hands dc__law_hands pm__law_hands an__law_hands cd__law_hands ct__law_hands), sl__law_hands⟩)
    (c__law_hands : PySem.W.codeIn K cd__law_hands "_law_hands" = true)
    (k__law_hands : PySem.W.keepIn K (.ref f__law_hands) = true)
    (l__law_counts : K.lookup f__law_counts = some ⟨oc__law_counts, od__law_counts, .func (PySem.W.fnOf "_law_counts" "_law_counts" (defArgs s__law_counts) (defBody s__law_counts) (defScope s__law_counts) .none kV__law_counts dc__law_counts pm__law_counts an__law_counts cd__law_counts ct__law_counts), sl__law_counts⟩)
    (c__law_counts : PySem.W.codeIn K cd__law_counts "_law_counts" = true)
    (k__law_counts : PySem.W.keepIn K (.ref f__law_counts) = true)
    (l__law_more : K.lookup f__law_more = some ⟨oc__law_more, od__law_more, .func (PySem.W.fnOf "_law_more" "_law_more" (defArgs s__law_more) (defBody s__law_more) (defScope s__law_more) .none kV__law_more dc__law_more pm__law_more an__law_more cd__law_more ct__law_more), sl__law_more⟩)
    (c__law_more : PySem.W.codeIn K cd__law_more "_law_more" = true)
    (k__law_more : PySem.W.keepIn K (.ref f__law_more) = true)
    (l__law_learn : K.lookup f__law_learn = some ⟨oc__law_learn, od__law_learn, .func (PySem.W.fnOf "_law_learn" "_law_learn" (defArgs s__law_learn) (defBody s__law_learn) (defScope s__law_learn) .none kV__law_learn dc__law_learn pm__law_learn an__law_learn cd__law_learn ct__law_learn), sl__law_learn⟩)
    (c__law_learn : PySem.W.codeIn K cd__law_learn "_law_learn" = true)
    (k__law_learn : PySem.W.keepIn K (.ref f__law_learn) = true)
    (l__law_listed : K.lookup f__law_listed = some ⟨oc__law_listed, od__law_listed, .func (PySem.W.fnOf "_law_listed" "_law_listed" (defArgs s__law_listed) (defBody s__law_listed) (defScope s__law_listed) .none kV__law_listed dc__law_listed pm__law_listed an__law_listed cd__law_listed ct__law_listed), sl__law_listed⟩)
    (c__law_listed : PySem.W.codeIn K cd__law_listed "_law_listed" = true)
    (k__law_listed : PySem.W.keepIn K (.ref f__law_listed) = true)
    (l__law_plain : K.lookup f__law_plain = some ⟨oc__law_plain, od__law_plain, .func (PySem.W.fnOf "_law_plain" "_law_plain" (defArgs s__law_plain) (defBody s__law_plain) (defScope s__law_plain) .none kV__law_plain dc__law_plain pm__law_plain an__law_plain cd__law_plain ct__law_plain), sl__law_plain⟩)
    (c__law_plain : PySem.W.codeIn K cd__law_plain "_law_plain" = true)
    (k__law_plain : PySem.W.keepIn K (.ref f__law_plain) = true)
    (l__law_merge : K.lookup f__law_merge = some ⟨oc__law_merge, od__law_merge, .func (PySem.W.fnOf "_law_merge" "_law_merge" (defArgs s__law_merge) (defBody s__law_merge) (defScope s__law_merge) .none kV__law_merge dc__law_merge pm__law_merge an__law_merge cd__law_merge ct__law_merge), sl__law_merge⟩)
    (c__law_merge : PySem.W.codeIn K cd__law_merge "_law_merge" = true)
    (k__law_merge : PySem.W.keepIn K (.ref f__law_merge) = true)
    (l__law_ended : K.lookup f__law_ended = some ⟨oc__law_ended, od__law_ended, .func (PySem.W.fnOf "_law_ended" "_law_ended" (defArgs s__law_ended) (defBody s__law_ended) (defScope s__law_ended) .none kV__law_ended dc__law_ended pm__law_ended an__law_ended cd__law_ended ct__law_ended), sl__law_ended⟩)
    (c__law_ended : PySem.W.codeIn K cd__law_ended "_law_ended" = true)
    (k__law_ended : PySem.W.keepIn K (.ref f__law_ended) = true)
    (l_law : K.lookup f_law = some ⟨oc_law, od_law, .func (PySem.W.fnOf "law" "law" (defArgs s_law) (defBody s_law) (defScope s_law) .none kV_law dc_law pm_law an_law cd_law ct_law), sl_law⟩)
    (c_law : PySem.W.codeIn K cd_law "law" = true)
    (k_law : PySem.W.keepIn K (.ref f_law) = true)
    (i_Known___init__ : PySem.W.isFn K (.ref f_Known___init__) = true)
    (i_Known_learn : PySem.W.isFn K (.ref f_Known_learn) = true)
    (i_Known_listed : PySem.W.isFn K (.ref f_Known_listed) = true)
    (i_Known_merge : PySem.W.isFn K (.ref f_Known_merge) = true)
    (pg_Known : PySem.W.plainGet K C_Known Str.empty = true)
    (hd_Known : PySem.W.hasDictIn K C_Known = true)
    (po_Known : PySem.W.plainOver K C_Known = true)
    (sa_Known : PySem.W.findIn K (.ref C_Known) "__setattr__" = some (some (.builtin "object.__setattr__")))
    (n_Known_learnt : PySem.W.findIn K (.ref C_Known) "learnt" = some none)
    (mk_Known : PySem.W.makesIn K C_Known = true)
    (kc_Known : PySem.W.keepIn K (.ref C_Known) = true)
    : ∃ fd : FuncData, (∀ (s : Shared) (v : Value), BindsTo s fd ⟨[v], []⟩ [("_law_script", v)]) ∧ ∀ base : Heap, K.In base → base.Ns mainGlobals mg → FnOk l.prog w K mg base CX0 7 fa fd ["_law_script"] (sp_law K) := by
  have e := hfa.symm.trans (PySem.W.mg_of X G a_law)
  cases e
  have F_count_of := fun_mk (st := s_count_of) l_count_of c_count_of k_count_of
  have CA_count_of : Cal K mg "count_of" f_count_of _ ["counts", "hand"] := ⟨PySem.W.mg_of X G a_count_of, k_count_of, F_count_of.binds (ps := ["counts", "hand"]) fun _ _ _ _ _ _ us hl => match us, hl with | [_, _], _ => rfl⟩
  have F_hands_among := fun_mk (st := s_hands_among) l_hands_among c_hands_among k_hands_among
  have CA_hands_among : Cal K mg "hands_among" f_hands_among _ ["some"] := ⟨PySem.W.mg_of X G a_hands_among, k_hands_among, F_hands_among.binds (ps := ["some"]) fun _ _ _ _ _ _ us hl => match us, hl with | [_], _ => rfl⟩
  have F_unpacked := fun_mk (st := s_unpacked) l_unpacked c_unpacked k_unpacked
  have CA_unpacked : Cal K mg "unpacked" f_unpacked _ ["pairs"] := ⟨PySem.W.mg_of X G a_unpacked, k_unpacked, F_unpacked.binds (ps := ["pairs"]) fun _ _ _ _ _ _ us hl => match us, hl with | [_], _ => rfl⟩
  have F_joined := fun_mk (st := s_joined) l_joined c_joined k_joined
  have CA_joined : Cal K mg "joined" f_joined _ ["one", "other"] := ⟨PySem.W.mg_of X G a_joined, k_joined, F_joined.binds (ps := ["one", "other"]) fun _ _ _ _ _ _ us hl => match us, hl with | [_, _], _ => rfl⟩
  have F_packed := fun_mk (st := s_packed) l_packed c_packed k_packed
  have CA_packed : Cal K mg "packed" f_packed _ ["counts"] := ⟨PySem.W.mg_of X G a_packed, k_packed, F_packed.binds (ps := ["counts"]) fun _ _ _ _ _ _ us hl => match us, hl with | [_], _ => rfl⟩
  have F_bit_of := fun_mk (st := s_bit_of) l_bit_of c_bit_of k_bit_of
  have CA_bit_of : Cal K mg "bit_of" f_bit_of _ ["hand"] := ⟨PySem.W.mg_of X G a_bit_of, k_bit_of, F_bit_of.binds (ps := ["hand"]) fun _ _ _ _ _ _ us hl => match us, hl with | [_], _ => rfl⟩
  have F_has := fun_mk (st := s_has) l_has c_has k_has
  have CA_has : Cal K mg "has" f_has _ ["hands", "hand"] := ⟨PySem.W.mg_of X G a_has, k_has, F_has.binds (ps := ["hands", "hand"]) fun _ _ _ _ _ _ us hl => match us, hl with | [_, _], _ => rfl⟩
  have F_hands_of := fun_mk (st := s_hands_of) l_hands_of c_hands_of k_hands_of
  have CA_hands_of : Cal K mg "hands_of" f_hands_of _ ["hands"] := ⟨PySem.W.mg_of X G a_hands_of, k_hands_of, F_hands_of.binds (ps := ["hands"]) fun _ _ _ _ _ _ us hl => match us, hl with | [_], _ => rfl⟩
  have F_Known___init__ := fun_mk (st := s_Known___init__) l_Known___init__ c_Known___init__ k_Known___init__
  have B_Known___init__ : Binds K _ ["self", "hands"] [] := F_Known___init__.binds (ps := ["self", "hands"]) fun _ _ _ _ _ _ us hl => match us, hl with | [_, _], _ => rfl
  have F_Known_learn := fun_mk (st := s_Known_learn) l_Known_learn c_Known_learn k_Known_learn
  have B_Known_learn : Binds K _ ["self", "hand", "counts"] [] := F_Known_learn.binds (ps := ["self", "hand", "counts"]) fun _ _ _ _ _ _ us hl => match us, hl with | [_, _, _], _ => rfl
  have F_Known_listed := fun_mk (st := s_Known_listed) l_Known_listed c_Known_listed k_Known_listed
  have B_Known_listed : Binds K _ ["self"] [] := F_Known_listed.binds (ps := ["self"]) fun _ _ _ _ _ _ us hl => match us, hl with | [_], _ => rfl
  have F_Known_merge := fun_mk (st := s_Known_merge) l_Known_merge c_Known_merge k_Known_merge
  have B_Known_merge : Binds K _ ["self", "listed"] [] := F_Known_merge.binds (ps := ["self", "listed"]) fun _ _ _ _ _ _ us hl => match us, hl with | [_, _], _ => rfl
  have F__law_cell_at := fun_mk (st := s__law_cell_at) l__law_cell_at c__law_cell_at k__law_cell_at
  have CA__law_cell_at : Cal K mg "_law_cell_at" f__law_cell_at _ ["_law_script", "_law_k"] := ⟨PySem.W.mg_of X G a__law_cell_at, k__law_cell_at, F__law_cell_at.binds (ps := ["_law_script", "_law_k"]) fun _ _ _ _ _ _ us hl => match us, hl with | [_, _], _ => rfl⟩
  have F__law_stream := fun_mk (st := s__law_stream) l__law_stream c__law_stream k__law_stream
  have CA__law_stream : Cal K mg "_law_stream" f__law_stream _ ["_law_cell", "_law_amount"] := ⟨PySem.W.mg_of X G a__law_stream, k__law_stream, F__law_stream.binds (ps := ["_law_cell", "_law_amount"]) fun _ _ _ _ _ _ us hl => match us, hl with | [_, _], _ => rfl⟩
  have F__law_hands := fun_mk (st := s__law_hands) l__law_hands c__law_hands k__law_hands
  have CA__law_hands : Cal K mg "_law_hands" f__law_hands _ ["_law_cell"] := ⟨PySem.W.mg_of X G a__law_hands, k__law_hands, F__law_hands.binds (ps := ["_law_cell"]) fun _ _ _ _ _ _ us hl => match us, hl with | [_], _ => rfl⟩
  have F__law_counts := fun_mk (st := s__law_counts) l__law_counts c__law_counts k__law_counts
  have CA__law_counts : Cal K mg "_law_counts" f__law_counts _ ["_law_xs", "_law_cell"] := ⟨PySem.W.mg_of X G a__law_counts, k__law_counts, F__law_counts.binds (ps := ["_law_xs", "_law_cell"]) fun _ _ _ _ _ _ us hl => match us, hl with | [_, _], _ => rfl⟩
  have F__law_more := fun_mk (st := s__law_more) l__law_more c__law_more k__law_more
  have CA__law_more : Cal K mg "_law_more" f__law_more _ ["_law_hands_here", "_law_cell"] := ⟨PySem.W.mg_of X G a__law_more, k__law_more, F__law_more.binds (ps := ["_law_hands_here", "_law_cell"]) fun _ _ _ _ _ _ us hl => match us, hl with | [_, _], _ => rfl⟩
  have F__law_learn := fun_mk (st := s__law_learn) l__law_learn c__law_learn k__law_learn
  have CA__law_learn : Cal K mg "_law_learn" f__law_learn _ ["_law_due", "_law_hand", "_law_counts_here"] := ⟨PySem.W.mg_of X G a__law_learn, k__law_learn, F__law_learn.binds (ps := ["_law_due", "_law_hand", "_law_counts_here"]) fun _ _ _ _ _ _ us hl => match us, hl with | [_, _, _], _ => rfl⟩
  have F__law_listed := fun_mk (st := s__law_listed) l__law_listed c__law_listed k__law_listed
  have CA__law_listed : Cal K mg "_law_listed" f__law_listed _ ["_law_due"] := ⟨PySem.W.mg_of X G a__law_listed, k__law_listed, F__law_listed.binds (ps := ["_law_due"]) fun _ _ _ _ _ _ us hl => match us, hl with | [_], _ => rfl⟩
  have F__law_plain := fun_mk (st := s__law_plain) l__law_plain c__law_plain k__law_plain
  have CA__law_plain : Cal K mg "_law_plain" f__law_plain _ ["_law_found"] := ⟨PySem.W.mg_of X G a__law_plain, k__law_plain, F__law_plain.binds (ps := ["_law_found"]) fun _ _ _ _ _ _ us hl => match us, hl with | [_], _ => rfl⟩
  have F__law_merge := fun_mk (st := s__law_merge) l__law_merge c__law_merge k__law_merge
  have CA__law_merge : Cal K mg "_law_merge" f__law_merge _ ["_law_table", "_law_due", "_law_hands_here", "_law_listed_here"] := ⟨PySem.W.mg_of X G a__law_merge, k__law_merge, F__law_merge.binds (ps := ["_law_table", "_law_due", "_law_hands_here", "_law_listed_here"]) fun _ _ _ _ _ _ us hl => match us, hl with | [_, _, _, _], _ => rfl⟩
  have F__law_ended := fun_mk (st := s__law_ended) l__law_ended c__law_ended k__law_ended
  have CA__law_ended : Cal K mg "_law_ended" f__law_ended _ ["_law_tables", "_law_dues", "_law_hands_here"] := ⟨PySem.W.mg_of X G a__law_ended, k__law_ended, F__law_ended.binds (ps := ["_law_tables", "_law_dues", "_law_hands_here"]) fun _ _ _ _ _ _ us hl => match us, hl with | [_, _, _], _ => rfl⟩
  have F_law := fun_mk (st := s_law) l_law c_law k_law
  have m_Known := PySem.W.mg_of X G a_Known
  have T_Known : TKnown K C_Known := ⟨⟨pg_Known, hd_Known, po_Known, sa_Known⟩, n_Known_learnt⟩
  have mt_Known_learn : Meth K C_Known "learn" f_Known_learn := ⟨at_Known_learn, i_Known_learn, k_Known_learn⟩
  have mt_Known_listed : Meth K C_Known "listed" f_Known_listed := ⟨at_Known_listed, i_Known_listed, k_Known_listed⟩
  have mt_Known_merge : Meth K C_Known "merge" f_Known_merge := ⟨at_Known_merge, i_Known_merge, k_Known_merge⟩
  have M_Known : Mk K C_Known f_Known___init__ := ⟨mk_Known, at_Known___init__, i_Known___init__, kc_Known⟩
  have Z_bool : mg "bool" = none := PySem.W.mg_none_of X G z_bool
  have Z_dict : mg "dict" = none := PySem.W.mg_none_of X G z_dict
  have Z_int : mg "int" = none := PySem.W.mg_none_of X G z_int
  have Z_isinstance : mg "isinstance" = none := PySem.W.mg_none_of X G z_isinstance
  have Z_len : mg "len" = none := PySem.W.mg_none_of X G z_len
  have Z_list : mg "list" = none := PySem.W.mg_none_of X G z_list
  have Z_max : mg "max" = none := PySem.W.mg_none_of X G z_max
  have Z_range : mg "range" = none := PySem.W.mg_none_of X G z_range
  have Z_set : mg "set" = none := PySem.W.mg_none_of X G z_set
  have Z_sorted : mg "sorted" = none := PySem.W.mg_none_of X G z_sorted
  have Z_sum : mg "sum" = none := PySem.W.mg_none_of X G z_sum
  have Z_tuple : mg "tuple" = none := PySem.W.mg_none_of X G z_tuple
  refine ⟨PySem.W.fnOf "law" "law" (defArgs s_law) (defBody s_law) (defScope s_law) .none kV_law dc_law pm_law an_law cd_law ct_law, fun s v => .of_eq rfl, fun base _ _ => ?_⟩
  have G_count_of : FnOk l.prog w K mg base CX0 1 f_count_of _ ["counts", "hand"] (sp_count_of K) := ok_count_of F_count_of
  have G_hands_among : FnOk l.prog w K mg base CX0 1 f_hands_among _ ["some"] (sp_hands_among K) := ok_hands_among F_hands_among Z_list Z_set Z_sorted
  have G_unpacked : FnOk l.prog w K mg base CX0 1 f_unpacked _ ["pairs"] (sp_unpacked K) := ok_unpacked F_unpacked Z_dict
  have G_joined : FnOk l.prog w K mg base CX0 2 f_joined _ ["one", "other"] (sp_joined K) := ok_joined F_joined (G_count_of.mono (by decide)) CA_count_of (G_hands_among.mono (by decide)) CA_hands_among (G_unpacked.mono (by decide)) CA_unpacked Z_max
  have G_packed : FnOk l.prog w K mg base CX0 1 f_packed _ ["counts"] (sp_packed K) := ok_packed F_packed Z_sorted Z_tuple
  have G_bit_of : FnOk l.prog w K mg base CX0 1 f_bit_of _ ["hand"] (sp_bit_of K) := ok_bit_of F_bit_of
  have G_has : FnOk l.prog w K mg base CX0 2 f_has _ ["hands", "hand"] (sp_has K) := ok_has F_has (G_bit_of.mono (by decide)) CA_bit_of
  have G_hands_of : FnOk l.prog w K mg base CX0 3 f_hands_of _ ["hands"] (sp_hands_of K) := ok_hands_of F_hands_of (G_has.mono (by decide)) CA_has Z_range
  have G_Known___init__ : FnOk l.prog w K mg base CX0 4 f_Known___init__ _ ["self", "hands"] (sp_Known___init__ K) := ok_Known___init__ F_Known___init__ (G_hands_of.mono (by decide)) CA_hands_of Z_dict
  have G_Known_learn : FnOk l.prog w K mg base CX0 3 f_Known_learn _ ["self", "hand", "counts"] (sp_Known_learn K mg) := ok_Known_learn F_Known_learn (G_joined.mono (by decide)) CA_joined T_Known m_Known
  have G_Known_listed : FnOk l.prog w K mg base CX0 2 f_Known_listed _ ["self"] (sp_Known_listed K mg) := ok_Known_listed F_Known_listed (G_packed.mono (by decide)) CA_packed Z_tuple T_Known m_Known
  have G_Known_merge : FnOk l.prog w K mg base CX0 4 f_Known_merge _ ["self", "listed"] (sp_Known_merge K mg) := ok_Known_merge F_Known_merge (G_unpacked.mono (by decide)) CA_unpacked (G_Known_learn.mono (by decide)) B_Known_learn T_Known m_Known mt_Known_learn
  have G__law_cell_at : FnOk l.prog w K mg base CX0 1 f__law_cell_at _ ["_law_script", "_law_k"] (sp__law_cell_at K) := ok__law_cell_at F__law_cell_at Z_len
  have G__law_stream : FnOk l.prog w K mg base CX0 1 f__law_stream _ ["_law_cell", "_law_amount"] (sp__law_stream K) := ok__law_stream F__law_stream Z_range
  have G__law_hands : FnOk l.prog w K mg base CX0 2 f__law_hands _ ["_law_cell"] (sp__law_hands K) := ok__law_hands F__law_hands (G__law_stream.mono (by decide)) CA__law_stream Z_list Z_range Z_sorted
  have G__law_counts : FnOk l.prog w K mg base CX0 1 f__law_counts _ ["_law_xs", "_law_cell"] (sp__law_counts K) := ok__law_counts F__law_counts Z_range
  have G__law_more : FnOk l.prog w K mg base CX0 1 f__law_more _ ["_law_hands_here", "_law_cell"] (sp__law_more K) := ok__law_more F__law_more Z_len Z_range
  have G__law_learn : FnOk l.prog w K mg base CX0 1 f__law_learn _ ["_law_due", "_law_hand", "_law_counts_here"] (sp__law_learn K) := ok__law_learn F__law_learn
  have G__law_listed : FnOk l.prog w K mg base CX0 1 f__law_listed _ ["_law_due"] (sp__law_listed K) := ok__law_listed F__law_listed Z_sorted Z_tuple
  have G__law_plain : FnOk l.prog w K mg base CX0 1 f__law_plain _ ["_law_found"] (sp__law_plain K) := ok__law_plain F__law_plain Z_bool Z_int Z_isinstance Z_len Z_tuple
  have G__law_merge : FnOk l.prog w K mg base CX0 5 f__law_merge _ ["_law_table", "_law_due", "_law_hands_here", "_law_listed_here"] (sp__law_merge K mg) := ok__law_merge F__law_merge (G_Known_merge.mono (by decide)) B_Known_merge (G__law_learn.mono (by decide)) CA__law_learn Z_dict T_Known m_Known mt_Known_merge
  have G__law_ended : FnOk l.prog w K mg base CX0 6 f__law_ended _ ["_law_tables", "_law_dues", "_law_hands_here"] (sp__law_ended K mg) := ok__law_ended F__law_ended (G_Known_listed.mono (by decide)) B_Known_listed (G__law_listed.mono (by decide)) CA__law_listed (G__law_merge.mono (by decide)) CA__law_merge Z_range T_Known m_Known mt_Known_listed
  exact ok_law F_law (G_Known___init__.mono (by decide)) B_Known___init__ (G_Known_learn.mono (by decide)) B_Known_learn (G_Known_listed.mono (by decide)) B_Known_listed (G__law_cell_at.mono (by decide)) CA__law_cell_at (G__law_stream.mono (by decide)) CA__law_stream (G__law_hands.mono (by decide)) CA__law_hands (G__law_counts.mono (by decide)) CA__law_counts (G__law_more.mono (by decide)) CA__law_more (G__law_learn.mono (by decide)) CA__law_learn (G__law_listed.mono (by decide)) CA__law_listed (G__law_plain.mono (by decide)) CA__law_plain (G__law_merge.mono (by decide)) CA__law_merge (G__law_ended.mono (by decide)) CA__law_ended Z_len Z_sum T_Known m_Known M_Known mt_Known_learn mt_Known_listed
theorem walk {l : PySem.W.OpenLaw} {q : Program} {loose : List Str} {XP : (Str → Option Value) → Heap → Prop} {YP : World → Heap → Prop} {d : DefRec} {K : Params → PySem.W.Frag} (hn : l.most = some 63) (hdf : d.params.defaults = [])
    (hY : ∀ (w : World) (h : Heap), YP w h → (K w.params).In h)
    (F : ∀ (w : World) (mg : Str → Option Value) (fa : Addr) (h : Heap), (K w.params).In h → h.Ns mainGlobals mg → mg d.name = some (.ref fa) →
      ∃ fd : FuncData, (∀ (s : Shared) (u : Value), BindsTo s fd ⟨[u], []⟩ [("_law_script", u)]) ∧ ∀ base : Heap, (K w.params).In base → base.Ns mainGlobals mg → FnOk l.prog w (K w.params) mg base CX0 7 fa fd ["_law_script"] (sp_law (K w.params))) :
    PySem.W.WalkO q loose XP YP l.row.toRowW d [] (fun f vs => PySem.call f vs) :=
  L2.walk_of (n := 63) (k := 7) (x := "_law_script") (CX := fun _ => CX0) (sp := fun w => sp_law (K w.params)) hn (by decide) hdf ⟨rfl, by decide, by decide⟩ hY F (fun _ _ a ns hl _ hS => ⟨a, ns, rfl, hS, hl, fun _ => rfl⟩) fun _ _ _ _ _ z => z
end K34
open PySem PySem.W PyProof.Rows
set_option maxRecDepth 100000 in
set_option maxHeartbeats 0 in
theorem PySem.Challenge.cw_groupcall_k34_whole_merged_alike_holds : PySem.Challenge.rw_groupcall_k34_whole_merged_alike.Holds := by
  w_on; o_law; k_head; (case hw => w_witness2)
  k_fill
  refine K34.walk (l := PySem.Challenge.rw_groupcall_k34_whole_merged_alike) rfl rfl (fun w h Y => PySem.W.kIn_of Y) ?F
  case F =>
    intro w mg fa h KX G hmg
    refine' K34.all_mk KX G hmg ?a_count_of ?a_hands_among ?a_unpacked ?a_joined ?a_packed ?a_bit_of ?a_has ?a_hands_of ?a__law_cell_at ?a__law_stream ?a__law_hands ?a__law_counts ?a__law_more ?a__law_learn ?a__law_listed ?a__law_plain ?a__law_merge ?a__law_ended ?a_law ?a_Known ?z_bool ?z_dict ?z_int ?z_isinstance ?z_len ?z_list ?z_max ?z_range ?z_set ?z_sorted ?z_sum ?z_tuple ?at_Known___init__ ?at_Known_learn ?at_Known_listed ?at_Known_merge ?l_count_of ?c_count_of ?k_count_of ?l_hands_among ?c_hands_among ?k_hands_among ?l_unpacked ?c_unpacked ?k_unpacked ?l_joined ?c_joined ?k_joined ?l_packed ?c_packed ?k_packed ?l_bit_of ?c_bit_of ?k_bit_of ?l_has ?c_has ?k_has ?l_hands_of ?c_hands_of ?k_hands_of ?l_Known___init__ ?c_Known___init__ ?k_Known___init__ ?l_Known_learn ?c_Known_learn ?k_Known_learn ?l_Known_listed ?c_Known_listed ?k_Known_listed ?l_Known_merge ?c_Known_merge ?k_Known_merge ?l__law_cell_at ?c__law_cell_at ?k__law_cell_at ?l__law_stream ?c__law_stream ?k__law_stream ?l__law_hands ?c__law_hands ?k__law_hands ?l__law_counts ?c__law_counts ?k__law_counts ?l__law_more ?c__law_more ?k__law_more ?l__law_learn ?c__law_learn ?k__law_learn ?l__law_listed ?c__law_listed ?k__law_listed ?l__law_plain ?c__law_plain ?k__law_plain ?l__law_merge ?c__law_merge ?k__law_merge ?l__law_ended ?c__law_ended ?k__law_ended ?l_law ?c_law ?k_law ?i_Known___init__ ?i_Known_learn ?i_Known_listed ?i_Known_merge ?pg_Known ?hd_Known ?po_Known ?sa_Known ?n_Known_learnt ?mk_Known ?kc_Known
    (case a_count_of => first | k_is | rfl | decide)
    (case a_hands_among => first | k_is | rfl | decide)
    (case a_unpacked => first | k_is | rfl | decide)
    (case a_joined => first | k_is | rfl | decide)
    (case a_packed => first | k_is | rfl | decide)
    (case a_bit_of => first | k_is | rfl | decide)
    (case a_has => first | k_is | rfl | decide)
    (case a_hands_of => first | k_is | rfl | decide)
    (case a__law_cell_at => first | k_is | rfl | decide)
    (case a__law_stream => first | k_is | rfl | decide)
    (case a__law_hands => first | k_is | rfl | decide)
    (case a__law_counts => first | k_is | rfl | decide)
    (case a__law_more => first | k_is | rfl | decide)
    (case a__law_learn => first | k_is | rfl | decide)
    (case a__law_listed => first | k_is | rfl | decide)
    (case a__law_plain => first | k_is | rfl | decide)
    (case a__law_merge => first | k_is | rfl | decide)
    (case a__law_ended => first | k_is | rfl | decide)
    (case a_law => first | k_is | rfl | decide)
    (case a_Known => first | k_is | rfl | decide)
    (case z_bool => first | k_is | rfl | decide)
    (case z_dict => first | k_is | rfl | decide)
    (case z_int => first | k_is | rfl | decide)
    (case z_isinstance => first | k_is | rfl | decide)
    (case z_len => first | k_is | rfl | decide)
    (case z_list => first | k_is | rfl | decide)
    (case z_max => first | k_is | rfl | decide)
    (case z_range => first | k_is | rfl | decide)
    (case z_set => first | k_is | rfl | decide)
    (case z_sorted => first | k_is | rfl | decide)
    (case z_sum => first | k_is | rfl | decide)
    (case z_tuple => first | k_is | rfl | decide)
    (case at_Known___init__ => first | k_is | rfl | decide)
    (case at_Known_learn => first | k_is | rfl | decide)
    (case at_Known_listed => first | k_is | rfl | decide)
    (case at_Known_merge => first | k_is | rfl | decide)
    (case l_count_of => first | k_is | rfl | decide)
    (case c_count_of => first | k_is | rfl | decide)
    (case k_count_of => first | k_is | rfl | decide)
    (case l_hands_among => first | k_is | rfl | decide)
    (case c_hands_among => first | k_is | rfl | decide)
    (case k_hands_among => first | k_is | rfl | decide)
    (case l_unpacked => first | k_is | rfl | decide)
    (case c_unpacked => first | k_is | rfl | decide)
    (case k_unpacked => first | k_is | rfl | decide)
    (case l_joined => first | k_is | rfl | decide)
    (case c_joined => first | k_is | rfl | decide)
    (case k_joined => first | k_is | rfl | decide)
    (case l_packed => first | k_is | rfl | decide)
    (case c_packed => first | k_is | rfl | decide)
    (case k_packed => first | k_is | rfl | decide)
    (case l_bit_of => first | k_is | rfl | decide)
    (case c_bit_of => first | k_is | rfl | decide)
    (case k_bit_of => first | k_is | rfl | decide)
    (case l_has => first | k_is | rfl | decide)
    (case c_has => first | k_is | rfl | decide)
    (case k_has => first | k_is | rfl | decide)
    (case l_hands_of => first | k_is | rfl | decide)
    (case c_hands_of => first | k_is | rfl | decide)
    (case k_hands_of => first | k_is | rfl | decide)
    (case l_Known___init__ => first | k_is | rfl | decide)
    (case c_Known___init__ => first | k_is | rfl | decide)
    (case k_Known___init__ => first | k_is | rfl | decide)
    (case l_Known_learn => first | k_is | rfl | decide)
    (case c_Known_learn => first | k_is | rfl | decide)
    (case k_Known_learn => first | k_is | rfl | decide)
    (case l_Known_listed => first | k_is | rfl | decide)
    (case c_Known_listed => first | k_is | rfl | decide)
    (case k_Known_listed => first | k_is | rfl | decide)
    (case l_Known_merge => first | k_is | rfl | decide)
    (case c_Known_merge => first | k_is | rfl | decide)
    (case k_Known_merge => first | k_is | rfl | decide)
    (case l__law_cell_at => first | k_is | rfl | decide)
    (case c__law_cell_at => first | k_is | rfl | decide)
    (case k__law_cell_at => first | k_is | rfl | decide)
    (case l__law_stream => first | k_is | rfl | decide)
    (case c__law_stream => first | k_is | rfl | decide)
    (case k__law_stream => first | k_is | rfl | decide)
    (case l__law_hands => first | k_is | rfl | decide)
    (case c__law_hands => first | k_is | rfl | decide)
    (case k__law_hands => first | k_is | rfl | decide)
    (case l__law_counts => first | k_is | rfl | decide)
    (case c__law_counts => first | k_is | rfl | decide)
    (case k__law_counts => first | k_is | rfl | decide)
    (case l__law_more => first | k_is | rfl | decide)
    (case c__law_more => first | k_is | rfl | decide)
    (case k__law_more => first | k_is | rfl | decide)
    (case l__law_learn => first | k_is | rfl | decide)
    (case c__law_learn => first | k_is | rfl | decide)
    (case k__law_learn => first | k_is | rfl | decide)
    (case l__law_listed => first | k_is | rfl | decide)
    (case c__law_listed => first | k_is | rfl | decide)
    (case k__law_listed => first | k_is | rfl | decide)
    (case l__law_plain => first | k_is | rfl | decide)
    (case c__law_plain => first | k_is | rfl | decide)
    (case k__law_plain => first | k_is | rfl | decide)
    (case l__law_merge => first | k_is | rfl | decide)
    (case c__law_merge => first | k_is | rfl | decide)
    (case k__law_merge => first | k_is | rfl | decide)
    (case l__law_ended => first | k_is | rfl | decide)
    (case c__law_ended => first | k_is | rfl | decide)
    (case k__law_ended => first | k_is | rfl | decide)
    (case l_law => first | k_is | rfl | decide)
    (case c_law => first | k_is | rfl | decide)
    (case k_law => first | k_is | rfl | decide)
    (case i_Known___init__ => first | k_is | rfl | decide)
    (case i_Known_learn => first | k_is | rfl | decide)
    (case i_Known_listed => first | k_is | rfl | decide)
    (case i_Known_merge => first | k_is | rfl | decide)
    (case pg_Known => first | k_is | rfl | decide)
    (case hd_Known => first | k_is | rfl | decide)
    (case po_Known => first | k_is | rfl | decide)
    (case sa_Known => first | k_is | rfl | decide)
    (case n_Known_learnt => first | k_is | rfl | decide)
    (case mk_Known => first | k_is | rfl | decide)
    (case kc_Known => first | k_is | rfl | decide)

