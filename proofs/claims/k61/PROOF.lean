import PyProof.Rows.All
import Wide.All
import OpenK.AllK
import Wide.FinOn
import Lean
import PyProof.EqAt
import PyProof.EqKinds
import PyProof.TupleCall
import PyProof.CompMap
import PyProof.MinMaxWalk
import KE.KMinBuiltin
import PyProof.SliceList
import PySem.Challenge.RW_groupcall_k61_ballots
set_option Elab.async false
set_option linter.all false
set_option maxRecDepth 100000
namespace L2
open PySem PySem.Spec PyProof.Rows
abbrev Key := Sum Int Str
def keyIs : Key → Value → Bool
  | .inl k, v => Value.isInt k v
  | .inr x, v => Value.isStrOf x v
def keyH (w : World) : Key → Int
  | .inl k => hashInt k
  | .inr x => hashStr w x
theorem keyIs_shape : ∀ {k : Key} {v : Value}, keyIs k v = true → (∃ i t, k = Sum.inl i ∧ v = Value.int i t) ∨ (∃ x t, k = Sum.inr x ∧ v = Value.str x t)
  | .inl i, v, h => by
    obtain ⟨t, e⟩ := Value.isInt_shape (k := i) (v := v) h
    exact .inl ⟨i, t, rfl, e⟩
  | .inr x, v, h => by
    obtain ⟨t, e⟩ := Value.isStrOf_shape (x := x) (v := v) h
    exact .inr ⟨x, t, rfl, e⟩
theorem keyIs_int (i : Int) (t : Tok) : keyIs (.inl i) (.int i t) = true := by simp [keyIs, Value.isInt]
theorem keyIs_str (x : Str) (t : Tok) : keyIs (.inr x) (.str x t) = true := by simp [keyIs, Value.isStrOf]
theorem key_ll (a b : Int) : decide ((Sum.inl a : Key) = Sum.inl b) = (a == b) := by
  by_cases e : a = b
  · subst e; simp
  · have h : ¬ (Sum.inl a : Key) = Sum.inl b := fun q => e (Sum.inl.inj q)
    rw [decide_eq_false h]
    exact (beq_eq_false_iff_ne.mpr e).symm
theorem key_rr (a b : Str) : decide ((Sum.inr a : Key) = Sum.inr b) = decide (a = b) := by
  by_cases e : a = b
  · subst e; simp
  · have h : ¬ (Sum.inr a : Key) = Sum.inr b := fun q => e (Sum.inr.inj q)
    rw [decide_eq_false h, decide_eq_false e]
theorem key_lr (a : Int) (b : Str) : decide ((Sum.inl a : Key) = Sum.inr b) = false := decide_eq_false (fun q => nomatch q)
theorem key_rl (a : Str) (b : Int) : decide ((Sum.inr a : Key) = Sum.inl b) = false := decide_eq_false (fun q => nomatch q)
def mixKind (prog : Program) (w : World) : PySem.KeyKind prog w Key where
  is := keyIs
  hash := keyH w
  inj := fun v a b ha hb => by
    rcases keyIs_shape ha with ⟨i, t, rfl, rfl⟩ | ⟨x, t, rfl, rfl⟩
    · rcases keyIs_shape hb with ⟨j, u, rfl, e⟩ | ⟨y, u, rfl, e⟩
      · injection e with e1 _; rw [e1]
      · exact nomatch e
    · rcases keyIs_shape hb with ⟨j, u, rfl, e⟩ | ⟨y, u, rfl, e⟩
      · exact nomatch e
      · injection e with e1 _; rw [e1]
  byValue := fun k v h => by
    rcases keyIs_shape h with ⟨i, t, rfl, rfl⟩ | ⟨x, t, rfl, rfl⟩ <;> rfl
  pyHash := fun hv h => by
    rcases keyIs_shape hv with ⟨i, t, rfl, rfl⟩ | ⟨x, t, rfl, rfl⟩
    · exact wpAny_pyHash_int h
    · exact wpAny_pyHash_str h
  eqBool := fun hu hv h => by
    rcases keyIs_shape hu with ⟨i, t, rfl, rfl⟩ | ⟨x, t, rfl, rfl⟩
    · rcases keyIs_shape hv with ⟨j, u, rfl, rfl⟩ | ⟨y, u, rfl, rfl⟩
      · rw [key_ll] at h; exact wpAny_eqBool_int h
      · rw [key_lr] at h; exact SeqAt.EqAt.int_str i t y u _ _ _ _ h
    · rcases keyIs_shape hv with ⟨j, u, rfl, rfl⟩ | ⟨y, u, rfl, rfl⟩
      · rw [key_rl] at h; exact SeqAt.EqAt.str_int x t j u _ _ _ _ h
      · rw [key_rr] at h; exact wpAny_eqBool_str h
  «strs» := fun k x t v h => by
    rcases keyIs_shape h with ⟨i, u, rfl, e⟩ | ⟨y, u, rfl, e⟩
    · exact nomatch e
    · injection e with e1 _
      subst e1
      cases v <;> rfl
theorem mixKind_int (prog : Program) (w : World) (i : Int) (t : Tok) : (mixKind prog w).is (.inl i) (.int i t) = true := keyIs_int i t
theorem mixKind_str (prog : Program) (w : World) (x : Str) (t : Tok) : (mixKind prog w).is (.inr x) (.str x t) = true := keyIs_str x t
end L2
namespace L2
open PySem PySem.Spec PyProof.Rows
inductive V where
  | non | bl (b : Bool) | int (i : Int) | str (x : Str) | byt (b : Array UInt8) | flt (b : UInt64) | ref (a : Addr) | ty (n : String)
  deriving DecidableEq
def RelV : V → Value → Prop
  | .non, u => u = Value.none
  | .bl b, u => u = Value.bool b
  | .int i, u => ∃ t, u = Value.int i t
  | .str x, u => ∃ t, u = Value.str x t
  | .byt b, u => ∃ t, u = Value.bytes b t
  | .flt b, u => ∃ t, u = Value.float b t
  | .ref a, u => u = Value.ref a
  | .ty n, u => u = Value.type n
abbrev Vals : List V → List Value → Prop := Paired RelV
theorem Vals.length {xs : List V} {us : List Value} (r : Vals xs us) : xs.length = us.length := Paired.length r
theorem Vals.get : ∀ {xs : List V} {us : List Value} {i : Nat} {x : V}, Vals xs us → xs[i]? = some x → ∃ u, us[i]? = some u ∧ RelV x u
  | _, _, _, _, .nil, e => by simp at e
  | _, _, 0, _, .cons r _, e => by simp at e; subst e; exact ⟨_, rfl, r⟩
  | _, _, i + 1, x, .cons _ t, e => by
    obtain ⟨u, h1, h2⟩ := Vals.get (i := i) (x := x) t (by simpa using e)
    exact ⟨u, by simpa using h1, h2⟩
theorem Vals.set {x : V} {u : Value} (r : RelV x u) : ∀ {xs : List V} {us : List Value} (i : Nat), Vals xs us → Vals (xs.set i x) (us.set i u)
  | _, _, _, .nil => .nil
  | _, _, 0, .cons _ t => .cons r t
  | _, _, i + 1, .cons q t => .cons q (Vals.set r i t)
theorem Vals.append : ∀ {xs ys : List V} {us ws : List Value}, Vals xs us → Vals ys ws → Vals (xs ++ ys) (us ++ ws)
  | _, _, _, _, .nil, s => s
  | _, _, _, _, .cons r t, s => .cons r (Vals.append t s)
theorem Vals.take : ∀ {xs : List V} {us : List Value} (n : Nat), Vals xs us → Vals (xs.take n) (us.take n)
  | _, _, 0, _ => .nil
  | _, _, _ + 1, .nil => .nil
  | _, _, n + 1, .cons r t => .cons r (Vals.take n t)
theorem Vals.drop : ∀ {xs : List V} {us : List Value} (n : Nat), Vals xs us → Vals (xs.drop n) (us.drop n)
  | _, _, 0, r => r
  | _, _, _ + 1, .nil => .nil
  | _, _, n + 1, .cons _ t => Vals.drop n t
def RelO : Option V → Option Value → Prop
  | some v, some u => RelV v u
  | none, none => True
  | _, _ => False
def KV {κ : Type} : List (κ × V) → List (κ × Value) → Prop := Paired fun (p : κ × V) (q : κ × Value) => p.1 = q.1 ∧ RelV p.2 q.2
def kV : Key → V
  | .inl i => .int i
  | .inr x => .str x
inductive HO where
  | lst (xs : List V)
  | tup (xs : List V)
  | dK (kvs : List (Key × V)) | dT (kvs : List (List Key × V))
  | set (S : Int → Bool) (n : Nat)
  | ins (C dx : Addr) (fs : List (Str × V))
  | own (x : Addr)
  | xd (fs : List (Str × V))
  | met (f x : Addr)
  | rng (lo hi : Int)
  | frz (o : Obj) (u : HO)
  | tbl (ps : Array Value)
  | ext (φ : Heap → Prop)
abbrev Hp := Addr → Option HO
def upd (H : Hp) (a : Addr) (o : HO) : Hp := fun b => if b = a then some o else H b
theorem upd_same {H : Hp} {a : Addr} {o : HO} : upd H a o a = some o := by unfold upd; rw [if_pos rfl]
theorem upd_ne {H : Hp} {a b : Addr} {o : HO} (h : b ≠ a) : upd H a o b = H b := by unfold upd; rw [if_neg h]
theorem upd_upd {H : Hp} {a : Addr} {o u : HO} : upd (upd H a o) a u = upd H a u := by
  funext b; unfold upd; split <;> rfl
theorem ne_of {H : Hp} {a b : Addr} {o u : HO} (h : H a = some o) (h' : H b = some u) (d : o ≠ u) : a ≠ b := by
  intro e; subst e; rw [h] at h'; exact d (Option.some.inj h')
theorem ne_of_none {H : Hp} {a b : Addr} {o : HO} (h : H a = some o) (h' : H b = none) : a ≠ b := by
  intro e; subst e; rw [h] at h'; cases h'
def IsTpl (h : Heap) (a : Addr) (items : Array Value) : Prop := ∃ o, h.get? a = some o ∧ o.cls = .type "tuple" ∧ ∃ n, o.data = .seq items n ∧ o.dict = none ∧ o.slots = #[]
theorem IsTpl.tup {h : Heap} {a : Addr} {items : Array Value} (x : IsTpl h a items) : IsTup h a items := let ⟨o, e, c, n, d, _⟩ := x; ⟨o, e, c, n, d⟩
theorem IsTpl.lt {h : Heap} {a : Addr} {items : Array Value} (x : IsTpl h a items) : a < h.objs.size := x.tup.lt
theorem IsTpl.new (h : Heap) (items : Array Value) : IsTpl (h.push { cls := .type "tuple", data := .seq items }) h.objs.size items := ⟨_, Heap.get?_push_size _ rfl, rfl, _, rfl, rfl, rfl⟩
theorem IsTpl.obj {h : Heap} {a : Addr} {items : Array Value} (x : IsTpl h a items) : ∃ n, h.get? a = some { cls := .type "tuple", dict := none, data := .seq items n, slots := #[] } := by
  obtain ⟨⟨c, d, t, l⟩, e, c1, n, c2, c3, c4⟩ := x
  cases c1
  cases c2
  cases c3
  cases c4
  exact ⟨n, e⟩
section
variable (P : Program) (w : World)
def ObjOk (H : Hp) (h : Heap) (a : Addr) : HO → Prop
  | .lst xs => xs.length ≤ sizeLine ∧ ∃ (its : List Value) (n : Nat), Vals xs its ∧ h.get? a = some { cls := .type "list", data := .seq its.toArray n }
  | .tup xs => xs.length ≤ sizeLine ∧ ∃ its : List Value, Vals xs its ∧ IsTpl h a its.toArray
  | .dK kvs => kvs.length ≤ sizeLine ∧ (a == sysModules) = false ∧ ∃ vs, KV kvs vs ∧ h.DictOf (mixKind P w) a vs
  | .dT kvs => kvs.length ≤ sizeLine ∧ (a == sysModules) = false ∧ ∃ xs : List (List Key × Addr × Value),
      Paired (fun (p : List Key × V) (q : List Key × Addr × Value) => p.1 = q.1 ∧ H q.2.1 = some (.tup (p.1.map kV)) ∧ RelV p.2 q.2.2) kvs xs ∧
      ∃ o es ep, h.get? a = some o ∧ o.ExactDict ∧ o.data = .dict es ep ∧ es.toList = xs.map (entryOfKey (tupleKind (mixKind P w))) ∧ (xs.map (·.1)).Nodup
  | .set S n => h.SetOf (intKind P w) a S n
  | .ins C dx fs => H dx = some (.own a) ∧ fs.length ≤ 1000 ∧ dx ≠ a ∧ h.get? a = some (PySem.W.instObj C dx) ∧
      ∃ mA, h.Ns1 dx mA ∧ (∀ f, RelO (fs.lookup f) (mA f)) ∧ PySem.Within mA (fs.map (·.1))
  | .own _ => ∃ o, h.get? a = some o
  | .xd fs => ∃ mA, h.Ns1 a mA ∧ ∀ f, RelO (fs.lookup f) (mA f)
  | .rng lo hi => ∃ t u v, h.get? a = some { cls := .type "range", data := .fields #[.int lo t, .int hi u, .int 1 v] }
  | .frz o u => h.get? a = some o ∧ ObjOk H h a u
  | .tbl ps => h.get? a = some { cls := .none, data := .fields ps }
  | .met f x => h.get? a = some (PySem.W.methodObj (.ref f) (.ref x))
  | .ext φ => φ h ∧ (∃ o, h.get? a = some o) ∧ ∀ h1 h2 : Heap, φ h1 → (∀ o, h1.get? a = some o → h2.get? a = some o) → φ h2
def HOk (H : Hp) (h : Heap) : Prop := ∀ a o, H a = some o → ObjOk P w H h a o
end
section
variable {P : Program} {w : World} {H H' : Hp} {h h' : Heap} {a : Addr} {o : HO}
theorem ObjOk.lt (x : ObjOk P w H h a o) : a < h.objs.size := by
  cases o with
  | lst xs => obtain ⟨_, _, _, _, e⟩ := x; exact Heap.lt_size e
  | tup xs => obtain ⟨_, _, _, p⟩ := x; exact p.lt
  | dK kvs => obtain ⟨_, _, _, _, o, _, _, e, _⟩ := x; exact Heap.lt_size e
  | dT kvs => obtain ⟨_, _, _, _, o, _, _, e, _⟩ := x; exact Heap.lt_size e
  | set S n => obtain ⟨o, _, _, _, e, _⟩ := x; exact Heap.lt_size e
  | ins C dx fs => obtain ⟨_, _, _, e, _⟩ := x; exact Heap.lt_size e
  | own y => obtain ⟨_, e⟩ := x; exact Heap.lt_size e
  | xd fs => obtain ⟨_, ⟨_, _, _, e, _⟩, _⟩ := x; exact Heap.lt_size e
  | rng lo hi => obtain ⟨_, _, _, e⟩ := x; exact Heap.lt_size e
  | frz ob u => obtain ⟨e, _⟩ := x; exact Heap.lt_size e
  | tbl ps => exact Heap.lt_size (show h.get? a = some _ from x)
  | met f y => exact Heap.lt_size (show h.get? a = some _ from x)
  | ext φ => obtain ⟨_, ⟨_, e⟩, _⟩ := x; exact Heap.lt_size e
theorem Paired.mapP {α β : Type} {F G : α → β → Prop} : ∀ {l₁ : List α} {l₂ : List β}, Paired F l₁ l₂ → (∀ a b, F a b → G a b) → Paired G l₁ l₂
  | _, _, .nil, _ => .nil
  | _, _, .cons r t, f => .cons (f _ _ r) (Paired.mapP t f)
theorem ObjOk.stay (x : ObjOk P w H h a o) (k : ∀ b u, (b = a ∨ H b = some (.own a)) → h.get? b = some u → h'.get? b = some u)
    (ho : ∀ b, H b = some (.own a) → H' b = some (.own a)) (ht : ∀ b xs, H b = some (.tup xs) → H' b = some (.tup xs)) : ObjOk P w H' h' a o := by
  induction o with
  | lst xs => obtain ⟨z, its, n, r, e⟩ := x; exact ⟨z, its, n, r, k _ _ (.inl rfl) e⟩
  | tup xs => obtain ⟨z, its, r, ob, e, c⟩ := x; exact ⟨z, its, r, ob, k _ _ (.inl rfl) e, c⟩
  | dK kvs => obtain ⟨z, y, vs, r, ob, es, ep, e, c⟩ := x; exact ⟨z, y, vs, r, ob, es, ep, k _ _ (.inl rfl) e, c⟩
  | dT kvs =>
    obtain ⟨z, y, xs, r, ob, es, ep, e, c⟩ := x
    exact ⟨z, y, xs, Paired.mapP r fun p q z => ⟨z.1, ht _ _ z.2.1, z.2.2⟩, ob, es, ep, k _ _ (.inl rfl) e, c⟩
  | set S n => obtain ⟨ob, es, ep, t, e, c⟩ := x; exact ⟨ob, es, ep, t, k _ _ (.inl rfl) e, c⟩
  | ins C dx fs =>
    obtain ⟨d, z, ne, e, mA, ⟨od, es, ep, e2, c⟩, r⟩ := x
    exact ⟨ho _ d, z, ne, k _ _ (.inl rfl) e, mA, ⟨od, es, ep, k _ _ (.inr d) e2, c⟩, r⟩
  | own y => obtain ⟨ob, e⟩ := x; exact ⟨ob, k _ _ (.inl rfl) e⟩
  | xd fs => obtain ⟨mA, ⟨od, es, ep, e, c⟩, r⟩ := x; exact ⟨mA, ⟨od, es, ep, k _ _ (.inl rfl) e, c⟩, r⟩
  | rng lo hi => obtain ⟨t, u, v, e⟩ := x; exact ⟨t, u, v, k _ _ (.inl rfl) e⟩
  | frz ob u ih => obtain ⟨e, q⟩ := x; exact ⟨k _ _ (.inl rfl) e, ih q⟩
  | tbl ps =>
    have e : h.get? a = some { cls := .none, data := .fields ps } := x
    show h'.get? a = some { cls := .none, data := .fields ps }
    exact k a _ (.inl rfl) e
  | met f y =>
    have e : h.get? a = some (PySem.W.methodObj (.ref f) (.ref y)) := x
    show h'.get? a = some (PySem.W.methodObj (.ref f) (.ref y))
    exact k a _ (.inl rfl) e
  | ext φ => obtain ⟨p, ⟨o, e⟩, st⟩ := x; exact ⟨st _ _ p fun o q => k _ _ (.inl rfl) q, ⟨o, k _ _ (.inl rfl) e⟩, st⟩
theorem HOk.lt (x : HOk P w H h) (e : H a = some o) : a < h.objs.size := (x a o e).lt
theorem HOk.fresh (x : HOk P w H h) (e : h.objs.size ≤ a) : H a = none := by
  cases q : H a with
  | none => rfl
  | some u => exact absurd (Nat.lt_of_lt_of_le (x.lt q) e) (Nat.lt_irrefl _)
theorem HOk.kept (x : HOk P w H h) (k : ∀ b u, h.get? b = some u → h'.get? b = some u) : HOk P w H h' := fun a o e =>
  (x a o e).stay (fun b u _ q => k b u q) (fun _ q => q) fun _ _ q => q
theorem HOk.laid (x : HOk P w H h) (k : ∀ b u, h.get? b = some u → h'.get? b = some u) (hp : h.objs.size ≤ a) (new : ObjOk P w (upd H a o) h' a o) : HOk P w (upd H a o) h' := fun b u e => by
  have hn := x.fresh hp
  by_cases hb : b = a
  · subst hb; rw [upd_same] at e; cases e; exact new
  · rw [upd_ne hb] at e
    exact (x b u e).stay (fun c v _ q => k c v q) (fun c q => by rw [upd_ne (ne_of_none q hn)]; exact q) fun c xs q => by rw [upd_ne (ne_of_none q hn)]; exact q
end
def Rd (H : Hp) (a : Addr) (u : HO) : Prop := H a = some u ∨ ∃ o, H a = some (.frz o u)
theorem Rd.of {H : Hp} {a : Addr} {u : HO} (h : H a = some u) : Rd H a u := .inl h
theorem Rd.ok {P : Program} {w : World} {H : Hp} {h : Heap} {a : Addr} {u : HO} (r : Rd H a u) (x : HOk P w H h) : ObjOk P w H h a u := by
  rcases r with r | ⟨o, r⟩
  · exact x a u r
  · obtain ⟨_, q⟩ := x a _ r
    exact q
def Mut : Option HO → Prop
  | some (.lst _) => True
  | some (.dK _) => True
  | some (.dT _) => True
  | some (.set _ _) => True
  | some (.ins _ _ _) => True
  | some (.ext _) => True
  | _ => False
section
variable {P : Program} {w : World} {H : Hp} {h h' : Heap} {x e : Addr} {o' : HO}
theorem HOk.write (ok : HOk P w H h) (mu : Mut (H x)) (he : e = x ∨ H e = some (.own x)) (k : ∀ b u, b ≠ e → h.get? b = some u → h'.get? b = some u) (heo : ∃ u, h'.get? e = some u)
    (new : ObjOk P w (upd H x o') h' x o') : HOk P w (upd H x o') h' := fun b u q => by
  have nown : ∀ c y, H c = some (.own y) → c ≠ x := fun c y r z => by subst z; rw [r] at mu; exact mu
  have ntup : ∀ c xs, H c = some (.tup xs) → c ≠ x := fun c xs r z => by subst z; rw [r] at mu; exact mu
  by_cases hb : b = x
  · subst hb; rw [upd_same] at q; cases q; exact new
  · rw [upd_ne hb] at q
    by_cases hbe : b = e
    · have q' : H b = some (.own x) := by
        rcases he with z | z
        · exact absurd (hbe.trans z) hb
        · rw [hbe]; exact z
      rw [q] at q'; cases q'
      obtain ⟨v, hv⟩ := heo
      exact ⟨v, by rw [hbe]; exact hv⟩
    · refine (ok b u q).stay (fun c v hc r => k c v ?_ r) (fun c r => by rw [upd_ne (nown c b r)]; exact r) fun c xs r => by rw [upd_ne (ntup c xs r)]; exact r
      rcases hc with rfl | hc
      · exact hbe
      · rintro rfl
        rcases he with z | z
        · exact nown c b hc z
        · rw [hc] at z; cases z; exact hb rfl
end
structure Un (fs ex : List Addr) (H H' : Hp) (h h' : Heap) : Prop where
  keep : ∀ b o, h.get? b = some o → H b = none → b ∉ fs → b ∉ ex → h'.get? b = some o
  slot : ∀ b o, h.get? b = some o → H b = none → b ∈ fs → b ∉ ex → ∃ sl, h'.get? b = some { o with slots := sl }
  free : ∀ b o, h.get? b = some o → H b = none → b ∉ ex → H' b = none
  there : ∀ b o, h.get? b = some o → b ∉ ex → ∃ o', h'.get? b = some o'
  tups : ∀ b xs, H b = some (.tup xs) → H' b = some (.tup xs)
  frzs : ∀ b o u, H b = some (.frz o u) → H' b = some (.frz o u)
  tbls : ∀ b ps, H b = some (.tbl ps) → ∃ more, H' b = some (.tbl (ps ++ more))
section
variable {fs fs' ex ex' : List Addr} {H H1 H2 : Hp} {h h1 h2 h' : Heap} {a x e : Addr} {o : HO}
theorem Un.any (u : Un fs ex H H1 h h1) {b : Addr} {ob : Obj} (q : h.get? b = some ob) (n : H b = none) (hx : b ∉ ex) : ∃ sl, h1.get? b = some { ob with slots := sl } := by
  by_cases hb : b ∈ fs
  · exact u.slot b ob q n hb hx
  · exact ⟨ob.slots, u.keep b ob q n hb hx⟩
theorem Un.trans (a : Un fs ex H H1 h h1) (b : Un fs ex H1 H2 h1 h2) : Un fs ex H H2 h h2 where
  keep := fun c ob q n hc hx => b.keep c ob (a.keep c ob q n hc hx) (a.free c ob q n hx) hc hx
  slot := fun c ob q n hc hx => by
    obtain ⟨sl, e1⟩ := a.slot c ob q n hc hx
    obtain ⟨sl', e2⟩ := b.slot c _ e1 (a.free c ob q n hx) hc hx
    exact ⟨sl', e2⟩
  free := fun c ob q n hx => by
    obtain ⟨o', e1⟩ := a.there c ob q hx
    exact b.free c o' e1 (a.free c ob q n hx) hx
  there := fun c ob q hx => by
    obtain ⟨o', e1⟩ := a.there c ob q hx
    exact b.there c o' e1 hx
  tups := fun c xs q => b.tups c xs (a.tups c xs q)
  frzs := fun c ob xs q => b.frzs c ob xs (a.frzs c ob xs q)
  tbls := fun c ps q => by
    obtain ⟨m1, e1⟩ := a.tbls c ps q
    obtain ⟨m2, e2⟩ := b.tbls c _ e1
    exact ⟨m1 ++ m2, by rw [e2, Array.append_assoc]⟩
theorem Un.kept (k : ∀ b u, h.get? b = some u → h'.get? b = some u) : Un fs ex H H h h' :=
  ⟨fun b ob q _ _ _ => k b ob q, fun b ob q _ _ _ => ⟨ob.slots, k b ob q⟩, fun _ _ _ n _ => n, fun b ob q _ => ⟨ob, k b ob q⟩, fun _ _ q => q, fun _ _ _ q => q, fun _ ps q => ⟨#[], by rw [q]; simp⟩⟩
theorem Un.refl : Un fs ex H H h h := Un.kept fun _ _ q => q
theorem Un.laid (k : ∀ b u, h.get? b = some u → h'.get? b = some u) (hp : h.objs.size ≤ a) (hn : H a = none) : Un fs ex H (upd H a o) h h' where
  keep := fun b u q _ _ _ => k b u q
  slot := fun b u q _ _ _ => ⟨u.slots, k b u q⟩
  free := fun b u q n _ => by rw [upd_ne (Nat.ne_of_lt (Nat.lt_of_lt_of_le (Heap.lt_size q) hp))]; exact n
  there := fun b u q _ => ⟨u, k b u q⟩
  tups := fun b xs q => by rw [upd_ne (ne_of_none q hn)]; exact q
  frzs := fun b u xs q => by rw [upd_ne (ne_of_none q hn)]; exact q
  tbls := fun b ps q => ⟨#[], by rw [upd_ne (ne_of_none q hn), q]; simp⟩
theorem Un.write (mu : Mut (H x)) (he : e = x ∨ H e = some (.own x)) (k : ∀ b u, b ≠ e → h.get? b = some u → h'.get? b = some u) (heo : ∃ u, h'.get? e = some u) : Un fs ex H (upd H x o) h h' := by
  have hx : ∀ b, H b = none → b ≠ x := fun b n z => by subst z; rw [n] at mu; exact mu
  have hb : ∀ b, H b = none → b ≠ e := fun b n z => by
    subst z
    rcases he with r | r
    · exact hx b n r
    · rw [n] at r; cases r
  have hm : ∀ b u, H b = some u → ¬ Mut (some u) → b ≠ x := fun b u q nm z => by subst z; rw [q] at mu; exact nm mu
  refine ⟨fun b u q n _ _ => k b u (hb b n) q, fun b u q n _ _ => ⟨u.slots, k b u (hb b n) q⟩, fun b u q n _ => by rw [upd_ne (hx b n)]; exact n, fun b u q _ => ?_,
    fun b xs q => by rw [upd_ne (hm b _ q fun z => z)]; exact q, fun b u xs q => by rw [upd_ne (hm b _ q fun z => z)]; exact q, fun b ps q => ⟨#[], by rw [upd_ne (hm b _ q fun z => z), q]; simp⟩⟩
  by_cases hbe : b = e
  · subst hbe; exact heo
  · exact ⟨u, k b u hbe q⟩
end
def trk (h : Heap) (H : Hp) : List Addr := (List.range h.objs.size).filter fun a => (H a).isSome
def hidT (h : Heap) (H : Hp) : Heap := PySem.W.hideAll h (trk h H)
theorem hidT_size (h : Heap) (H : Hp) : (hidT h H).objs.size = h.objs.size := PySem.W.hideAll_size _ _
theorem hidT_get {h : Heap} {H : Hp} {b : Addr} {o : Obj} (e : h.get? b = some o) (n : H b = none) : (hidT h H).get? b = some o :=
  PySem.W.hideAll_get _ e fun hm => by
    have q : (H b).isSome = true := (List.mem_filter.mp hm).2
    rw [n] at q; simp at q
theorem of_hidT {h : Heap} {H : Hp} {b : Addr} {o : Obj} (e : (hidT h H).get? b = some o) : h.get? b = some o ∧ H b = none := by
  have e' : h.get? b = some o := PySem.W.of_hideAll (trk h H) e
  refine ⟨e', ?_⟩
  cases q : H b with
  | none => rfl
  | some x =>
    have hm : b ∈ trk h H := List.mem_filter.mpr ⟨List.mem_range.mpr (Heap.lt_size e'), by simp [q]⟩
    have z : (hidT h H).get? b = none := PySem.W.hideAll_none (trk h H) hm
    rw [z] at e; cases e
end L2
namespace L2
open PySem PySem.Spec PyProof.Rows
structure Mod (K : PySem.W.Frag) (mg : Str → Option Value) (base : Heap) : Prop where
  kin : K.In base
  glob : base.Ns mainGlobals mg
  blt : ∃ mb, base.Ns builtinsNs mb ∧ ∀ x : Str, x ≠ "__name__" → mb x = bootBuiltins x
  nolimit : base.NoLimit
structure Cx where
  prog : Program
  w : World
  K : PySem.W.Frag
  mg : Str → Option Value
  base : Heap
  A : Around
  N : List Str
  s₀ : Shared
  H₀ : Hp
  env : Env
  outer : List Env
  stack : List Env
  ex : List Addr
  fn : Str → Bool
  calm : Bool
  pn : List (Addr × Obj)
  xe : Value → Shared → Prop
def frs (l : List Env) : List Addr := l.filterMap (·.frame)
abbrev Cx.fs (X : Cx) : List Addr := frs X.outer
def Vis (sc : Scope) (x : Str) : Prop := sc.names.lookup x = some .local ∨ sc.names.lookup x = some .cell ∨ sc.names.lookup x = some .free
def Loc (sc : Scope) (x : Str) : Prop := sc.names.lookup x = some .local ∨ sc.names.lookup x = some .cell
def Look (env : Env) (h : Heap) (m : Str → Option Value) (x : Str) (u : Value) : Prop :=
  (env.kindOf x = some .local ∧ m x = some u) ∨ ((env.kindOf x = some .cell ∨ env.kindOf x = some .free) ∧ ∃ c, env.cells.lookup x = some c ∧ h.IsCell c (some u))
structure Cx.Ok (X : Cx) : Prop where
  mod : Mod X.K X.mg X.base
  kind : X.env.scope.kind = .function
  glob : X.env.globals = mainGlobals
  blt : X.env.builtins = builtinsNs
  above : X.s₀.heap.objs.size ≤ X.env.locals
  inj : ∀ x y c, X.env.cells.lookup x = some c → X.env.cells.lookup y = some c → x = y
  has : ∀ x, (X.env.kindOf x = some .cell ∨ X.env.kindOf x = some .free) → ∃ c, X.env.cells.lookup x = some c
  cab : ∀ x c, X.fn x = true → X.env.cells.lookup x = some c → X.s₀.heap.objs.size ≤ c
  hd : X.calm = true → X.A.handled = none
  frames : X.A.frames = some X.stack
  stk : X.stack = X.outer ∨ (X.stack = X.env :: X.outer ∧ X.env.frame = some X.env.locals)
  exf : ∀ b ∈ X.ex, b ≠ X.env.locals ∧ ∀ x c, X.env.cells.lookup x = some c → c ≠ b
  bs : ∀ b o, X.base.get? b = some o → X.s₀.heap.get? b = some o ∧ X.H₀ b = none
  bsz : X.base.objs.size ≤ X.s₀.heap.objs.size
  noex : ∀ b o, X.base.get? b = some o → b ∉ X.ex
  exfs : ∀ b ∈ X.ex, b ∉ X.fs
  funs : X.s₀.heap.FunFrames X.base X.outer
  frf : ∀ b ∈ X.fs, X.H₀ b = none
structure Inv (X : Cx) (pins : List (Addr × Obj)) (σ : List (Option V)) (H : Hp) (s : Shared) : Prop where
  ok : X.Ok
  os : s.os = X.s₀.os
  bare : AllBare s.gens
  base : Un X.fs X.ex X.H₀ H X.s₀.heap s.heap
  loc : ∃ m, s.heap.Ns X.env.locals m ∧ ∀ (i : Nat) (x : Str) (v : V), X.N[i]? = some x → σ[i]? = some (some v) → Vis X.env.scope x → ∃ u, RelV v u ∧ Look X.env s.heap m x u
  cell : ∀ x c, X.env.cells.lookup x = some c → ∃ v, s.heap.IsCell c v
  free : H X.env.locals = none
  freeC : ∀ x c, X.env.cells.lookup x = some c → H c = none
  pin : ∀ p ∈ X.pn ++ pins, s.heap.get? p.1 = some p.2 ∧ H p.1 = none ∧ p.1 ≠ X.env.locals ∧ p.1 ∉ X.fs ∧ ∀ v, p.2.data ≠ .cell v
  hok : HOk X.prog X.w H s.heap
  len : σ.length = X.N.length
section
variable {X : Cx} {pins : List (Addr × Obj)} {σ : List (Option V)} {H H' : Hp} {s : Shared} {h' : Heap}
theorem Cx.Ok.nofr (ok : X.Ok) {b : Addr} {o : Obj} (e : X.base.get? b = some o) : b ∉ X.fs := fun hb => by
  have := (ok.funs.mem hb).1
  rw [e] at this; cases this
theorem Inv.bs (I : Inv X pins σ H s) : ∀ b o, X.base.get? b = some o → s.heap.get? b = some o ∧ H b = none := fun b o e =>
  ⟨I.base.keep b o (I.ok.bs b o e).1 (I.ok.bs b o e).2 (I.ok.nofr e) (I.ok.noex b o e), I.base.free b o (I.ok.bs b o e).1 (I.ok.bs b o e).2 (I.ok.noex b o e)⟩
theorem Inv.bk (I : Inv X pins σ H s) : ∀ b o, X.base.get? b = some o → s.heap.get? b = some o := fun b o e => (I.bs b o e).1
theorem Inv.mod (I : Inv X pins σ H s) : Mod X.K X.mg X.base := I.ok.mod
theorem Inv.kIn (I : Inv X pins σ H s) : X.K.In s.heap := I.ok.mod.kin.keeps I.bk
theorem Inv.lt (I : Inv X pins σ H s) : X.env.locals < s.heap.objs.size := let ⟨_, hn, _⟩ := I.loc; hn.lt
theorem Inv.sz (I : Inv X pins σ H s) : X.s₀.heap.objs.size ≤ s.heap.objs.size := Nat.le_trans I.ok.above (Nat.le_of_lt I.lt)
theorem Inv.nofs (I : Inv X pins σ H s) {a : Addr} (h : s.heap.objs.size ≤ a) : a ∉ X.fs := fun hb => by
  obtain ⟨_, o, ho, _⟩ := I.ok.funs.mem hb
  exact absurd (Nat.lt_of_lt_of_le (Heap.lt_size ho) (Nat.le_trans I.sz h)) (Nat.lt_irrefl _)
theorem Inv.cne (I : Inv X pins σ H s) : ∀ x c, X.env.cells.lookup x = some c → c ≠ X.env.locals := fun x c e z => by
  obtain ⟨v, o, ho, hd⟩ := I.cell x c e
  obtain ⟨m, ⟨o', es, ep, ho', hd', _⟩, _⟩ := I.loc
  rw [z, ho'] at ho; cases ho; rw [hd'] at hd; cases hd
theorem Inv.funs (I : Inv X pins σ H s) : s.heap.FunFrames X.base X.outer := by
  have all : ∀ (l : List Env), (∀ b ∈ frs l, b ∈ X.fs) → X.s₀.heap.FunFrames X.base l → s.heap.FunFrames X.base l := by
    intro l
    induction l with
    | nil => intro _ _; trivial
    | cons env r ih =>
      intro hs hl
      obtain ⟨hk, ⟨L, o, hf, hn, ho, hd⟩, hr⟩ := hl
      have hL : L ∈ X.fs := hs L (by unfold frs; rw [List.filterMap_cons, hf]; exact List.mem_cons_self)
      obtain ⟨sl, e⟩ := I.base.slot L o ho (I.ok.frf L hL) hL fun z => I.ok.exfs L z hL
      exact ⟨hk, ⟨L, _, hf, hn, e, hd⟩, ih (fun b hb => hs b (by unfold frs; rw [List.filterMap_cons, hf]; exact List.mem_cons_of_mem _ hb)) hr⟩
  exact all X.outer (fun _ hb => hb) I.ok.funs
theorem Inv.stack (I : Inv X pins σ H s) : s.heap.FunFrames X.base X.stack := by
  rcases I.ok.stk with e | ⟨e, hf⟩
  · rw [e]; exact I.funs
  · rw [e]
    obtain ⟨m, hn, _⟩ := I.loc
    refine .cons (by rw [I.ok.kind]; decide) hf hn ?_ I.funs
    exact Heap.get?_none_of_le (Nat.le_trans I.ok.bsz I.ok.above)
theorem Inv.stkSub (I : Inv X pins σ H s) : ∀ b ∈ frs X.stack, b ∈ X.env.locals :: X.fs := fun b hb => by
  rcases I.ok.stk with e | ⟨e, hf⟩
  · rw [e] at hb; exact List.mem_cons_of_mem _ hb
  · rw [e] at hb
    unfold frs at hb
    rw [List.filterMap_cons, hf] at hb
    exact hb
theorem Inv.stkFree (I : Inv X pins σ H s) : ∀ b ∈ frs X.stack, H b = none := fun b hb => by
  rcases List.mem_cons.mp (I.stkSub b hb) with e | hb
  · rw [e]; exact I.free
  · obtain ⟨_, o, ho, _⟩ := I.ok.funs.mem hb
    exact I.base.free b o ho (I.ok.frf b hb) fun z => I.ok.exfs b z hb
theorem Inv.step {g' : Array GenState} {t' : Nat} {d' : Drawn} {ch : List Addr} (I : Inv X pins σ H s)
    (hch : ∀ b ∈ ch, (b ∈ X.ex ∨ X.s₀.heap.objs.size ≤ b) ∧ b ≠ X.env.locals ∧ (∀ x c, X.env.cells.lookup x = some c → c ≠ b) ∧ ∀ p ∈ X.pn ++ pins, p.1 ≠ b)
    (keep : ∀ b o, b ≠ X.env.locals → b ∉ X.fs → b ∉ ch → s.heap.get? b = some o → H b = none → h'.get? b = some o)
    (slot : ∀ b o, b ≠ X.env.locals → b ∈ X.fs → b ∉ ch → s.heap.get? b = some o → H b = none → ∃ sl, h'.get? b = some { o with slots := sl }) (free : ∀ b o, b ∉ ch → s.heap.get? b = some o → H b = none → H' b = none)
    (there : ∀ b o, b ∉ ch → s.heap.get? b = some o → ∃ o', h'.get? b = some o')
    (tups : ∀ b xs, H b = some (.tup xs) → H' b = some (.tup xs)) (frzs : ∀ b o u, H b = some (.frz o u) → H' b = some (.frz o u)) (tbls : ∀ b ps, H b = some (.tbl ps) → ∃ more, H' b = some (.tbl (ps ++ more)))
    (ns : ∀ m, s.heap.Ns X.env.locals m → h'.Ns X.env.locals m) (hok : HOk X.prog X.w H' h') (hg : AllBare g') :
    Inv X pins σ H' { s with heap := h', gens := g', drawn := d', toks := t' } := by
  have neL : ∀ b o, X.s₀.heap.get? b = some o → b ≠ X.env.locals := fun b o e => Nat.ne_of_lt (Nat.lt_of_lt_of_le (Heap.lt_size e) I.ok.above)
  have neC : ∀ b o, X.s₀.heap.get? b = some o → b ∉ X.ex → b ∉ ch := fun b o e hx hb => by
    rcases (hch b hb).1 with z | z
    · exact hx z
    · exact absurd (Nat.lt_of_lt_of_le (Heap.lt_size e) z) (Nat.lt_irrefl _)
  have cellK : ∀ x c, X.env.cells.lookup x = some c → ∀ v, s.heap.IsCell c v → h'.IsCell c v := fun x c e v ⟨o, ho, hd⟩ => by
    have nch : c ∉ ch := fun z => (hch c z).2.2.1 x c e rfl
    by_cases hc : c ∈ X.fs
    · obtain ⟨sl, q⟩ := slot c o (I.cne x c e) hc nch ho (I.freeC x c e)
      exact ⟨_, q, hd⟩
    · exact ⟨o, keep c o (I.cne x c e) hc nch ho (I.freeC x c e), hd⟩
  refine ⟨I.ok, I.os, hg, ⟨fun b o e n hb hx => ?_, fun b o e n hb hx => ?_, fun b o e n hx => ?_, fun b o e hx => ?_, fun b xs e => tups b xs (I.base.tups b xs e), fun b o xs e => frzs b o xs (I.base.frzs b o xs e), fun b ps e => ?_⟩, ?_, fun x c e => ?_, ?_, fun x c e => ?_, fun p hp => ?_, hok, I.len⟩
  · exact keep b o (neL b o e) hb (neC b o e hx) (I.base.keep b o e n hb hx) (I.base.free b o e n hx)
  · obtain ⟨sl, e1⟩ := I.base.slot b o e n hb hx
    obtain ⟨sl', e2⟩ := slot b _ (neL b o e) hb (neC b o e hx) e1 (I.base.free b o e n hx)
    exact ⟨sl', e2⟩
  · obtain ⟨o', e1⟩ := I.base.there b o e hx
    exact free b o' (neC b o e hx) e1 (I.base.free b o e n hx)
  · obtain ⟨o', e1⟩ := I.base.there b o e hx
    exact there b o' (neC b o e hx) e1
  · obtain ⟨m1, e1⟩ := I.base.tbls b ps e
    obtain ⟨m2, e2⟩ := tbls b _ e1
    exact ⟨m1 ++ m2, by rw [e2, Array.append_assoc]⟩
  · obtain ⟨m, hn, hl⟩ := I.loc
    refine ⟨m, ns m hn, fun i x v e1 e2 e3 => ?_⟩
    obtain ⟨u, r, l⟩ := hl i x v e1 e2 e3
    refine ⟨u, r, ?_⟩
    rcases l with l | ⟨k, c, e, z⟩
    · exact .inl l
    · exact .inr ⟨k, c, e, cellK x c e _ z⟩
  · obtain ⟨v, z⟩ := I.cell x c e
    exact ⟨v, cellK x c e v z⟩
  · obtain ⟨m, ⟨o, _, _, ho, _⟩, _⟩ := I.loc
    exact free _ o (fun z => (hch _ z).2.1 rfl) ho I.free
  · obtain ⟨v, o, ho, hd⟩ := I.cell x c e
    exact free c o (fun z => (hch c z).2.2.1 x c e rfl) ho (I.freeC x c e)
  · obtain ⟨e, n, ne, nf, d⟩ := I.pin p hp
    have nch : p.1 ∉ ch := fun z => (hch p.1 z).2.2.2 p hp rfl
    exact ⟨keep p.1 p.2 ne nf nch e n, free p.1 p.2 nch e n, ne, nf, d⟩
theorem Inv.un {t' : Nat} (I : Inv X pins σ H s) (u : Un X.fs [] H H' s.heap h') (hok : HOk X.prog X.w H' h') : Inv X pins σ H' { s with heap := h', toks := t' } := by
  obtain ⟨m, ⟨o, es, ep, ho, r⟩, _⟩ := id I.loc
  obtain ⟨sl, hL⟩ := u.any ho I.free (by simp)
  exact I.step (g' := s.gens) (d' := s.drawn) (ch := []) (fun _ z => nomatch z) (fun b o _ hb _ e n => u.keep b o e n hb (by simp)) (fun b o _ hb _ e n => u.slot b o e n hb (by simp)) (fun b o _ e n => u.free b o e n (by simp)) (fun b o _ e => u.there b o e (by simp)) u.tups u.frzs u.tbls (fun m' hm => by
    obtain ⟨o', es', ep', ho', r'⟩ := hm
    rw [ho] at ho'; cases ho'
    exact ⟨_, es', ep', hL, r'⟩) hok I.bare
theorem Inv.call {g' : Array GenState} {t' : Nat} {d' : Drawn} {ch : List Addr} (I : Inv X pins σ H s) (u : Un (frs X.stack) ch H H' s.heap h') (hok : HOk X.prog X.w H' h') (hg : AllBare g')
    (hch : ∀ b ∈ ch, (b ∈ X.ex ∨ X.s₀.heap.objs.size ≤ b) ∧ b ≠ X.env.locals ∧ (∀ x c, X.env.cells.lookup x = some c → c ≠ b) ∧ ∀ p ∈ X.pn ++ pins, p.1 ≠ b) :
    Inv X pins σ H' { s with heap := h', gens := g', drawn := d', toks := t' } := by
  obtain ⟨m, ⟨o, es, ep, ho, r⟩, _⟩ := id I.loc
  obtain ⟨sl, hL⟩ := u.any ho I.free fun z => (hch _ z).2.1 rfl
  exact I.step (ch := ch) hch (fun b o hL hb hc e n => u.keep b o e n (fun z => (List.mem_cons.mp (I.stkSub b z)).elim hL hb) hc) (fun b o _ _ hc e n => u.any e n hc) (fun b o hc e n => u.free b o e n hc) (fun b o hc e => u.there b o e hc) u.tups u.frzs u.tbls (fun m' hm => by
    obtain ⟨o', es', ep', ho', r'⟩ := hm
    rw [ho] at ho'; cases ho'
    exact ⟨_, es', ep', hL, r'⟩) hok hg
theorem Inv.turned {t' : Nat} {it : Addr} (I : Inv X pins σ H s) (k : ∀ b o, b ≠ it → s.heap.get? b = some o → h'.get? b = some o) (hn : H it = none) (hL : it ≠ X.env.locals)
    (h1 : it ∈ X.ex ∨ X.s₀.heap.objs.size ≤ it) (h2 : ∀ x c, X.env.cells.lookup x = some c → c ≠ it) (h3 : ∀ p ∈ X.pn ++ pins, p.1 ≠ it) : Inv X pins σ H { s with heap := h', toks := t' } := by
  have nit : ∀ b u, H b = some u → b ≠ it := fun b u e z => by rw [z, hn] at e; cases e
  refine I.step (g' := s.gens) (d' := s.drawn) (ch := [it]) (fun b hb => ?_) (fun b o _ _ hc e _ => k b o (fun z => hc (by simp [z])) e) (fun b o _ _ hc e _ => ⟨o.slots, k b o (fun z => hc (by simp [z])) e⟩) (fun _ _ _ _ n => n)
    (fun b o hc e => ⟨o, k b o (fun z => hc (by simp [z])) e⟩) (fun _ _ e => e) (fun _ _ _ e => e) (fun b ps e => ⟨#[], by rw [e]; simp⟩) (fun m hm => ?_) (fun b u e => ?_) I.bare
  · have e : b = it := by simpa using hb
    subst e
    exact ⟨h1, hL, h2, h3⟩
  · obtain ⟨o, es, ep, ho, r⟩ := hm
    exact ⟨o, es, ep, k _ o (Ne.symm hL) ho, r⟩
  · refine (I.hok b u e).stay (fun c v hc q => k c v ?_ q) (fun _ q => q) fun _ _ q => q
    rcases hc with z | z
    · rw [z]; exact nit b u e
    · exact nit c _ z
theorem Inv.tok (I : Inv X pins σ H s) (t : Nat) : Inv X pins σ H { s with toks := t } := I.un (h' := s.heap) (t' := t) Un.refl I.hok
theorem Inv.kept {t' : Nat} (I : Inv X pins σ H s) (k : ∀ b u, s.heap.get? b = some u → h'.get? b = some u) : Inv X pins σ H { s with heap := h', toks := t' } := I.un (Un.kept k) (I.hok.kept k)
theorem Inv.laid {a : Addr} {o : HO} {t' : Nat} (I : Inv X pins σ H s) (k : ∀ b u, s.heap.get? b = some u → h'.get? b = some u) (hp : s.heap.objs.size ≤ a) (new : ObjOk X.prog X.w (upd H a o) h' a o) :
    Inv X pins σ (upd H a o) { s with heap := h', toks := t' } := I.un (Un.laid k hp (I.hok.fresh hp)) (I.hok.laid k hp new)
theorem Inv.write {x e : Addr} {o : HO} {t' : Nat} (I : Inv X pins σ H s) (mu : Mut (H x)) (he : e = x ∨ H e = some (.own x)) (k : ∀ b u, b ≠ e → s.heap.get? b = some u → h'.get? b = some u) (heo : ∃ u, h'.get? e = some u)
    (new : ObjOk X.prog X.w (upd H x o) h' x o) : Inv X pins σ (upd H x o) { s with heap := h', toks := t' } := I.un (Un.write mu he k heo) (I.hok.write mu he k heo new)
theorem Inv.pins_of {pins' : List (Addr × Obj)} (I : Inv X pins σ H s) (h : ∀ p ∈ pins', s.heap.get? p.1 = some p.2 ∧ H p.1 = none ∧ p.1 ≠ X.env.locals ∧ p.1 ∉ X.fs ∧ ∀ v, p.2.data ≠ .cell v) : Inv X pins' σ H s :=
  ⟨I.ok, I.os, I.bare, I.base, I.loc, I.cell, I.free, I.freeC, fun p hp => (List.mem_append.mp hp).elim (fun z => I.pin p (List.mem_append_left _ z)) (h p), I.hok, I.len⟩
theorem nodup_ix {N : List Str} (hN : N.Nodup) {i j : Nat} {x : Str} (a : N[i]? = some x) (b : N[j]? = some x) : i = j := by
  obtain ⟨h1, e1⟩ := List.getElem?_eq_some_iff.mp a
  obtain ⟨h2, e2⟩ := List.getElem?_eq_some_iff.mp b
  exact (List.getElem_inj hN).mp (e1.trans e2.symm)
theorem store_ok2 {M : Model} {A : Around} {E : Value → Shared → Prop} {i : Nat} {x : Str} {v : V} {u : Value} {Q : Unit → Shared → Prop} (I : Inv X pins σ H s) (hN : X.N.Nodup) (hi : X.N[i]? = some x) (hx : Loc X.env.scope x) (r : RelV v u)
    (h : ∀ s', Inv X pins (σ.set i (some v)) H s' → (∃ a, Heap.SameBut a s.heap s'.heap ∧ (a = X.env.locals ∨ X.env.cells.lookup x = some a)) → Q () s') (hf : X.fn x = true ∨ X.env.scope.names.lookup x = some .local := by first | exact .inl rfl | exact .inr rfl | assumption) : wpAny M A (storeName X.env x u) Q E s := by
  obtain ⟨m, hn, hl⟩ := id I.loc
  have hcls : (X.env.scope.kind == .class || (X.env.scope.kind == .module && X.env.locals != X.env.globals)) = false := by rw [I.ok.kind]; rfl
  have hiσ : i < σ.length := by rw [I.len]; exact (List.getElem?_eq_some_iff.mp hi).1
  have cne := I.cne
  have tracked : ∀ {a : Addr} {h' : Heap}, (∃ o, s.heap.get? a = some o ∧ H a = none) → Heap.SameBut a s.heap h' → HOk X.prog X.w H h' := fun {a h'} ha hs b ob e => by
    obtain ⟨_, _, hfree⟩ := ha
    refine (I.hok b ob e).stay (fun c w' hc q => (hs.2 c ?_).trans q) (fun _ q => q) fun _ _ q => q
    rintro rfl
    rcases hc with rfl | hc
    · rw [hfree] at e; cases e
    · rw [hfree] at hc; cases hc
  rcases hx with hk | hk
  · refine wpAny_storeName_local hk hn (fun h' hn' hs => ?_) hcls
    obtain ⟨oL, _, _, hoL, _⟩ := id hn
    refine h _ ⟨I.ok, I.os, I.bare, ⟨fun b o e n hb hx => ?_, fun b o e n hb hx => ?_, I.base.free, fun b o e hx => ?_, I.base.tups, I.base.frzs, I.base.tbls⟩, ⟨_, hn', fun j y v' e1 e2 e3 => ?_⟩, fun y c e => ?_, I.free, I.freeC, fun p hp => ?_, tracked ⟨oL, hoL, I.free⟩ hs, by simpa using I.len⟩ ⟨_, hs, .inl rfl⟩
    · exact (hs.2 b (Nat.ne_of_lt (Nat.lt_of_lt_of_le (Heap.lt_size e) I.ok.above))).trans (I.base.keep b o e n hb hx)
    · obtain ⟨sl, e1⟩ := I.base.slot b o e n hb hx
      exact ⟨sl, (hs.2 b (Nat.ne_of_lt (Nat.lt_of_lt_of_le (Heap.lt_size e) I.ok.above))).trans e1⟩
    · obtain ⟨o', e1⟩ := I.base.there b o e hx
      exact ⟨o', (hs.2 b (Nat.ne_of_lt (Nat.lt_of_lt_of_le (Heap.lt_size e) I.ok.above))).trans e1⟩
    · by_cases hj : j = i
      · subst hj
        rw [hi] at e1; cases e1
        rw [List.getElem?_set_self hiσ] at e2
        cases e2
        exact ⟨u, r, .inl ⟨hk, by simp⟩⟩
      · rw [List.getElem?_set_ne (Ne.symm hj)] at e2
        obtain ⟨u', r', q⟩ := hl j y v' e1 e2 e3
        refine ⟨u', r', ?_⟩
        rcases q with ⟨k, e⟩ | ⟨k, c, e, z⟩
        · refine .inl ⟨k, ?_⟩
          have : y ≠ x := fun e => hj (nodup_ix hN e1 (e ▸ hi))
          simp [this, e]
        · exact .inr ⟨k, c, e, z.sameBut hs (cne y c e)⟩
    · obtain ⟨w', z⟩ := I.cell y c e
      exact ⟨w', z.sameBut hs (cne y c e)⟩
    · obtain ⟨e, n, ne, nf, d⟩ := I.pin p hp
      exact ⟨(hs.2 p.1 ne).trans e, n, ne, nf, d⟩
  · have hfn : X.fn x = true := by
      rcases hf with z | z
      · exact z
      · rw [z] at hk; cases hk
    obtain ⟨c, hc⟩ := I.ok.has x (.inl hk)
    obtain ⟨w', z⟩ := I.cell x c hc
    refine wpAny_storeName_cell I.ok.kind hk hc z (fun h' hc' hs => ?_)
    obtain ⟨oc, hoc, hocd⟩ := id z
    refine h { s with heap := h' } ⟨I.ok, I.os, I.bare, ⟨fun b o e n hb hx => ?_, fun b o e n hb hx => ?_, I.base.free, fun b o e hx => ?_, I.base.tups, I.base.frzs, I.base.tbls⟩, ⟨m, hn.sameBut hs (Ne.symm (cne x c hc)), fun j y v' e1 e2 e3 => ?_⟩, fun y c' e => ?_, I.free, I.freeC, fun p hp => ?_, tracked ⟨oc, hoc, I.freeC x c hc⟩ hs, by simpa using I.len⟩ ⟨c, hs, .inr hc⟩
    · exact (hs.2 b (Nat.ne_of_lt (Nat.lt_of_lt_of_le (Heap.lt_size e) (I.ok.cab x c hfn hc)))).trans (I.base.keep b o e n hb hx)
    · obtain ⟨sl, e1⟩ := I.base.slot b o e n hb hx
      exact ⟨sl, (hs.2 b (Nat.ne_of_lt (Nat.lt_of_lt_of_le (Heap.lt_size e) (I.ok.cab x c hfn hc)))).trans e1⟩
    · obtain ⟨o', e1⟩ := I.base.there b o e hx
      exact ⟨o', (hs.2 b (Nat.ne_of_lt (Nat.lt_of_lt_of_le (Heap.lt_size e) (I.ok.cab x c hfn hc)))).trans e1⟩
    · by_cases hj : j = i
      · subst hj
        rw [hi] at e1; cases e1
        rw [List.getElem?_set_self hiσ] at e2
        cases e2
        exact ⟨u, r, .inr ⟨.inl hk, c, hc, hc'⟩⟩
      · rw [List.getElem?_set_ne (Ne.symm hj)] at e2
        obtain ⟨u', r', q⟩ := hl j y v' e1 e2 e3
        refine ⟨u', r', ?_⟩
        rcases q with q | ⟨k, c', e, z'⟩
        · exact .inl q
        · refine .inr ⟨k, c', e, z'.sameBut hs ?_⟩
          rintro rfl
          exact hj (nodup_ix hN e1 (I.ok.inj _ _ _ e hc ▸ hi))
    · by_cases hcc : c' = c
      · subst hcc; exact ⟨_, hc'⟩
      · obtain ⟨w2, z2⟩ := I.cell y c' e
        exact ⟨w2, z2.sameBut hs hcc⟩
    · obtain ⟨e, n, ne, nf, d⟩ := I.pin p hp
      refine ⟨(hs.2 p.1 ?_).trans e, n, ne, nf, d⟩
      intro q
      rw [q, hoc] at e
      have q' : oc = p.2 := Option.some.inj e
      exact d w' (by rw [← q']; exact hocd)
theorem store_ok {M : Model} {A : Around} {E : Value → Shared → Prop} {i : Nat} {x : Str} {v : V} {u : Value} {Q : Unit → Shared → Prop} (I : Inv X pins σ H s) (hN : X.N.Nodup) (hi : X.N[i]? = some x) (hx : Loc X.env.scope x) (r : RelV v u)
    (h : ∀ s', Inv X pins (σ.set i (some v)) H s' → Q () s') (hf : X.fn x = true ∨ X.env.scope.names.lookup x = some .local := by first | exact .inl rfl | exact .inr rfl | assumption) : wpAny M A (storeName X.env x u) Q E s :=
  store_ok2 I hN hi hx r (fun s' I' _ => h s' I') hf
theorem Inv.call' {s' : Shared} {ch : List Addr} (I : Inv X pins σ H s) (ho : s'.os = s.os) (u : Un (frs X.stack) ch H H' s.heap s'.heap) (hok : HOk X.prog X.w H' s'.heap) (hg : AllBare s'.gens)
    (hch : ∀ b ∈ ch, (b ∈ X.ex ∨ X.s₀.heap.objs.size ≤ b) ∧ b ≠ X.env.locals ∧ (∀ x c, X.env.cells.lookup x = some c → c ≠ b) ∧ ∀ p ∈ X.pn ++ pins, p.1 ≠ b) : Inv X pins σ H' s' := by
  obtain ⟨h', g', d', t', o'⟩ := s'
  have e : o' = s.os := ho
  subst e
  exact I.call (g' := g') (t' := t') (d' := d') u hok hg hch
end
abbrev XK := Value → Option Addr → Hp → Prop
abbrev St := List (Option V)
abbrev VK := V → Hp → Prop
abbrev TE := St → Hp → VK → Prop
abbrev TT := St → Hp → (Bool → Hp → Prop) → Prop
abbrev TA := St → Hp → (List V → Hp → Prop) → Prop
structure Ends where
  nx : St → Hp → Prop
  rt : VK
  bk : St → Hp → Prop := fun _ _ => False
  ct : St → Hp → Prop := fun _ _ => False
abbrev TS := Ends → St → Hp → Prop
def EP (X : Cx) (pins : List (Addr × Obj)) (σ : St) (Q : VK) (u : Value) (s' : Shared) : Prop := ∃ v H', Inv X pins σ H' s' ∧ RelV v u ∧ Q v H'
def TP (X : Cx) (pins : List (Addr × Obj)) (σ : St) (Q : Bool → Hp → Prop) (b : Bool) (s' : Shared) : Prop := ∃ H', Inv X pins σ H' s' ∧ Q b H'
def AP (X : Cx) (pins : List (Addr × Obj)) (σ : St) (Q : List V → Hp → Prop) (us : List Value) (s' : Shared) : Prop := ∃ vs H', Inv X pins σ H' s' ∧ Vals vs us ∧ Q vs H'
def SP (X : Cx) (pins : List (Addr × Obj)) (D : Ends) (f : Flow) (s' : Shared) : Prop :=
  match f with
  | .next => ∃ σ' H', Inv X pins σ' H' s' ∧ D.nx σ' H'
  | .brk => ∃ σ' H', Inv X pins σ' H' s' ∧ D.bk σ' H'
  | .cont => ∃ σ' H', Inv X pins σ' H' s' ∧ D.ct σ' H'
  | .ret u => ∃ v σ' H', Inv X pins σ' H' s' ∧ RelV v u ∧ D.rt v H'
def PE (X : Cx) (e : Expr) (t : TE) : Prop :=
  ∀ (pins : List (Addr × Obj)) (s : Shared) (σ : St) (H : Hp) (Q : VK), Inv X pins σ H s → t σ H Q → wpAny (model X.prog X.w) X.A (eval e X.env) (EP X pins σ Q) X.xe s
def PT (X : Cx) (e : Expr) (t : TT) : Prop :=
  ∀ (pins : List (Addr × Obj)) (s : Shared) (σ : St) (H : Hp) (Q : Bool → Hp → Prop), Inv X pins σ H s → t σ H Q → wpAny (model X.prog X.w) X.A (isTrue e X.env (eval e X.env)) (TP X pins σ Q) X.xe s
def PW (X : Cx) (e : Expr) (t : TT) : Prop :=
  ∀ (whole : Sem Value) (pins : List (Addr × Obj)) (s : Shared) (σ : St) (H : Hp) (Q : Bool → Hp → Prop), Inv X pins σ H s → t σ H Q → wpAny (model X.prog X.w) X.A (isTrue e X.env whole) (TP X pins σ Q) X.xe s
theorem PW.pt {X : Cx} {e : Expr} {t : TT} (h : PW X e t) : PT X e t := h _
def PA (X : Cx) (es : List Expr) (t : TA) : Prop :=
  ∀ (pos : Pos) (pins : List (Addr × Obj)) (s : Shared) (σ : St) (H : Hp) (Q : List V → Hp → Prop), Inv X pins σ H s → t σ H Q → wpAny (model X.prog X.w) X.A (spliced (backTo pos (starEach es X.env))) (AP X pins σ Q) X.xe s
def PS (X : Cx) (st : Stmt) (t : TS) : Prop :=
  ∀ (pins : List (Addr × Obj)) (s : Shared) (σ : St) (H : Hp) (D : Ends), Inv X pins σ H s → t D σ H → wpAny (model X.prog X.w) X.A (exec st X.env) (SP X pins D) X.xe s
def PSs (X : Cx) (st : List Stmt) (t : TS) : Prop :=
  ∀ (pins : List (Addr × Obj)) (s : Shared) (σ : St) (H : Hp) (D : Ends), Inv X pins σ H s → t D σ H → wpAny (model X.prog X.w) X.A (execs st X.env) (SP X pins D) X.xe s
theorem thn {α : Type} {t : Sem α} {Q Q' : α → Shared → Prop} {M : Model} {A : Around} {E : Value → Shared → Prop} {s : Shared} (h : wpAny M A t Q E s) (hQ : ∀ a s, Q a s → Q' a s) : wpAny M A t Q' E s := wpAny_mono h hQ fun _ _ x => x
end L2
namespace L2
open PySem PySem.Spec PyProof.Rows
section
variable {X : Cx}
theorem bin {a b : Expr} {ta tb : TE} (ha : PE X a ta) (hb : PE X b tb) {pins : List (Addr × Obj)} {s : Shared} {σ : St} {H : Hp} {R : V → V → Hp → Prop} (I : Inv X pins σ H s) (h : ta σ H fun x H1 => tb σ H1 fun y H2 => R x y H2)
    {α : Type} {Q : α → Shared → Prop} {f : Value → Value → Sem α}
    (hf : ∀ v u s2 x y H2, Inv X pins σ H2 s2 → RelV x v → RelV y u → R x y H2 → wpAny (model X.prog X.w) X.A (f v u) Q X.xe s2) :
    wpAny (model X.prog X.w) X.A (eval a X.env) (fun v s₁ => wpAny (model X.prog X.w) X.A (eval b X.env) (fun u s₂ => wpAny (model X.prog X.w) X.A (f v u) Q X.xe s₂) X.xe s₁) X.xe s := by
  refine thn (ha pins s σ H _ I h) fun v s1 ⟨x, H1, I1, r1, q1⟩ => ?_
  refine thn (hb pins s1 σ H1 _ I1 q1) fun u s2 ⟨y, H2, I2, r2, q2⟩ => ?_
  exact hf v u s2 x y H2 I2 r1 r2 q2
def tVar (i : Nat) : TE := fun σ H Q => ∃ v, σ[i]? = some (some v) ∧ Q v H
def tC (v : V) : TE := fun _ H Q => Q v H
theorem pe_var {i : Nat} {x : Str} {pos : Pos} (hN : X.N[i]? = some x) (hv : Vis X.env.scope x) (hd : (x == ("__debug__" : Str)) = false := by decide) (hcd : (x == ("__classdict__" : Str)) = false := by decide) : PE X (.Name x pos) (tVar i) := by
  intro pins s σ H Q I h
  obtain ⟨v, e, h⟩ := h
  obtain ⟨m, hn, hl⟩ := I.loc
  obtain ⟨u, r, l⟩ := hl i x v hN e hv
  have fin : EP X pins σ Q u s := ⟨v, H, I, r, h⟩
  rcases l with ⟨hk, hm⟩ | ⟨hk, c, hc, hcell⟩
  · exact wpAny_Name (wpAny_loadName_local I.ok.kind hk hn hm fin) hd
  · rcases hk with hk | hk
    · exact wpAny_Name (wpAny_loadName_cell I.ok.kind hk hc hcell fin) hd
    · exact wpAny_Name (wpAny_loadName_free I.ok.kind hk hc hcell fin hcd) hd
theorem pe_int {i j pos} : PE X (.Constant (.int i) j pos) (tC (.int i)) := fun _ _ _ H _ I h => wpAny_Constant_int ⟨.int i, H, I.tok _, ⟨_, rfl⟩, h⟩
theorem pe_bl {b j pos} : PE X (.Constant (.bool b) j pos) (tC (.bl b)) := fun _ _ _ H _ I h => Constant_bool ⟨.bl b, H, I, rfl, h⟩
theorem pe_non {j pos} : PE X (.Constant .none j pos) (tC .non) := fun _ _ _ H _ I h => Constant_none ⟨.non, H, I, rfl, h⟩
def Gl (X : Cx) (x : Str) : Prop := X.env.kindOf x = some .globalImplicit
theorem ld_glob {E : Value → Shared → Prop} {pins : List (Addr × Obj)} {s : Shared} {σ : St} {H : Hp} {x : Str} {u : Value} {pos : Pos} {Q : Value → Shared → Prop} (I : Inv X pins σ H s) (hg : Gl X x) (hm : X.mg x = some u) (h : Q u s)
    (hd : (x == ("__debug__" : Str)) = false := by decide) : wpAny (model X.prog X.w) X.A (eval (.Name x pos) X.env) Q E s :=
  Calls.Name_function_global I.ok.kind hg (Calls.loadGlobal_global (by rw [I.ok.glob]; exact I.mod.glob.keeps I.bk) hm h) hd
theorem ld_blt {E : Value → Shared → Prop} {pins : List (Addr × Obj)} {s : Shared} {σ : St} {H : Hp} {x : Str} {u : Value} {pos : Pos} {Q : Value → Shared → Prop} (I : Inv X pins σ H s) (hg : Gl X x) (hm : X.mg x = none) (hv : bootBuiltins x = some u) (h : Q u s)
    (hn : x ≠ "__name__" := by decide) (hd : (x == ("__debug__" : Str)) = false := by decide) : wpAny (model X.prog X.w) X.A (eval (.Name x pos) X.env) Q E s := by
  obtain ⟨mb, h1, h2⟩ := I.mod.blt
  exact Calls.Name_function_global I.ok.kind hg (Calls.loadGlobal_builtin (by rw [I.ok.glob]; exact I.mod.glob.keeps I.bk) hm (by rw [I.ok.blt]; exact h1.keeps I.bk) ((h2 x hn).trans hv) h) hd
theorem pe_glob {x : Str} {v : V} {u : Value} {pos : Pos} (hg : Gl X x) (hm : X.mg x = some u) (r : RelV v u) (hd : (x == ("__debug__" : Str)) = false := by decide) : PE X (.Name x pos) (tC v) :=
  fun _ _ _ H _ I h => ld_glob I hg hm ⟨v, H, I, r, h⟩ hd
theorem pe_bltn {x : Str} {v : V} {u : Value} {pos : Pos} (hg : Gl X x) (hm : X.mg x = none) (hv : bootBuiltins x = some u) (r : RelV v u) (hn : x ≠ "__name__" := by decide) (hd : (x == ("__debug__" : Str)) = false := by decide) : PE X (.Name x pos) (tC v) :=
  fun _ _ _ H _ I h => ld_blt I hg hm hv ⟨v, H, I, r, h⟩ hn hd
variable {a b : Expr} {ta tb : TE} {pos : Pos}
variable {tA tB' : TT} {rest : List Expr}
def tAnd (t u : TT) : TT := fun σ H Q => t σ H fun c H1 => if c = true then u σ H1 Q else Q false H1
def tOr (t u : TT) : TT := fun σ H Q => t σ H fun c H1 => if c = true then Q true H1 else u σ H1 Q
def tNot (t : TT) : TT := fun σ H Q => t σ H fun c H1 => Q (!c) H1
theorem pw_and1 (ha : PT X a tA) : PW X (.BoolOp .And [a] pos) tA := by
  intro wh pins s σ H Q I h
  refine isTrue_and (thn (ha pins s σ H Q I h) fun c s1 e => ?_)
  cases c with
  | true => exact isTrue_and_nil e
  | false => exact e
theorem pw_or1 (ha : PT X a tA) : PW X (.BoolOp .Or [a] pos) tA := by
  intro wh pins s σ H Q I h
  refine isTrue_or (thn (ha pins s σ H Q I h) fun c s1 e => ?_)
  cases c with
  | false => exact isTrue_or_nil e
  | true => exact e
theorem pw_and (ha : PT X a tA) (hb : PW X (.BoolOp .And (b :: rest) pos) tB') : PW X (.BoolOp .And (a :: b :: rest) pos) (tAnd tA tB') := by
  intro wh pins s σ H Q I h
  refine isTrue_and (thn (ha pins s σ H _ I h) fun c s1 ⟨H1, I1, q1⟩ => ?_)
  cases c with
  | true => exact hb wh pins s1 σ H1 Q I1 q1
  | false => exact ⟨H1, I1, q1⟩
theorem pw_or (ha : PT X a tA) (hb : PW X (.BoolOp .Or (b :: rest) pos) tB') : PW X (.BoolOp .Or (a :: b :: rest) pos) (tOr tA tB') := by
  intro wh pins s σ H Q I h
  refine isTrue_or (thn (ha pins s σ H _ I h) fun c s1 ⟨H1, I1, q1⟩ => ?_)
  cases c with
  | true => exact ⟨H1, I1, q1⟩
  | false => exact hb wh pins s1 σ H1 Q I1 q1
theorem pt_not (ha : PT X a tA) : PT X (.UnaryOp .Not a pos) (tNot tA) := by
  intro pins s σ H Q I h
  exact isTrue_not (ha pins s σ H (fun c H1 => Q (!c) H1) I h)
def tAndV (ta tb : TE) : TE := fun σ H Q => ta σ H fun x H1 => ∃ c, x = .bl c ∧ if c = true then tb σ H1 Q else Q (.bl false) H1
def tOrV (ta tb : TE) : TE := fun σ H Q => ta σ H fun x H1 => ∃ c, x = .bl c ∧ if c = true then Q (.bl true) H1 else tb σ H1 Q
theorem pe_one {op} {t : TE} (h : PE X a t) : PE X (.BoolOp op [a] pos) t := fun pins s σ H Q I hw => BoolOp_one (h pins s σ H Q I hw)
theorem pe_and (ha : PE X a ta) (hb : PE X (.BoolOp .And (b :: rest) pos) tb) : PE X (.BoolOp .And (a :: b :: rest) pos) (tAndV ta tb) := by
  intro pins s σ H Q I h
  refine BoolOp_and (thn (ha pins s σ H _ I h) fun v s1 ⟨x, H1, I1, r1, q1⟩ => ?_)
  obtain ⟨c, rfl, q1⟩ := q1
  cases r1
  refine wpAny_truthy_bool ?_
  cases c with
  | true => exact hb pins s1 σ H1 Q I1 q1
  | false => exact ⟨.bl false, H1, I1, rfl, q1⟩
theorem pe_or (ha : PE X a ta) (hb : PE X (.BoolOp .Or (b :: rest) pos) tb) : PE X (.BoolOp .Or (a :: b :: rest) pos) (tOrV ta tb) := by
  intro pins s σ H Q I h
  refine BoolOp_or (thn (ha pins s σ H _ I h) fun v s1 ⟨x, H1, I1, r1, q1⟩ => ?_)
  obtain ⟨c, rfl, q1⟩ := q1
  cases r1
  refine wpAny_truthy_bool ?_
  cases c with
  | false => exact hb pins s1 σ H1 Q I1 q1
  | true => exact ⟨.bl true, H1, I1, rfl, q1⟩
def tIf (t : TT) (ta tb : TE) : TE := fun σ H Q => t σ H fun c H1 => if c = true then ta σ H1 Q else tb σ H1 Q
theorem pe_ifExp {c : Expr} (hc : PT X c tA) (ha : PE X a ta) (hb : PE X b tb) : PE X (.IfExp c a b pos) (tIf tA ta tb) := by
  intro pins s σ H Q I h
  refine wpAny_IfExp (thn (hc pins s σ H _ I h) fun d s1 ⟨H1, I1, q1⟩ => ?_)
  cases d with
  | true => exact ha pins s1 σ H1 Q I1 q1
  | false => exact hb pins s1 σ H1 Q I1 q1
end
end L2
namespace L2
open PySem PySem.Spec PyProof.Rows
def SqL (K : PySem.W.Frag) (H : Hp) (a : Addr) (xs : List V) : Prop :=
  Rd H a (.lst xs) ∨
    ∃ (o : Obj) (its : Array Value) (n : Nat), K.lookup a = some o ∧ o.cls = .type "list" ∧ o.dict = none ∧ o.data = .seq its n ∧ its.size ≤ sizeLine ∧ Vals xs its.toList
def SqT (K : PySem.W.Frag) (H : Hp) (a : Addr) (xs : List V) : Prop :=
  Rd H a (.tup xs) ∨
    ∃ (o : Obj) (its : Array Value) (n : Nat), K.lookup a = some o ∧ o.cls = .type "tuple" ∧ o.data = .seq its n ∧ its.size ≤ sizeLine ∧ Vals xs its.toList
def absV : Value → Option V
  | .none => some .non
  | .bool b => some (.bl b)
  | .int i _ => some (.int i)
  | .str x _ => some (.str x)
  | .bytes b _ => some (.byt b)
  | .float b _ => some (.flt b)
  | .ref a => some (.ref a)
  | .type n => some (.ty n)
  | _ => none
theorem RelV.abs {x : V} {u : Value} (r : RelV x u) : absV u = some x := by
  cases x with
  | non => cases r; rfl
  | bl _ => cases r; rfl
  | int _ => obtain ⟨t, rfl⟩ := r; rfl
  | str _ => obtain ⟨t, rfl⟩ := r; rfl
  | byt _ => obtain ⟨t, rfl⟩ := r; rfl
  | flt _ => obtain ⟨t, rfl⟩ := r; rfl
  | ref _ => cases r; rfl
  | ty _ => cases r; rfl
theorem RelV.inj {x y : V} {u : Value} (r : RelV x u) (q : RelV y u) : x = y := Option.some.inj (r.abs.symm.trans q.abs)
theorem Vals.inj : ∀ {xs ys : List V} {us : List Value}, Vals xs us → Vals ys us → xs = ys
  | _, _, _, .nil, .nil => rfl
  | _, _, _, .cons r t, .cons r' t' => by rw [r.inj r', Vals.inj t t']
section
variable {X : Cx} {pins : List (Addr × Obj)} {σ : St} {H : Hp} {s : Shared} {a : Addr} {xs ys : List V}
theorem SqL.of {K : PySem.W.Frag} (h : H a = some (.lst xs)) : SqL K H a xs := .inl (.inl h)
theorem SqT.of {K : PySem.W.Frag} (h : H a = some (.tup xs)) : SqT K H a xs := .inl (.inl h)
theorem Inv.list (I : Inv X pins σ H s) (h : SqL X.K H a xs) : ∃ its : List Value, Vals xs its ∧ PlainL s.heap a its.toArray ∧ xs.length ≤ sizeLine := by
  rcases h with h | ⟨o, its, n, hk, hc, hd, hs, hz, r⟩
  · obtain ⟨z, its, n, r, e⟩ := h.ok I.hok
    exact ⟨its, r, ⟨_, n, e, rfl, rfl, rfl⟩, z⟩
  · refine ⟨its.toList, r, ⟨o, n, I.kIn a o hk, hc, hd, by simpa using hs⟩, ?_⟩
    have e := r.length
    simp only [Array.length_toList] at e
    omega
theorem Inv.tuple (I : Inv X pins σ H s) (h : SqT X.K H a xs) : ∃ its : List Value, Vals xs its ∧ IsTup s.heap a its.toArray ∧ xs.length ≤ sizeLine := by
  rcases h with h | ⟨o, its, n, hk, hc, hs, hz, r⟩
  · obtain ⟨z, its, r, p⟩ := h.ok I.hok
    exact ⟨its, r, p.tup, z⟩
  · refine ⟨its.toList, r, ⟨o, I.kIn a o hk, hc, n, by simpa using hs⟩, ?_⟩
    have e := r.length
    simp only [Array.length_toList] at e
    omega
theorem Inv.list_inj (I : Inv X pins σ H s) (h : SqL X.K H a xs) (h' : SqL X.K H a ys) : xs = ys := by
  obtain ⟨its, r, ⟨o, n, e, _, _, d⟩, _⟩ := I.list h
  obtain ⟨its', r', ⟨o', n', e', _, _, d'⟩, _⟩ := I.list h'
  rw [e] at e'; cases e'
  rw [d] at d'
  injection d' with d1 _
  have : its = its' := by simpa using congrArg Array.toList d1
  subst this
  exact r.inj r'
theorem Inv.tuple_inj (I : Inv X pins σ H s) (h : SqT X.K H a xs) (h' : SqT X.K H a ys) : xs = ys := by
  obtain ⟨its, r, ⟨o, e, _, n, d⟩, _⟩ := I.tuple h
  obtain ⟨its', r', ⟨o', e', _, n', d'⟩, _⟩ := I.tuple h'
  rw [e] at e'; cases e'
  rw [d] at d'
  injection d' with d1 _
  have : its = its' := by simpa using congrArg Array.toList d1
  subst this
  exact r.inj r'
end
abbrev Cx.wish (X : Cx) (E : Value → Shared → Prop) : Cx := { X with xe := E }
abbrev Cx.nox (X : Cx) : Cx := X.wish fun _ _ => False
theorem Cx.Ok.wish {X : Cx} (ok : X.Ok) (E : Value → Shared → Prop) : (X.wish E).Ok :=
  ⟨ok.mod, ok.kind, ok.glob, ok.blt, ok.above, ok.inj, ok.has, ok.cab, ok.hd, ok.frames, ok.stk, ok.exf, ok.bs, ok.bsz, ok.noex, ok.exfs, ok.funs, ok.frf⟩
theorem Cx.Ok.unwish {X : Cx} {E : Value → Shared → Prop} (ok : (X.wish E).Ok) : X.Ok :=
  ⟨ok.mod, ok.kind, ok.glob, ok.blt, ok.above, ok.inj, ok.has, ok.cab, ok.hd, ok.frames, ok.stk, ok.exf, ok.bs, ok.bsz, ok.noex, ok.exfs, ok.funs, ok.frf⟩
section
variable {X : Cx} {pins : List (Addr × Obj)} {σ : St} {H : Hp} {s : Shared} {E : Value → Shared → Prop}
theorem Inv.wish (I : Inv X pins σ H s) (E : Value → Shared → Prop) : Inv (X.wish E) pins σ H s := ⟨I.ok.wish E, I.os, I.bare, I.base, I.loc, I.cell, I.free, I.freeC, I.pin, I.hok, I.len⟩
theorem Inv.unwish (I : Inv (X.wish E) pins σ H s) : Inv X pins σ H s := ⟨I.ok.unwish, I.os, I.bare, I.base, I.loc, I.cell, I.free, I.freeC, I.pin, I.hok, I.len⟩
theorem SP.unwish {D : Ends} {f : Flow} {s' : Shared} (h : SP (X.wish E) pins D f s') : SP X pins D f s' := by
  cases f with
  | next => obtain ⟨σ', H', I, q⟩ := h; exact ⟨σ', H', I.unwish, q⟩
  | brk => obtain ⟨σ', H', I, q⟩ := h; exact ⟨σ', H', I.unwish, q⟩
  | cont => obtain ⟨σ', H', I, q⟩ := h; exact ⟨σ', H', I.unwish, q⟩
  | ret u => obtain ⟨v, σ', H', I, r, q⟩ := h; exact ⟨v, σ', H', I.unwish, r, q⟩
theorem PE.nox {e : Expr} {t : TE} (h : PE X.nox e t) : PE X e t := fun pins s σ H Q I hw =>
  wpAny_mono (h pins s σ H Q (I.wish _) hw) (fun _ _ ⟨v, H', I', r, q⟩ => ⟨v, H', I'.unwish, r, q⟩) fun _ _ z => False.elim z
theorem PT.nox {e : Expr} {t : TT} (h : PT X.nox e t) : PT X e t := fun pins s σ H Q I hw =>
  wpAny_mono (h pins s σ H Q (I.wish _) hw) (fun _ _ ⟨H', I', q⟩ => ⟨H', I'.unwish, q⟩) fun _ _ z => False.elim z
theorem PSs.nox {st : List Stmt} {t : TS} (h : PSs X.nox st t) : PSs X st t := fun pins s σ H D I hw =>
  wpAny_mono (h pins s σ H D (I.wish _) hw) (fun _ _ q => q.unwish) fun _ _ z => False.elim z
end
section
variable {X : Cx} {st : Stmt} {rest : List Stmt} {t u : TS} {e : Expr} {te : TE} {pos : Pos}
def tNext : TS := fun D σ H => D.nx σ H
def tSeq (t u : TS) : TS := fun D σ H => t { D with nx := u D } σ H
theorem pss_nil : PSs X [] tNext := fun _ _ σ H _ I h => wpAny_execs_nil ⟨σ, H, I, h⟩
theorem pss_cons (h1 : PS X st t) (h2 : PSs X rest u) : PSs X (st :: rest) (tSeq t u) := by
  intro pins s σ H D I h
  refine wpAny_execs_cons (thn (h1 pins s σ H { D with nx := u D } I h) fun f s1 q => ?_)
  cases f with
  | next =>
    obtain ⟨σ', H', I', q⟩ := q
    exact h2 pins s1 σ' H' D I' q
  | ret v => exact q
  | brk => exact q
  | cont => exact q
theorem pss_one (h1 : PS X st t) : PSs X [st] t := by
  intro pins s σ H D I h
  refine wpAny_execs_cons (thn (h1 pins s σ H D I h) fun f s1 q => ?_)
  cases f with
  | next => exact wpAny_execs_nil q
  | ret v => exact q
  | brk => exact q
  | cont => exact q
theorem Inv.quiet {pins : List (Addr × Obj)} {σ : St} {H : Hp} {s : Shared} (I : Inv X pins σ H s) : interactive X.env = false := by simp [interactive, I.ok.kind]
def tDrop (te : TE) : TS := fun D σ H => te σ H fun _ H1 => D.nx σ H1
theorem ps_expr (he : PE X e te) (hs : swapsWith e none pos.line X.env = pure false := by rfl) : PS X (.Expr e pos) (tDrop te) := by
  intro pins s σ H D I h
  exact wpAny_Expr_any (thn (he pins s σ H _ I h) fun v s1 ⟨x, H1, I1, r1, q1⟩ => ⟨σ, H1, I1, q1⟩) I.quiet hs
def tRet (te : TE) : TS := fun D σ H => te σ H D.rt
theorem ps_ret (he : PE X e te) : PS X (.Return (some e) pos) (tRet te) := by
  intro pins s σ H D I h
  exact wpAny_Return_some (thn (he pins s σ H _ I h) fun v s1 ⟨x, H1, I1, r1, q1⟩ => ⟨x, σ, H1, I1, r1, q1⟩)
def tRetN : TS := fun D _ H => D.rt .non H
theorem ps_retN : PS X (.Return none pos) tRetN := fun _ _ σ H _ I h => wpAny_Return_none ⟨.non, σ, H, I, rfl, h⟩
def tIfS (c : TT) (t u : TS) : TS := fun D σ H => c σ H fun b H1 => if b = true then t D σ H1 else u D σ H1
theorem ps_if {c : Expr} {a b : List Stmt} {tc : TT} (hc : PT X c tc) (ha : PSs X a t) (hb : PSs X b u) : PS X (.If c a b pos) (tIfS tc t u) := by
  intro pins s σ H D I h
  refine wpAny_If (thn (hc pins s σ H _ I h) fun d s1 ⟨H1, I1, q1⟩ => ?_)
  cases d with
  | true => exact ha pins s1 σ H1 D I1 q1
  | false => exact hb pins s1 σ H1 D I1 q1
def tNever : TS := fun _ _ _ => False
theorem ps_never : PS X st tNever := fun _ _ _ _ _ _ h => h.elim
end
abbrev TG := V → St → Hp → (St → Hp → Prop) → Prop
abbrev TGs := List V → St → Hp → (St → Hp → Prop) → Prop
def PG (X : Cx) (target : Expr) (t : TG) : Prop :=
  ∀ (pins : List (Addr × Obj)) (s : Shared) (σ : St) (H : Hp) (v : V) (u : Value) (Q : St → Hp → Prop), Inv X pins σ H s → RelV v u → t v σ H Q →
    wpAny (model X.prog X.w) X.A (assign target X.env u) (fun _ s' => ∃ σ' H', Inv X pins σ' H' s' ∧ Q σ' H') X.xe s
def PGs (X : Cx) (ts : List Expr) (t : TGs) : Prop :=
  ∀ (pins : List (Addr × Obj)) (s : Shared) (σ : St) (H : Hp) (vs : List V) (us : List Value) (Q : St → Hp → Prop), Inv X pins σ H s → Vals vs us → t vs σ H Q →
    wpAny (model X.prog X.w) X.A (assignInOrder ((assignEach ts X.env).map (·.2)) us) (fun _ s' => ∃ σ' H', Inv X pins σ' H' s' ∧ Q σ' H') X.xe s
abbrev TSet := V → V → V → Hp → (Hp → Prop) → Prop
def PSet (X : Cx) (t : TSet) : Prop :=
  ∀ (pins : List (Addr × Obj)) (s : Shared) (σ : St) (H : Hp) (o i v : V) (ov iv u : Value) (Q : Hp → Prop), Inv X pins σ H s → RelV o ov → RelV i iv → RelV v u → t o i v H Q →
    wpAny (model X.prog X.w) X.A (setItem ov iv u) (fun _ s' => ∃ H', Inv X pins σ H' s' ∧ Q H') X.xe s
section
variable {X : Cx} {pos : Pos}
def gName (i : Nat) : TG := fun v σ H Q => Q (σ.set i (some v)) H
theorem pg_name {i : Nat} {x : Str} (hN : X.N.Nodup) (hi : X.N[i]? = some x) (hx : Loc X.env.scope x) (hf : X.fn x = true ∨ X.env.scope.names.lookup x = some .local := by first | exact .inl rfl | exact .inr rfl | assumption) : PG X (.Name x pos) (gName i) := by
  intro pins s σ H v u Q I r h
  exact wpAny_assign_Name (store_ok I hN hi hx r (fun s' I' => ⟨_, H, I', h⟩) hf)
def gNil : TGs := fun vs σ H Q => vs = [] ∧ Q σ H
def gCons (t : TG) (u : TGs) : TGs := fun vs σ H Q => ∃ v r, vs = v :: r ∧ t v σ H fun σ' H' => u r σ' H' Q
theorem pgs_nil : PGs X [] gNil := by
  intro pins s σ H vs us Q I r h
  obtain ⟨e, h⟩ := h
  subst e
  cases r
  exact assignInOrder_nil ⟨σ, H, I, h⟩
theorem pgs_cons {e : Expr} {es : List Expr} {t : TG} {u : TGs} (h1 : PG X e t) (h2 : PGs X es u)
    (hs : (assignEach (e :: es) X.env).map (·.2) = assign e X.env :: (assignEach es X.env).map (·.2) := by rfl) : PGs X (e :: es) (gCons t u) := by
  intro pins s σ H vs us Q I r h
  obtain ⟨v, vr, e1, h⟩ := h
  subst e1
  cases r with
  | cons r rr =>
    rw [hs]
    refine assignInOrder_cons (thn (h1 pins s σ H _ _ _ I r h) fun _ s1 ⟨σ1, H1, I1, q1⟩ => ?_)
    exact h2 pins s1 σ1 H1 _ _ Q I1 rr q1
def gTup (K : PySem.W.Frag) (n : Nat) (t : TGs) : TG := fun v σ H Q => ∃ a xs, v = .ref a ∧ SqT K H a xs ∧ xs.length = n ∧ t xs σ H Q
theorem pg_tup {es : List Expr} {k : Nat} {t : TGs} {n : Nat} (hc : X.calm = true) (h : PGs X es t)
    (hn : (assignEach es X.env).length = n := by rfl) (hst : (assignEach es X.env).findIdx? (·.1) = none := by rfl) : PG X (.Tuple es k pos) (gTup X.K n t) := by
  intro pins s σ H v u Q I r hw
  obtain ⟨a, xs, e1, hq, hl, hw⟩ := hw
  subst e1
  cases r
  obtain ⟨its, rv, ht, hz⟩ := I.tuple hq
  refine assign_Tuple_tuple (I.ok.hd hc) ht (by simp [hn, ← hl, rv.length]) hst fun h' hx => ?_
  have I1 : Inv X pins σ H { s with heap := h' } := I.kept (t' := s.toks) fun b o e => hx b o (Nat.ne_of_lt (Heap.lt_size e)) e
  exact h pins _ σ H xs _ Q I1 (by simpa using rv) hw
def gSub (to ti : TE) (t : TSet) : TG := fun v σ H Q => to σ H fun o H1 => ti σ H1 fun i H2 => t o i v H2 fun H3 => Q σ H3
theorem pg_sub {o i : Expr} {to ti : TE} {t : TSet} (ho : PE X o to) (hi : PE X i ti) (hs : PSet X t)
    (ha : ∀ v, assign (.Subscript o i pos) X.env v = (do
      let ov ← holding [v] (eval o X.env)
      let iv ← holding [v, ov] (eval i X.env)
      standAt pos
      holding [v, ov, iv] (setItem ov iv v)
      release [v, ov, iv] []) := by intro _; rfl) : PG X (.Subscript o i pos) (gSub to ti t) := by
  intro pins s σ H v u Q I r h
  rw [ha]
  refine wpAny_bind (wpAny_holding (thn (ho pins s σ H _ I h) fun ov s1 ⟨x, H1, I1, r1, q1⟩ => ?_))
  refine wpAny_bind (wpAny_holding (thn (hi pins s1 σ H1 _ I1 q1) fun iv s2 ⟨y, H2, I2, r2, q2⟩ => ?_))
  refine wpAny_bind (wpAny_standAt (wpAny_bind (wpAny_holding (thn (hs pins s2 σ H2 x y v ov iv u _ I2 r1 r2 r q2) fun _ s3 ⟨H3, I3, q3⟩ => ?_))))
  exact wpAny_release ⟨σ, H3, I3, q3⟩
def tAsg (te : TE) (g : TG) : TS := fun D σ H => te σ H fun x H1 => g x σ H1 D.nx
theorem ps_asg {tg e : Expr} {te : TE} {g : TG} (he : PE X e te) (hg : PG X tg g) (hs : swapsWithSole [tg] e pos.line X.env = pure false := by rfl) (hw : swappedStores [tg] e X.env = pure none := by rfl)
    (h1 : (assignEach [tg] X.env).map (·.2) = [assign tg X.env] := by rfl) : PS X (.Assign [tg] e pos) (tAsg te g) := by
  intro pins s σ H D I h
  refine wpAny_Assign_stores (thn (he pins s σ H _ I h) fun v s1 ⟨x, H1, I1, r1, q1⟩ => ?_) hs hw
  rw [h1]
  exact thn (hg pins s1 σ H1 x v _ I1 r1 q1) fun _ s2 q => q
theorem ps_set {i : Nat} {x : Str} {e : Expr} {te : TE} {pos' : Pos} (hN : X.N.Nodup) (hi : X.N[i]? = some x) (hx : Loc X.env.scope x) (he : PE X e te) (hs : swapsWith e (some (.Name x pos')) pos.line X.env = pure false := by rfl) (hf : X.fn x = true ∨ X.env.scope.names.lookup x = some .local := by first | exact .inl rfl | exact .inr rfl | assumption) :
    PS X (.Assign [.Name x pos'] e pos) (tAsg te (gName i)) := by
  intro pins s σ H D I h
  refine wpAny_Assign_Name (thn (he pins s σ H _ I h) fun v s1 ⟨y, H1, I1, r1, q1⟩ => ?_) hs
  exact store_ok I1 hN hi hx r1 (fun s2 I2 => ⟨_, H1, I2, q1⟩) hf
end
section
variable {X : Cx} {pos : Pos}
end
structure It where
  go : Nat → Hp → Prop
  yld : Nat → Hp → V → Hp → Prop
  stop : Nat → Hp → Prop
def FpOk (X : Cx) (pins : List (Addr × Obj)) (H : Hp) (b : Addr) : Prop :=
  H b = none ∧ b ≠ X.env.locals ∧ b ∉ X.fs ∧ (b ∈ X.ex ∨ X.s₀.heap.objs.size ≤ b) ∧ (∀ x c, X.env.cells.lookup x = some c → c ≠ b) ∧ ∀ p ∈ X.pn ++ pins, p.1 ≠ b
theorem Inv.fpOk {X : Cx} {pins : List (Addr × Obj)} {σ : St} {H H' : Hp} {s : Shared} {b : Addr} (I : Inv X pins σ H s) (hb : s.heap.objs.size ≤ b) (hn : H' b = none) : FpOk X pins H' b := by
  refine ⟨hn, Nat.ne_of_gt (Nat.lt_of_lt_of_le I.lt hb), I.nofs hb, .inr (Nat.le_trans I.sz hb), fun x c e z => ?_, fun p hp z => ?_⟩
  · obtain ⟨v, q⟩ := I.cell x c e
    exact absurd (Nat.lt_of_lt_of_le q.lt (by rw [z]; exact hb)) (Nat.lt_irrefl _)
  · exact absurd (Nat.lt_of_lt_of_le (Heap.lt_size (I.pin p hp).1) (by rw [z]; exact hb)) (Nat.lt_irrefl _)
structure Turn (P : Program) (w : World) (K : PySem.W.Frag) (tg : Expr) (J : It) (fp : List Addr) (it : Addr) (tn : Nat → Heap → Prop) : Prop where
  mem : it ∈ fp
  obj : ∀ i h, tn i h → ∀ b ∈ fp, ∃ o, h.get? b = some o ∧ ∀ v, o.data ≠ .cell v
  keep : ∀ i h h', tn i h → (∀ b ∈ fp, ∀ o, h.get? b = some o → h'.get? b = some o) → tn i h'
  item : ∀ (X : Cx), X.prog = P → X.w = w → X.K = K → X.calm = true → ∀ (i : Nat) (pins : List (Addr × Obj)) (s : Shared) (σ : St) (H : Hp) (E : Value → Shared → Prop), Inv X pins σ H s → (∀ b ∈ fp, FpOk X pins H b) → tn i s.heap → J.go i H →
    wpAny (model P w) X.A (pyNext (.ref it)) (fun r s1 => ∃ u, r = some u ∧
      wpAny (model P w) X.A (letOwnedTupleGo tg (.ref it) u) (fun _ s2 => ∃ x H', Inv X pins σ H' s2 ∧ RelV x u ∧ J.yld i H x H' ∧ tn (i + 1) s2.heap ∧ ∀ b ∈ fp, H' b = none) E s1) E s
  done : ∀ (X : Cx), X.prog = P → X.w = w → X.K = K → X.calm = true → ∀ (i : Nat) (pins : List (Addr × Obj)) (s : Shared) (σ : St) (H : Hp) (E : Value → Shared → Prop), Inv X pins σ H s → (∀ b ∈ fp, FpOk X pins H b) → tn i s.heap → J.stop i H →
    wpAny (model P w) X.A (pyNext (.ref it)) (fun r s1 => r = none ∧ Inv X pins σ H s1) E s
  self : ∀ (A : Around) (i : Nat) (s : Shared) (Q : Value → Shared → Prop) (E : Value → Shared → Prop), tn i s.heap → Q (.ref it) s → wpAny (model P w) A (pyIter (.ref it)) Q E s
abbrev TI := St → Hp → (It → Hp → Prop) → Prop
def PIE (X : Cx) (pins : List (Addr × Obj)) (σ : St) (tg : Expr) (R : It → Hp → Prop) (itv : Value) (s2 : Shared) : Prop :=
  ∃ (it : Addr) (fp : List Addr) (tn : Nat → Heap → Prop) (J : It) (H' : Hp), itv = .ref it ∧ Inv X pins σ H' s2 ∧ Turn X.prog X.w X.K tg J fp it tn ∧ tn 0 s2.heap ∧ (∀ b ∈ fp, FpOk X pins H' b) ∧ R J H'
def PI (X : Cx) (tg iter : Expr) (wi : TI) : Prop :=
  ∀ (pins : List (Addr × Obj)) (s : Shared) (σ : St) (H : Hp) (R : It → Hp → Prop), Inv X pins σ H s → wi σ H R →
    wpAny (model X.prog X.w) X.A (eval iter X.env) (fun v s1 => wpAny (model X.prog X.w) X.A (pyIter v) (PIE X pins σ tg R) X.xe s1) X.xe s
theorem go_of {M : Model} {A : Around} {E : Value → Shared → Prop} {s : Shared} {tg : Expr} {it : Addr} {u : Value} {o : Obj} {n : String} {vs : Array Value} {Q : Unit → Shared → Prop} (ho : s.heap.get? it = some o) (hc : o.cls = .type n) (hd : o.data = .fields vs)
    (hn : ["enumerate", "zip", "dict_itemiterator", "dict_reverseitemiterator", "odict_iterator", "itertools.zip_longest", "itertools.pairwise"].contains n = false) (hQ : Q () s) : wpAny M A (letOwnedTupleGo tg (.ref it) u) Q E s := by
  unfold letOwnedTupleGo
  cases tg <;> first
    | exact wpAny_pure hQ
    | (cases u <;> first
        | exact wpAny_pure hQ
        | (refine wpAny_bind (wpAny_load ho ?_)
           rw [hc, hd]
           show wpAny M A (if (["enumerate", "zip", "dict_itemiterator", "dict_reverseitemiterator", "odict_iterator", "itertools.zip_longest", "itertools.pairwise"].contains n && vs[0]? == some (rawInt _)) = true then _ else _) Q E s
           rw [if_neg (by intro h; rw [hn, Bool.false_and] at h; cases h)]
           exact wpAny_pure hQ))
def Itl (K : PySem.W.Frag) (a : Addr) : It :=
  ⟨fun i H => ∃ xs x, SqL K H a xs ∧ xs[i]? = some x, fun i H x H' => H' = H ∧ ∀ xs, SqL K H a xs → xs[i]? = some x, fun i H => ∃ xs, SqL K H a xs ∧ xs.length ≤ i⟩
def Itt (K : PySem.W.Frag) (a : Addr) : It :=
  ⟨fun i H => ∃ xs x, SqT K H a xs ∧ xs[i]? = some x, fun i H x H' => H' = H ∧ ∀ xs, SqT K H a xs → xs[i]? = some x, fun i H => ∃ xs, SqT K H a xs ∧ xs.length ≤ i⟩
def Itr (lo : Int) (n : Nat) : It := ⟨fun i _ => i < n, fun i H x H' => H' = H ∧ x = .int (lo + i), fun i _ => n ≤ i⟩
theorem turn_list {P : Program} {w : World} {K : PySem.W.Frag} {tg : Expr} (a it : Addr) : Turn P w K tg (Itl K a) [it] it (fun i h => h.IsListIter it a i) where
  mem := by simp
  obj := fun i h st b hb => by
    have e : b = it := by simpa using hb
    subst e
    obtain ⟨o, e, c, d⟩ := st
    exact ⟨o, e, fun v z => by rw [d] at z; cases z⟩
  keep := fun i h h' st k => st.at fun o e => k it (by simp) o e
  item := by
    intro X hP hw hK hc i pins s σ H E I hf st hg
    subst hP hw hK
    obtain ⟨xs, x, hq, hx⟩ := hg
    obtain ⟨its, rv, p, hz⟩ := I.list hq
    obtain ⟨u, hu, ru⟩ := rv.get hx
    obtain ⟨f0, f1, f2, f3, f4, f5⟩ := hf it (by simp)
    refine wpAny_pyNext_list_item st p.isList (x := u) (by simpa using hu) fun h' st' sb => ?_
    have I1 : Inv X pins σ H { s with heap := h' } := I.turned (t' := s.toks) (fun b o hb e => (sb.2 b hb).trans e) f0 f1 f3 f4 f5
    obtain ⟨o, e, c, d⟩ := id st'
    exact ⟨u, rfl, go_of (s := { s with heap := h' }) e c d (by decide) ⟨x, H, I1, ru, ⟨rfl, fun ys hy => by rw [I.list_inj hy hq]; exact hx⟩, st', fun b hb => (hf b hb).1⟩⟩
  done := by
    intro X hP hw hK hc i pins s σ H E I hf st hg
    subst hP hw hK
    obtain ⟨xs, hq, hx⟩ := hg
    obtain ⟨its, rv, p, hz⟩ := I.list hq
    obtain ⟨f0, f1, f2, f3, f4, f5⟩ := hf it (by simp)
    have hl := rv.length
    exact wpAny_pyNext_list_end (I.ok.hd hc) st p.isList (by simp; omega) fun h' eb => ⟨rfl, I.turned (t' := s.toks) (fun b o hb e => eb b o hb e) f0 f1 f3 f4 f5⟩
  self := fun _ _ _ _ _ st h => wpAny_pyIter_listiter st h
theorem turn_tuple {P : Program} {w : World} {K : PySem.W.Frag} {tg : Expr} (a it : Addr) : Turn P w K tg (Itt K a) [it] it (fun i h => h.IsTupleIter it a i) where
  mem := by simp
  obj := fun i h st b hb => by
    have e : b = it := by simpa using hb
    subst e
    obtain ⟨o, e, c, d⟩ := st
    exact ⟨o, e, fun v z => by rw [d] at z; cases z⟩
  keep := fun i h h' st k => st.at fun o e => k it (by simp) o e
  item := by
    intro X hP hw hK hc i pins s σ H E I hf st hg
    subst hP hw hK
    obtain ⟨xs, x, hq, hx⟩ := hg
    obtain ⟨its, rv, p, hz⟩ := I.tuple hq
    obtain ⟨u, hu, ru⟩ := rv.get hx
    obtain ⟨f0, f1, f2, f3, f4, f5⟩ := hf it (by simp)
    refine wpAny_pyNext_tuple_item st (show s.heap.IsTuple a its.toArray from p) (x := u) (by simpa using hu) fun h' st' sb => ?_
    have I1 : Inv X pins σ H { s with heap := h' } := I.turned (t' := s.toks) (fun b o hb e => (sb.2 b hb).trans e) f0 f1 f3 f4 f5
    obtain ⟨o, e, c, d⟩ := id st'
    exact ⟨u, rfl, go_of (s := { s with heap := h' }) e c d (by decide) ⟨x, H, I1, ru, ⟨rfl, fun ys hy => by rw [I.tuple_inj hy hq]; exact hx⟩, st', fun b hb => (hf b hb).1⟩⟩
  done := by
    intro X hP hw hK hc i pins s σ H E I hf st hg
    subst hP hw hK
    obtain ⟨xs, hq, hx⟩ := hg
    obtain ⟨its, rv, p, hz⟩ := I.tuple hq
    obtain ⟨f0, f1, f2, f3, f4, f5⟩ := hf it (by simp)
    have hl := rv.length
    exact wpAny_pyNext_tuple_end (I.ok.hd hc) st (show s.heap.IsTuple a its.toArray from p) (by simp; omega) fun h' eb => ⟨rfl, I.turned (t' := s.toks) (fun b o hb e => eb b o hb e) f0 f1 f3 f4 f5⟩
  self := fun _ _ _ _ _ st h => wpAny_pyIter_tupleiter st h
theorem turn_range {P : Program} {w : World} {K : PySem.W.Frag} {tg : Expr} (it : Addr) (lo : Int) (n : Nat) : Turn P w K tg (Itr lo n) [it] it (fun i h => IsRangeIter h it (lo + (i : Nat) * 1) ((n : Int) - (i : Nat)) 1) where
  mem := by simp
  obj := fun i h st b hb => by
    have e : b = it := by simpa using hb
    subst e
    exact ⟨_, st, fun v z => by
      have z' : Data.fields _ = Data.cell v := z
      cases z'⟩
  keep := fun i h h' st k => k it (by simp) _ st
  item := by
    intro X hP hw hK hc i pins s σ H E I hf st hg
    subst hP hw hK
    obtain ⟨f0, f1, f2, f3, f4, f5⟩ := hf it (by simp)
    have W := Walks.range (prog := X.prog) (w := X.w) (I.ok.hd hc) it lo 1 n
    refine W.item i s _ _ hg st fun v h' tk hv st' kk => ?_
    obtain ⟨t, rfl⟩ := hv
    have I1 : Inv X pins σ H { s with heap := h', toks := tk } := I.turned (fun b o hb e => kk b o (by simpa using hb) e) f0 f1 f3 f4 f5
    refine ⟨_, rfl, go_of (s := { s with heap := h', toks := tk }) (n := "range_iterator") st' rfl rfl (by decide) ⟨.int (lo + i), H, I1, ⟨t, ?_⟩, ⟨rfl, rfl⟩, st', fun b hb => (hf b hb).1⟩⟩
    rw [Int.mul_one]
  done := by
    intro X hP hw hK hc i pins s σ H E I hf st hg
    subst hP hw hK
    obtain ⟨f0, f1, f2, f3, f4, f5⟩ := hf it (by simp)
    exact wpAny_pyNext_range_end (I.ok.hd hc) st (by have : n ≤ i := hg; omega) fun h' eb => ⟨rfl, I.turned (t' := s.toks) (fun b o hb e => eb b o hb e) f0 f1 f3 f4 f5⟩
  self := fun _ _ _ _ _ st h => wpAny_pyIter_rangeiter st h
end L2
namespace L2
open PySem PySem.Spec PyProof.Rows
section
variable {X : Cx} {tg : Expr}
def iList (K : PySem.W.Frag) (tl : TE) : TI := fun σ H R => tl σ H fun x H1 => ∃ a, x = .ref a ∧ (∃ xs, SqL K H1 a xs) ∧ R (Itl K a) H1
def iTup (K : PySem.W.Frag) (tl : TE) : TI := fun σ H R => tl σ H fun x H1 => ∃ a, x = .ref a ∧ (∃ xs, SqT K H1 a xs) ∧ R (Itt K a) H1
theorem pi_list {l : Expr} {tl : TE} (hl : PE X l tl) : PI X tg l (iList X.K tl) := by
  intro pins s σ H R I h
  refine thn (hl pins s σ H _ I h) fun v s1 ⟨x, H1, I1, r1, q1⟩ => ?_
  obtain ⟨a, e, ⟨xs, hq⟩, q⟩ := q1
  subst e
  cases r1
  obtain ⟨its, rv, p, hz⟩ := I1.list hq
  refine wpAny_pyIter_list p.isList ?_
  refine ⟨s1.heap.objs.size, [s1.heap.objs.size], _, _, H1, rfl, I1.kept (t' := s1.toks) fun b o e => Heap.get?_push_of_some _ e, turn_list a _, ⟨_, Heap.get?_push_size _ rfl, rfl, rfl⟩, fun b hb => ?_, q⟩
  have e : b = s1.heap.objs.size := by simpa using hb
  subst e
  exact I1.fpOk (Nat.le_refl _) (I1.hok.fresh (Nat.le_refl _))
theorem pi_tup {l : Expr} {tl : TE} (hl : PE X l tl) : PI X tg l (iTup X.K tl) := by
  intro pins s σ H R I h
  refine thn (hl pins s σ H _ I h) fun v s1 ⟨x, H1, I1, r1, q1⟩ => ?_
  obtain ⟨a, e, ⟨xs, hq⟩, q⟩ := q1
  subst e
  cases r1
  obtain ⟨its, rv, p, hz⟩ := I1.tuple hq
  refine wpAny_pyIter_tuple (show s1.heap.IsTuple a its.toArray from p) ?_
  refine ⟨s1.heap.objs.size, [s1.heap.objs.size], _, _, H1, rfl, I1.kept (t' := s1.toks) fun b o e => Heap.get?_push_of_some _ e, turn_tuple a _, ⟨_, Heap.get?_push_size _ rfl, rfl, rfl⟩, fun b hb => ?_, q⟩
  have e : b = s1.heap.objs.size := by simpa using hb
  subst e
  exact I1.fpOk (Nat.le_refl _) (I1.hok.fresh (Nat.le_refl _))
theorem range_it {pins : List (Addr × Obj)} {σ : St} {H : Hp} {s : Shared} {R : It → Hp → Prop} {E : Value → Shared → Prop} {lo hi : Int} {t u v : Tok} {tk : Nat} (I : Inv X pins σ H s) (h1 : -(2 ^ 62) ≤ lo) (h2 : lo < 2 ^ 62) (h3 : -(2 ^ 62) ≤ hi) (h4 : hi < 2 ^ 62)
    (q : R (Itr lo (hi - lo).toNat) H) : wpAny (model X.prog X.w) X.A (pyIter (.ref s.heap.objs.size)) (PIE X pins σ tg R) E { s with heap := s.heap.push { cls := .type "range", data := .fields #[.int lo t, .int hi u, .int 1 v] }, toks := tk } := by
  refine wpAny_pyIter_range (IsRange.new ..) (small_one h1 h2 h3 h4) ?_
  have I1 : Inv X pins σ H { s with heap := s.heap.push { cls := .type "range", data := .fields #[.int lo t, .int hi u, .int 1 v] }, toks := tk } := I.kept fun b o e => Heap.get?_push_of_some _ e
  refine ⟨(s.heap.push { cls := .type "range", data := .fields #[.int lo t, .int hi u, .int 1 v] }).objs.size, [(s.heap.push { cls := .type "range", data := .fields #[.int lo t, .int hi u, .int 1 v] }).objs.size], _, _, H, rfl,
    I1.kept (t' := tk) fun b o e => Heap.get?_push_of_some _ e, turn_range _ lo (hi - lo).toNat, ?_, fun b hb => ?_, q⟩
  · have e1 : lo + ((0 : Nat) : Int) * 1 = lo := by simp
    have e2 : (((hi - lo).toNat : Nat) : Int) - ((0 : Nat) : Int) = Builtin.Range.rangeSize lo hi 1 := by rw [rangeSize_one]; split <;> omega
    show IsRangeIter _ _ (lo + ((0 : Nat) : Int) * 1) ((((hi - lo).toNat : Nat) : Int) - ((0 : Nat) : Int)) 1
    rw [e1, e2]
    exact Heap.get?_push_size _ rfl
  · have e : b = (s.heap.push { cls := .type "range", data := .fields #[.int lo t, .int hi u, .int 1 v] }).objs.size := by simpa using hb
    subst e
    exact I1.fpOk (Nat.le_refl _) (I1.hok.fresh (Nat.le_refl _))
def iRng1 (ta : TA) : TI := fun σ H R => ta σ H fun vs H1 => ∃ j : Int, vs = [.int j] ∧ -(2 ^ 62) ≤ j ∧ j < 2 ^ 62 ∧ R (Itr 0 j.toNat) H1
theorem pi_range1 {a : Expr} {ta : TA} {p pos : Pos} (hg : Gl X "range") (hm : X.mg "range" = none) (ha : PA X [a] ta) (hs : starEach [a] X.env = [(false, eval a X.env)] := by rfl) : PI X tg (.Call (.Name "range" p) [a] [] pos) (iRng1 ta) := by
  intro pins s σ H R I h
  refine Call_ (ld_blt I hg hm boot_range (PyProof.Rows.callWith_type1 (thn (ha pos pins s σ H _ I h) fun us s1 ⟨vs, H1, I1, r1, q1⟩ => ?_) hs rfl))
  obtain ⟨j, e, q1, q2, q⟩ := q1
  subst e
  cases r1 with
  | cons r rr =>
    cases rr
    obtain ⟨t, rfl⟩ := r
    exact call_range_1 (range_it I1 (by omega) (by omega) q1 q2 (by simpa using q))
def tFor (wi : TI) (g : TG) (tb : TS) : TS := fun D σ H => wi σ H fun J H1 => ∃ W : Nat → Nat → St → Hp → Prop, (∃ m, W 0 m σ H1) ∧ ∀ i m σ H, W i m σ H →
  (J.stop i H ∧ D.nx σ H) ∨ (J.go i H ∧ ∃ N : St → Hp → Prop, (∀ σ' H', N σ' H' → ∃ m', m' < m ∧ W (i + 1) m' σ' H') ∧ ∀ x H', J.yld i H x H' → g x σ H' fun σ2 H2 => tb { D with nx := N, ct := N, bk := D.nx } σ2 H2)
def pinsAt (fp : List Addr) (h : Heap) : List (Addr × Obj) := fp.filterMap fun b => (h.get? b).map fun o => (b, o)
theorem mem_pinsAt {fp : List Addr} {h : Heap} {b : Addr} {o : Obj} (hb : b ∈ fp) (e : h.get? b = some o) : (b, o) ∈ pinsAt fp h := List.mem_filterMap.mpr ⟨b, hb, by rw [e]; rfl⟩
theorem of_pinsAt {fp : List Addr} {h : Heap} {p : Addr × Obj} (hp : p ∈ pinsAt fp h) : p.1 ∈ fp ∧ h.get? p.1 = some p.2 := by
  obtain ⟨b, hb, e⟩ := List.mem_filterMap.mp hp
  cases q : h.get? b with
  | none => rw [q] at e; cases e
  | some o =>
    rw [q] at e
    have e' : (b, o) = p := Option.some.inj e
    subst e'
    exact ⟨hb, q⟩
theorem Inv.pinned {pins : List (Addr × Obj)} {σ : St} {H : Hp} {s : Shared} {fp : List Addr} (I : Inv X pins σ H s) (hf : ∀ b ∈ fp, FpOk X pins H b) (ho : ∀ b ∈ fp, ∃ o, s.heap.get? b = some o ∧ ∀ v, o.data ≠ .cell v) : Inv X (pins ++ pinsAt fp s.heap) σ H s :=
  I.pins_of fun p hp => (List.mem_append.mp hp).elim (fun z => I.pin p (List.mem_append_right _ z)) fun z => by
    obtain ⟨hb, e⟩ := of_pinsAt z
    obtain ⟨f0, f1, f2, _⟩ := hf p.1 hb
    obtain ⟨o, e', d⟩ := ho p.1 hb
    rw [e] at e'; cases e'
    exact ⟨e, f0, f1, f2, d⟩
theorem Inv.unpinned {pins pl : List (Addr × Obj)} {σ : St} {H : Hp} {s : Shared} (I : Inv X (pins ++ pl) σ H s) : Inv X pins σ H s := I.pins_of fun p hp => I.pin p (List.mem_append_right _ (List.mem_append_left _ hp))
theorem ps_for {iter : Expr} {body : List Stmt} {wi : TI} {g : TG} {tb : TS} {pos : Pos} (hp : PassesOwn (model X.prog X.w) X.A X.env X.xe) (hc : X.calm = true) (hi : PI X tg iter wi) (hg : PG X tg g) (hb : PSs X body tb)
    (hs : ∀ x, foldedSetIterable iter X.env x = pure x := by intro _; rfl) : PS X (.For tg iter body [] pos) (tFor wi g tb) := by
  intro pins s σ H D I h
  refine wpAny_For (thn (hi pins s σ H _ I h) fun v s1 h1 => thn h1 fun itv s2 h2 => ?_) hs
  obtain ⟨it, fp, tn, J, H2, e, I2, T, st2, f2, W, ⟨m0, w0⟩, turn⟩ := h2
  subst e
  -- what stays true of the iterator's objects through the loop
  have stat : ∀ {H' : Hp}, (∀ b ∈ fp, H' b = none) → ∀ b ∈ fp, FpOk X pins H' b := fun hn b hb => ⟨hn b hb, (f2 b hb).2⟩
  refine codeAny_forLoop_any (fun n s' => ∃ i σ' H', Inv X pins σ' H' s' ∧ tn i s'.heap ∧ (∀ b ∈ fp, H' b = none) ∧ W i n σ' H') ?_ m0 ⟨0, σ, H2, I2, st2, fun b hb => (f2 b hb).1, w0⟩
  rintro n s3 ⟨i, σ3, H3, I3, st3, fr3, w3⟩
  rcases turn i n σ3 H3 w3 with ⟨stop, qn⟩ | ⟨go, N, hN, step⟩
  · refine wpAny_passesOwn hp (thn (T.done X rfl rfl rfl hc i pins s3 σ3 H3 X.xe I3 (stat fr3) st3 stop) fun r s4 ⟨hr, I4⟩ => ?_)
    subst hr
    exact wpAny_execs_nil ⟨σ3, H3, I4, qn⟩
  · refine wpAny_passesOwn hp (thn (T.item X rfl rfl rfl hc i pins s3 σ3 H3 X.xe I3 (stat fr3) st3 go) fun r s4 ⟨u, hr, h4⟩ => ?_)
    subst hr
    refine wpAny_passesOwn hp (thn h4 fun _ s5 ⟨x, H5, I5, r5, y5, st5, fr5⟩ => ?_)
    have I5' := I5.pinned (stat fr5) (T.obj _ _ st5)
    refine wpAny_passesOwn hp (thn (hg _ s5 σ3 H5 x u _ I5' r5 (step x H5 y5)) fun _ s6 ⟨σ6, H6, I6, q6⟩ => ?_)
    refine wpAny_passesOwn hp (thn (hb _ s6 σ6 H6 _ I6 q6) fun f s7 q7 => ?_)
    have again : ∀ {σ7 : St} {H7 : Hp}, Inv X (pins ++ pinsAt fp s5.heap) σ7 H7 s7 → N σ7 H7 → ∃ m, m < n ∧ ∃ i σ' H', Inv X pins σ' H' s7 ∧ tn i s7.heap ∧ (∀ b ∈ fp, H' b = none) ∧ W i m σ' H' := fun {σ7 H7} I7 n7 => by
      obtain ⟨m', hm, w7⟩ := hN σ7 H7 n7
      refine ⟨m', hm, i + 1, σ7, H7, I7.unpinned, T.keep _ _ _ st5 fun b hb o e => (I7.pin (b, o) (List.mem_append_right _ (List.mem_append_right _ (mem_pinsAt hb e)))).1, fun b hb => ?_, w7⟩
      obtain ⟨o, e, d⟩ := T.obj _ _ st5 b hb
      exact (I7.pin (b, o) (List.mem_append_right _ (List.mem_append_right _ (mem_pinsAt hb e)))).2.1
    cases f with
    | next => obtain ⟨σ7, H7, I7, n7⟩ := q7; exact again I7 n7
    | cont => obtain ⟨σ7, H7, I7, n7⟩ := q7; exact again I7 n7
    | brk => obtain ⟨σ7, H7, I7, q7⟩ := q7; exact ⟨σ7, H7, I7.unpinned, q7⟩
    | ret v => obtain ⟨x7, σ7, H7, I7, r7, q7⟩ := q7; exact ⟨x7, σ7, H7, I7.unpinned, r7, q7⟩
end
theorem for_list {K : PySem.W.Frag} {a : Addr} {xs : List V} {g : TG} {tb : TS} {D : Ends} {σ : St} {H : Hp} (Pv : Nat → St → Hp → Prop) (h0 : Pv 0 σ H) (hl : ∀ i σ H, i ≤ xs.length → Pv i σ H → SqL K H a xs)
    (hs : ∀ i x σ H, xs[i]? = some x → Pv i σ H → g x σ H fun σ2 H2 => tb { D with nx := Pv (i + 1), ct := Pv (i + 1), bk := D.nx } σ2 H2) (hd : ∀ σ H, Pv xs.length σ H → D.nx σ H) :
    ∃ W : Nat → Nat → St → Hp → Prop, (∃ m, W 0 m σ H) ∧ ∀ i m σ H, W i m σ H →
      ((Itl K a).stop i H ∧ D.nx σ H) ∨ ((Itl K a).go i H ∧ ∃ N : St → Hp → Prop, (∀ σ' H', N σ' H' → ∃ m', m' < m ∧ W (i + 1) m' σ' H') ∧ ∀ x H', (Itl K a).yld i H x H' → g x σ H' fun σ2 H2 => tb { D with nx := N, ct := N, bk := D.nx } σ2 H2) := by
  refine ⟨fun i m σ H => m = xs.length - i ∧ i ≤ xs.length ∧ Pv i σ H, ⟨xs.length, by simp, Nat.zero_le _, h0⟩, ?_⟩
  rintro i m σ H ⟨rfl, hi, p⟩
  have q := hl i σ H hi p
  by_cases hlt : i < xs.length
  · refine .inr ⟨⟨xs, xs[i], q, by simp [hlt]⟩, Pv (i + 1), fun σ' H' p' => ⟨xs.length - (i + 1), by omega, rfl, hlt, p'⟩, fun x H' y => ?_⟩
    obtain ⟨e, y⟩ := y
    subst e
    exact hs i x σ _ (y xs q) p
  · have e : i = xs.length := by omega
    subst e
    exact .inl ⟨⟨xs, q, Nat.le_refl _⟩, hd σ H p⟩
theorem for_tup {K : PySem.W.Frag} {a : Addr} {xs : List V} {g : TG} {tb : TS} {D : Ends} {σ : St} {H : Hp} (Pv : Nat → St → Hp → Prop) (h0 : Pv 0 σ H) (hl : ∀ i σ H, i ≤ xs.length → Pv i σ H → SqT K H a xs)
    (hs : ∀ i x σ H, xs[i]? = some x → Pv i σ H → g x σ H fun σ2 H2 => tb { D with nx := Pv (i + 1), ct := Pv (i + 1), bk := D.nx } σ2 H2) (hd : ∀ σ H, Pv xs.length σ H → D.nx σ H) :
    ∃ W : Nat → Nat → St → Hp → Prop, (∃ m, W 0 m σ H) ∧ ∀ i m σ H, W i m σ H →
      ((Itt K a).stop i H ∧ D.nx σ H) ∨ ((Itt K a).go i H ∧ ∃ N : St → Hp → Prop, (∀ σ' H', N σ' H' → ∃ m', m' < m ∧ W (i + 1) m' σ' H') ∧ ∀ x H', (Itt K a).yld i H x H' → g x σ H' fun σ2 H2 => tb { D with nx := N, ct := N, bk := D.nx } σ2 H2) := by
  refine ⟨fun i m σ H => m = xs.length - i ∧ i ≤ xs.length ∧ Pv i σ H, ⟨xs.length, by simp, Nat.zero_le _, h0⟩, ?_⟩
  rintro i m σ H ⟨rfl, hi, p⟩
  have q := hl i σ H hi p
  by_cases hlt : i < xs.length
  · refine .inr ⟨⟨xs, xs[i], q, by simp [hlt]⟩, Pv (i + 1), fun σ' H' p' => ⟨xs.length - (i + 1), by omega, rfl, hlt, p'⟩, fun x H' y => ?_⟩
    obtain ⟨e, y⟩ := y
    subst e
    exact hs i x σ _ (y xs q) p
  · have e : i = xs.length := by omega
    subst e
    exact .inl ⟨⟨xs, q, Nat.le_refl _⟩, hd σ H p⟩
theorem for_range {lo : Int} {n : Nat} {g : TG} {tb : TS} {D : Ends} {σ : St} {H : Hp} (Pv : Nat → St → Hp → Prop) (h0 : Pv 0 σ H)
    (hs : ∀ i σ H, i < n → Pv i σ H → g (.int (lo + i)) σ H fun σ2 H2 => tb { D with nx := Pv (i + 1), ct := Pv (i + 1), bk := D.nx } σ2 H2) (hd : ∀ σ H, Pv n σ H → D.nx σ H) :
    ∃ W : Nat → Nat → St → Hp → Prop, (∃ m, W 0 m σ H) ∧ ∀ i m σ H, W i m σ H →
      ((Itr lo n).stop i H ∧ D.nx σ H) ∨ ((Itr lo n).go i H ∧ ∃ N : St → Hp → Prop, (∀ σ' H', N σ' H' → ∃ m', m' < m ∧ W (i + 1) m' σ' H') ∧ ∀ x H', (Itr lo n).yld i H x H' → g x σ H' fun σ2 H2 => tb { D with nx := N, ct := N, bk := D.nx } σ2 H2) := by
  refine ⟨fun i m σ H => m = n - i ∧ i ≤ n ∧ Pv i σ H, ⟨n, by simp, Nat.zero_le _, h0⟩, ?_⟩
  rintro i m σ H ⟨rfl, hi, p⟩
  by_cases hlt : i < n
  · refine .inr ⟨hlt, Pv (i + 1), fun σ' H' p' => ⟨n - (i + 1), by omega, rfl, hlt, p'⟩, fun x H' y => ?_⟩
    obtain ⟨e, y⟩ := y
    subst e y
    exact hs i σ _ hlt p
  · have e : i = n := by omega
    subst e
    exact .inl ⟨Nat.le_refl _, hd σ H p⟩
end L2
namespace L2
open PySem PySem.Spec PyProof.Rows
abbrev R2 := V → V → Hp → VK → Prop
def OpR (X : Cx) (f : Value → Value → Sem Value) (r : R2) : Prop :=
  ∀ (pins : List (Addr × Obj)) (s : Shared) (σ : St) (H : Hp) (x y : V) (v u : Value) (Q : VK), Inv X pins σ H s → RelV x v → RelV y u → r x y H Q →
    wpAny (model X.prog X.w) X.A (f v u) (EP X pins σ Q) X.xe s
def UnR (X : Cx) (f : Value → Sem Value) (r : V → Hp → VK → Prop) : Prop :=
  ∀ (pins : List (Addr × Obj)) (s : Shared) (σ : St) (H : Hp) (x : V) (v : Value) (Q : VK), Inv X pins σ H s → RelV x v → r x H Q →
    wpAny (model X.prog X.w) X.A (f v) (EP X pins σ Q) X.xe s
def CallR (X : Cx) (f : Value) (r : List V → Hp → VK → Prop) : Prop :=
  ∀ (pins : List (Addr × Obj)) (s : Shared) (σ : St) (H : Hp) (xs : List V) (us : List Value) (Q : VK), Inv X pins σ H s → Vals xs us → r xs H Q →
    wpAny (model X.prog X.w) X.A (call f us) (EP X pins σ Q) X.xe s
def TruR (X : Cx) (r : V → Hp → (Bool → Hp → Prop) → Prop) : Prop :=
  ∀ (pins : List (Addr × Obj)) (s : Shared) (σ : St) (H : Hp) (x : V) (v : Value) (Q : Bool → Hp → Prop), Inv X pins σ H s → RelV x v → r x H Q →
    wpAny (model X.prog X.w) X.A (truthy v) (TP X pins σ Q) X.xe s
def tOp (r : R2) (ta tb : TE) : TE := fun σ H Q => ta σ H fun x H1 => tb σ H1 fun y H2 => r x y H2 Q
def tUn (r : V → Hp → VK → Prop) (ta : TE) : TE := fun σ H Q => ta σ H fun x H1 => r x H1 Q
def rI (C : Int → Int → Prop) (g : Int → Int → V) : R2 := fun x y H Q => ∃ i j, x = .int i ∧ y = .int j ∧ C i j ∧ Q (g i j) H
def rI0 (g : Int → Int → V) : R2 := fun x y H Q => ∃ i j, x = .int i ∧ y = .int j ∧ Q (g i j) H
def rU (g : Int → V) : V → Hp → VK → Prop := fun x H Q => ∃ i, x = .int i ∧ Q (g i) H
section
variable {X : Cx} {a b c : Expr} {ta tb tc : TE} {pos : Pos}
theorem binT (ha : PE X a ta) (hb : PE X b tb) {pins : List (Addr × Obj)} {s : Shared} {σ : St} {H : Hp} {R : V → V → Hp → Prop} (I : Inv X pins σ H s)
    (h : ta σ H fun x H1 => tb σ H1 fun y H2 => R x y H2) {Q : Value → Shared → Prop} {f : Value → Value → Sem Value}
    (hf : ∀ v u s2 x y H2, Inv X pins σ H2 s2 → RelV x v → RelV y u → R x y H2 → wpAny (model X.prog X.w) X.A (f v u) Q X.xe s2) :
    wpAny (model X.prog X.w) X.A (eval a X.env) (fun v s₁ => wpAny (model X.prog X.w) X.A (eval b X.env) (fun u s₂ => wpAny (model X.prog X.w) X.A (f v u) Q X.xe s₂) X.xe s₁) X.xe s := by
  refine thn (ha pins s σ H _ I h) fun v s1 ⟨x, H1, I1, r1, q1⟩ => ?_
  refine thn (hb pins s1 σ H1 _ I1 q1) fun u s2 ⟨y, H2, I2, r2, q2⟩ => ?_
  exact hf v u s2 x y H2 I2 r1 r2 q2
theorem pe_op {op : Operator} {r : R2} (ho : OpR X (binaryOp op) r) (ha : PE X a ta) (hb : PE X b tb) : PE X (.BinOp a op b pos) (tOp r ta tb) := by
  intro pins s σ H Q I h
  exact wpAny_BinOp (binT ha hb I h fun v u s2 x y H2 I2 rx ry q => ho pins s2 σ H2 x y v u Q I2 rx ry q)
theorem pe_un {op : UnaryOp} {r : V → Hp → VK → Prop} (ho : UnR X (unaryOp op) r) (ha : PE X a ta) : PE X (.UnaryOp op a pos) (tUn r ta) := by
  intro pins s σ H Q I h
  exact UnaryOp_ (thn (ha pins s σ H _ I h) fun v s1 ⟨x, H1, I1, r1, q1⟩ => ho pins s1 σ H1 x v Q I1 r1 q1)
theorem opI {f : Value → Value → Sem Value} {C : Int → Int → Prop} {g : Int → Int → Int}
    (rule : ∀ (i j : Int) (t u : Tok) (s : Shared) (Q : Value → Shared → Prop) (E : Value → Shared → Prop), C i j → Q (.int (g i j) s.toks) { s with toks := s.toks + 1 } → wpAny (model X.prog X.w) X.A (f (.int i t) (.int j u)) Q E s) :
    OpR X f (rI C fun i j => .int (g i j)) := by
  intro pins s σ H x y v u Q I rx ry h
  obtain ⟨i, j, rfl, rfl, hc, q⟩ := h
  obtain ⟨t, rfl⟩ := rx
  obtain ⟨t', rfl⟩ := ry
  exact rule i j t t' s _ _ hc ⟨.int (g i j), H, I.tok _, ⟨_, rfl⟩, q⟩
theorem opI0 {f : Value → Value → Sem Value} {g : Int → Int → Int}
    (rule : ∀ (i j : Int) (t u : Tok) (s : Shared) (Q : Value → Shared → Prop) (E : Value → Shared → Prop), Q (.int (g i j) s.toks) { s with toks := s.toks + 1 } → wpAny (model X.prog X.w) X.A (f (.int i t) (.int j u)) Q E s) :
    OpR X f (rI0 fun i j => .int (g i j)) := by
  intro pins s σ H x y v u Q I rx ry h
  obtain ⟨i, j, rfl, rfl, q⟩ := h
  obtain ⟨t, rfl⟩ := rx
  obtain ⟨t', rfl⟩ := ry
  exact rule i j t t' s _ _ ⟨.int (g i j), H, I.tok _, ⟨_, rfl⟩, q⟩
theorem opB0 {f : Value → Value → Sem Value} {g : Int → Int → Bool}
    (rule : ∀ (i j : Int) (t u : Tok) (s : Shared) (Q : Value → Shared → Prop) (E : Value → Shared → Prop), Q (.bool (g i j)) s → wpAny (model X.prog X.w) X.A (f (.int i t) (.int j u)) Q E s) :
    OpR X f (rI0 fun i j => .bl (g i j)) := by
  intro pins s σ H x y v u Q I rx ry h
  obtain ⟨i, j, rfl, rfl, q⟩ := h
  obtain ⟨t, rfl⟩ := rx
  obtain ⟨t', rfl⟩ := ry
  exact rule i j t t' s _ _ ⟨.bl (g i j), H, I, rfl, q⟩
def CDiv (i j : Int) : Prop := 0 < j ∧ j < 1073741824
def CPow (i j : Int) : Prop := 0 ≤ j ∧ j ≤ 1000000 ∧ i.natAbs < 2 ^ 64
def CMul (i j : Int) : Prop := (-(2 ^ 64) < i ∧ i < 2 ^ 64) ∨ (-(2 ^ 64) < j ∧ j < 2 ^ 64)
theorem CMul.ok {i j : Int} (h : CMul i j) : IntMulOk i j := by
  rcases h with ⟨h1, h2⟩ | ⟨h1, h2⟩
  · exact .of_left (intBits_le_64 h1 h2)
  · exact .of_right (intBits_le_64 h1 h2)
theorem two_pow_nn (k : Nat) : (0 : Int) ≤ 2 ^ k := by
  rw [two_pow_cast]
  exact Int.natCast_nonneg _
theorem op_add : OpR X (binaryOp .Add) (rI0 fun i j => .int (i + j)) := opI0 fun _ _ _ _ _ _ _ q => add_int q
theorem op_sub : OpR X (binaryOp .Sub) (rI0 fun i j => .int (i - j)) := opI0 fun _ _ _ _ _ _ _ q => sub_int q
theorem op_mul : OpR X (binaryOp .Mult) (rI CMul fun i j => .int (i * j)) := opI fun _ _ _ _ _ _ _ hc q => mul_int q hc.ok
theorem op_fdiv : OpR X (binaryOp .FloorDiv) (rI CDiv fun i j => .int (i / j)) := opI fun i j _ _ _ _ _ hc q => by
  have h1 : (0 : Int) < j := hc.1
  have h2 : j < 1073741824 := hc.2
  exact floordiv_int (by omega) (by rw [Int.fdiv_eq_ediv_of_nonneg i (by omega)]; exact q) (.inl (PyProof.noPylong_small (by omega)))
theorem op_mod : OpR X (binaryOp .Mod) (rI (fun _ j => 0 < j) fun i j => .int (i % j)) := opI fun i j _ _ _ _ _ hc q => by
  have h1 : (0 : Int) < j := hc
  exact mod_int' (by omega) (by rw [Int.fmod_eq_emod_of_nonneg i (by omega)]; exact q)
theorem op_pow : OpR X (binaryOp .Pow) (rI CPow fun i j => .int (i ^ j.toNat)) := opI fun _ _ _ _ _ _ _ hc q => pow_int_small hc.1 hc.2.1 hc.2.2 q
theorem op_shl : OpR X (binaryOp .LShift) (rI CPow fun i j => .int (i * 2 ^ j.toNat)) := opI fun _ _ _ _ _ _ _ hc q => lshift_int_small hc.1 hc.2.1 hc.2.2 q
theorem op_and : OpR X (binaryOp .BitAnd) (rI0 fun i j => .int (Builtin.bitAnd i j)) := opI0 fun _ _ _ _ _ _ _ q => and_int q
theorem unI {f : Value → Sem Value} {g : Int → Int}
    (rule : ∀ (i : Int) (t : Tok) (s : Shared) (Q : Value → Shared → Prop) (E : Value → Shared → Prop), Q (.int (g i) s.toks) { s with toks := s.toks + 1 } → wpAny (model X.prog X.w) X.A (f (.int i t)) Q E s) :
    UnR X f (rU fun i => .int (g i)) := by
  intro pins s σ H x v Q I rx h
  obtain ⟨i, rfl, q⟩ := h
  obtain ⟨t, rfl⟩ := rx
  exact rule i t s _ _ ⟨.int (g i), H, I.tok _, ⟨_, rfl⟩, q⟩
theorem un_neg : UnR X (unaryOp .USub) (rU fun i => .int (-i)) := unI fun _ _ _ _ _ q => neg_int q
end
def scal : V → V → Bool
  | .non, .non => true | .non, .int _ => true | .int _, .non => true | .non, .bl _ => true | .bl _, .non => true | .non, .str _ => true | .str _, .non => true
  | .int _, .int _ => true | .bl _, .bl _ => true | .str _, .str _ => true | .byt _, .byt _ => true
  | .int _, .str _ => true | .str _, .int _ => true | .bl _, .str _ => true | .str _, .bl _ => true
  | _, _ => false
def rEq : R2 := fun x y H Q => scal x y = true ∧ Q (.bl (decide (x = y))) H
def rNe : R2 := fun x y H Q => scal x y = true ∧ Q (.bl (!decide (x = y))) H
theorem dec_int {i j : Int} : decide (V.int i = V.int j) = (i == j) := by
  rw [Bool.eq_iff_iff]
  simp
theorem dec_bl {i j : Bool} : decide (V.bl i = V.bl j) = (i == j) := by
  rw [Bool.eq_iff_iff]
  simp
theorem dec_str {i j : Str} : decide (V.str i = V.str j) = (i == j) := by
  rw [Bool.eq_iff_iff]
  simp
theorem dec_byt {i j : Array UInt8} : decide (V.byt i = V.byt j) = (i.toList == j.toList) := by
  rw [Bool.eq_iff_iff]
  cases i
  cases j
  simp
section
variable {X : Cx} {a b c : Expr} {ta tb tc : TE} {pos : Pos}
theorem fin_bl {pins : List (Addr × Obj)} {σ : St} {H : Hp} {s : Shared} {Q : VK} {k k' : Bool} (I : Inv X pins σ H s) (q : Q (.bl k) H) (e : k = k') : EP X pins σ Q (.bool k') s := by
  subst e
  exact ⟨.bl k, H, I, rfl, q⟩
theorem op_eq : OpR X (compareOp .Eq) rEq := by
  intro pins s σ H x y v u Q I rx ry h
  obtain ⟨hs, q⟩ := h
  cases x with
  | non =>
    cases rx
    cases y with
    | non => cases ry; exact PySem.EqNone.eq_none_none (fin_bl I q (by simp))
    | bl j => cases ry; exact PySem.EqNone.eq_none_bool (fin_bl I q (by simp))
    | int j => obtain ⟨t', rfl⟩ := ry; exact PySem.EqNone.eq_none_int (fin_bl I q (by simp))
    | str j => obtain ⟨t', rfl⟩ := ry; exact PySem.EqNone.eq_none_str (fin_bl I q (by simp))
    | _ => exact absurd (show false = true from hs) Bool.false_ne_true
  | bl i =>
    cases rx
    cases y with
    | non => cases ry; exact PySem.EqNone.eq_bool_none (fin_bl I q (by simp))
    | bl j => cases ry; exact eq_bool (fin_bl I q dec_bl)
    | str j => obtain ⟨t', rfl⟩ := ry; exact PySem.EqMixed.eq_bool_str (fin_bl I q (by simp))
    | _ => exact absurd (show false = true from hs) Bool.false_ne_true
  | int i =>
    obtain ⟨t, rfl⟩ := rx
    cases y with
    | non => cases ry; exact PySem.EqNone.eq_int_none (fin_bl I q (by simp))
    | int j => obtain ⟨t', rfl⟩ := ry; exact eq_int (fin_bl I q dec_int)
    | str j => obtain ⟨t', rfl⟩ := ry; exact PySem.EqMixed.eq_int_str (fin_bl I q (by simp))
    | _ => exact absurd (show false = true from hs) Bool.false_ne_true
  | str i =>
    obtain ⟨t, rfl⟩ := rx
    cases y with
    | non => cases ry; exact PySem.EqNone.eq_str_none (fin_bl I q (by simp))
    | bl j => cases ry; exact PySem.EqMixed.eq_str_bool (fin_bl I q (by simp))
    | int j => obtain ⟨t', rfl⟩ := ry; exact PySem.EqMixed.eq_str_int (fin_bl I q (by simp))
    | str j => obtain ⟨t', rfl⟩ := ry; exact eq_str (fin_bl I q dec_str)
    | _ => exact absurd (show false = true from hs) Bool.false_ne_true
  | byt i =>
    obtain ⟨t, rfl⟩ := rx
    cases y with
    | byt j => obtain ⟨t', rfl⟩ := ry; exact PySem.W.eq_bytes (fin_bl I q dec_byt)
    | _ => exact absurd (show false = true from hs) Bool.false_ne_true
  | _ => cases y <;> exact absurd (show false = true from hs) Bool.false_ne_true
theorem op_ne : OpR X (compareOp .NotEq) rNe := by
  intro pins s σ H x y v u Q I rx ry h
  obtain ⟨hs, q⟩ := h
  cases x with
  | non =>
    cases rx
    cases y with
    | non => cases ry; exact PySem.EqNone.ne_none_none (fin_bl I q (by simp))
    | bl j => cases ry; exact PySem.EqNone.ne_none_bool (fin_bl I q (by simp))
    | int j => obtain ⟨t', rfl⟩ := ry; exact PySem.EqNone.ne_none_int (fin_bl I q (by simp))
    | str j => obtain ⟨t', rfl⟩ := ry; exact PySem.EqNone.ne_none_str (fin_bl I q (by simp))
    | _ => exact absurd (show false = true from hs) Bool.false_ne_true
  | bl i =>
    cases rx
    cases y with
    | non => cases ry; exact PySem.EqNone.ne_bool_none (fin_bl I q (by simp))
    | bl j => cases ry; exact ne_bool (fin_bl I q (congrArg not dec_bl))
    | str j => obtain ⟨t', rfl⟩ := ry; exact PySem.EqMixed.ne_bool_str (fin_bl I q (by simp))
    | _ => exact absurd (show false = true from hs) Bool.false_ne_true
  | int i =>
    obtain ⟨t, rfl⟩ := rx
    cases y with
    | non => cases ry; exact PySem.EqNone.ne_int_none (fin_bl I q (by simp))
    | int j => obtain ⟨t', rfl⟩ := ry; exact ne_int (fin_bl I q (congrArg not dec_int))
    | str j => obtain ⟨t', rfl⟩ := ry; exact PySem.EqMixed.ne_int_str (fin_bl I q (by simp))
    | _ => exact absurd (show false = true from hs) Bool.false_ne_true
  | str i =>
    obtain ⟨t, rfl⟩ := rx
    cases y with
    | non => cases ry; exact PySem.EqNone.ne_str_none (fin_bl I q (by simp))
    | bl j => cases ry; exact PySem.EqMixed.ne_str_bool (fin_bl I q (by simp))
    | int j => obtain ⟨t', rfl⟩ := ry; exact PySem.EqMixed.ne_str_int (fin_bl I q (by simp))
    | str j => obtain ⟨t', rfl⟩ := ry; exact ne_str (fin_bl I q (congrArg not dec_str))
    | _ => exact absurd (show false = true from hs) Bool.false_ne_true
  | byt i =>
    obtain ⟨t, rfl⟩ := rx
    cases y with
    | byt j => obtain ⟨t', rfl⟩ := ry; exact PySem.W.ne_bytes (fin_bl I q (congrArg not dec_byt))
    | _ => exact absurd (show false = true from hs) Bool.false_ne_true
  | _ => cases y <;> exact absurd (show false = true from hs) Bool.false_ne_true
theorem op_lt : OpR X (compareOp .Lt) (rI0 fun i j => .bl (decide (i < j))) := opB0 fun _ _ _ _ _ _ _ q => lt_int q
theorem op_gt : OpR X (compareOp .Gt) (rI0 fun i j => .bl (decide (j < i))) := opB0 fun _ _ _ _ _ _ _ q => gt_int q
theorem op_ge : OpR X (compareOp .GtE) (rI0 fun i j => .bl (decide (j ≤ i))) := opB0 fun _ _ _ _ _ _ _ q => ge_int q
theorem op_isN : OpR X (compareOp .Is) (fun x y H Q => y = .non ∧ Q (.bl (decide (x = .non))) H) := by
  intro pins s σ H x y v u Q I rx ry h
  obtain ⟨rfl, q⟩ := h
  cases ry
  refine is_none_gen (fin_bl I q ?_)
  cases x <;> first
    | (cases rx; rfl)
    | (obtain ⟨t, rfl⟩ := rx; rfl)
theorem op_notN : OpR X (compareOp .IsNot) (fun x y H Q => y = .non ∧ Q (.bl (!decide (x = .non))) H) := by
  intro pins s σ H x y v u Q I rx ry h
  obtain ⟨rfl, q⟩ := h
  cases ry
  refine isnot_none_gen (fin_bl I q ?_)
  cases x <;> first
    | (cases rx; rfl)
    | (obtain ⟨t, rfl⟩ := rx; rfl)
theorem nomark (b : Expr) {op : CmpOp} (h : op ≠ .In := by decide) (h2 : op ≠ .NotIn := by decide) : behindInMarks op b = false := by
  have e1 : (op == CmpOp.In) = false := by cases op <;> first | rfl | exact absurd rfl h
  have e2 : (op == CmpOp.NotIn) = false := by cases op <;> first | rfl | exact absurd rfl h2
  cases b <;> simp [behindInMarks, e1, e2]
theorem pe_cmpR {op : CmpOp} {r : R2} (ho : OpR X (compareOp op) r) (ha : PE X a ta) (hb : PE X b tb) (hm : behindInMarks op b = false) : PE X (.Compare a [op] [b] pos) (tOp r ta tb) := by
  intro pins s σ H Q I h
  exact wpAny_Compare1 (binT ha hb I h fun v u s2 x y H2 I2 rx ry q => ho pins s2 σ H2 x y v u Q I2 rx ry q) hm
def tTest (t : TE) : TT := fun σ H Q => t σ H fun x H' => ∃ k, x = .bl k ∧ Q k H'
theorem pt_cmpR {op : CmpOp} {r : R2} (ho : OpR X (compareOp op) r) (ha : PE X a ta) (hb : PE X b tb) (hm : behindInMarks op b = false) : PT X (.Compare a [op] [b] pos) (tTest (tOp r ta tb)) := by
  intro pins s σ H Q I h
  refine wpAny_isTrue_Compare1 (thn (ha pins s σ H _ I h) fun v s1 ⟨x, H1, I1, r1, q1⟩ => thn (hb pins s1 σ H1 _ I1 q1) fun u s2 ⟨y, H2, I2, r2, q2⟩ =>
    thn (ho pins s2 σ H2 x y v u _ I2 r1 r2 q2) fun c s3 ⟨z, H3, I3, r3, k, e, q3⟩ => ?_) hm
  subst e
  cases r3
  exact wpAny_truthy_bool ⟨H3, I3, q3⟩
def TruV (K : PySem.W.Frag) (x : V) (H : Hp) (k : Bool) : Prop :=
  match x with
  | .non => k = false
  | .bl b => k = b
  | .int i => k = (i != 0)
  | .str y => y.length ≤ sizeLine ∧ k = ((y.length : Int) != 0)
  | .byt y => y.size ≤ sizeLine ∧ k = ((y.size : Int) != 0)
  | .ref p => (∃ xs, SqL K H p xs ∧ k = !xs.isEmpty) ∨ (∃ xs, SqT K H p xs ∧ k = !xs.isEmpty) ∨ ∃ kvs, H p = some (.dK kvs) ∧ k = !kvs.isEmpty
  | _ => False
theorem isEmpty_kv {κ : Type} {kvs : List (κ × V)} {vs : List (κ × Value)} (r : KV kvs vs) : (!vs.isEmpty) = !kvs.isEmpty := by
  cases r <;> rfl
theorem isEmpty_of {xs : List V} {its : List Value} (r : Vals xs its) : (!its.toArray.isEmpty) = !xs.isEmpty := by
  cases r <;> simp
theorem line63 : (sizeLine : Nat) < 2 ^ 63 := by rw [sizeLine_eq]; decide
theorem tru_ok : TruR X (fun x H Q => ∃ k, TruV X.K x H k ∧ Q k H) := by
  intro pins s σ H x v Q I rx h
  obtain ⟨k, e, q⟩ := h
  have hl := line63
  have hs : sizeLine = 16777216 := sizeLine_eq
  cases x with
  | non =>
    cases rx
    have e' : k = false := e
    subst e'
    exact truthy_none ⟨H, I, q⟩
  | bl b =>
    cases rx
    have e' : k = b := e
    subst e'
    exact wpAny_truthy_bool ⟨H, I, q⟩
  | int i =>
    obtain ⟨t, rfl⟩ := rx
    have e' : k = (i != 0) := e
    subst e'
    exact PySem.P.truthy_int ⟨H, I, q⟩
  | str y =>
    obtain ⟨t, rfl⟩ := rx
    obtain ⟨hy, e'⟩ : y.length ≤ sizeLine ∧ k = ((y.length : Int) != 0) := e
    subst e'
    exact PySem.P.truthy_str (by omega) ⟨H, I.tok _, q⟩
  | byt y =>
    obtain ⟨t, rfl⟩ := rx
    obtain ⟨hy, e'⟩ : y.size ≤ sizeLine ∧ k = ((y.size : Int) != 0) := e
    subst e'
    exact PySem.W.truthy_bytes (by omega) ⟨H, I.tok _, q⟩
  | ref p =>
    cases rx
    have e' : (∃ xs, SqL X.K H p xs ∧ k = !xs.isEmpty) ∨ (∃ xs, SqT X.K H p xs ∧ k = !xs.isEmpty) ∨ ∃ kvs, H p = some (.dK kvs) ∧ k = !kvs.isEmpty := e
    rcases e' with ⟨xs, hx, e'⟩ | ⟨xs, hx, e'⟩ | ⟨kvs, hx, e'⟩
    · subst e'
      obtain ⟨its, r, pl, hz⟩ := I.list hx
      have hlen := r.length
      exact wpAny_truthy_list pl.isList (by simp only [List.size_toArray]; omega) ⟨H, I.tok _, by rw [isEmpty_of r]; exact q⟩
    · subst e'
      obtain ⟨its, r, pl, hz⟩ := I.tuple hx
      have hlen := r.length
      exact truthy_tuple pl (by simp only [List.size_toArray]; omega) ⟨H, I.tok _, by rw [isEmpty_of r]; exact q⟩
    · subst e'
      obtain ⟨hz, hS, vs, r, m⟩ : kvs.length ≤ sizeLine ∧ (p == sysModules) = false ∧ ∃ vs, KV kvs vs ∧ s.heap.DictOf (mixKind X.prog X.w) p vs := I.hok p _ hx
      have hlen : kvs.length = vs.length := Paired.length r
      exact wpAny_truthy_dict hS m (by omega) ⟨H, I.tok _, by rw [isEmpty_kv r]; exact q⟩
  | _ => exact (show False from e).elim
theorem pt_truth (ha : PE X a ta) (he : ∀ whole, isTrue a X.env whole = (do let v ← whole; standAt a.pos; holding [v] (truthy v))) :
    PT X a (fun σ H Q => ta σ H fun x H' => ∃ k, TruV X.K x H' k ∧ Q k H') := by
  intro pins s σ H Q I h
  exact isTrue_plain (thn (ha pins s σ H _ I h) fun v s1 ⟨x, H1, I1, r1, q1⟩ => tru_ok pins s1 σ H1 x v Q I1 r1 q1) (he _)
theorem vals1 {x : V} {us : List Value} (r : Vals [x] us) : ∃ u, us = [u] ∧ RelV x u := by
  cases r with
  | cons r1 r2 => cases r2; exact ⟨_, rfl, r1⟩
theorem vals2 {x y : V} {us : List Value} (r : Vals [x, y] us) : ∃ u w', us = [u, w'] ∧ RelV x u ∧ RelV y w' := by
  cases r with
  | cons r1 r2 =>
    cases r2 with
    | cons r3 r4 => cases r4; exact ⟨_, _, rfl, r1, r3⟩
end
end L2
namespace L2
open PySem PySem.Spec PyProof.Rows
structure ObjM (h : Heap) (x dx C : Addr) (mA : Str → Option Value) : Prop where
  obj : h.get? x = some (PySem.W.instObj C dx)
  ns : h.Ns1 dx mA
  ne : dx ≠ x
theorem lookIn_ns {h : Heap} {dx : Addr} {mA : Str → Option Value} (n : h.Ns1 dx mA) : ∃ od, h.get? dx = some od ∧ ∀ name, PySem.W.lookIn name od = some (mA name) := by
  obtain ⟨o, es, ep, ho, hd, hk, _, hm⟩ := n
  refine ⟨o, ho, fun name => ?_⟩
  have e := hm name
  unfold nsFind findBy at e
  rw [← Array.find?_toList] at e
  unfold PySem.W.lookIn
  rw [hd]
  dsimp only
  split
  · rename_i y q
    rw [q] at e
    exact congrArg some e
  · rename_i q
    rw [q] at e
    have a : es.toList.any (·.refKey) = false := by
      rw [List.any_eq_false]
      intro y hy
      obtain ⟨z, t, hkey⟩ := hk y (Array.mem_toList_iff.mp hy)
      simp [DictEntry.refKey, hkey]
    have a' : ¬ es.toList.any (·.refKey) = true := by rw [a]; exact Bool.false_ne_true
    rw [if_neg a']
    exact congrArg some e
theorem ObjM.look {h : Heap} {x dx C : Addr} {mA : Str → Option Value} (I : ObjM h x dx C mA) : ∃ od, PySem.W.InstAt h x (PySem.W.instObj C dx) C (some od) ∧ ∀ name, PySem.W.lookIn name od = some (mA name) :=
  let ⟨od, ho, hl⟩ := lookIn_ns I.ns
  ⟨od, ⟨I.obj, rfl, rfl, ho⟩, hl⟩
section
variable {prog : Program} {w : World} {A : Around} {E : Value → Shared → Prop} {s : Shared} {K : PySem.W.Frag} {x dx C f : Addr} {mA : Str → Option Value} {name : Str} {v : Value}
theorem get_map {expr : Bool} {Q : Value → Shared → Prop} (X : K.In s.heap) (I : ObjM s.heap x dx C mA) (hg : PySem.W.plainGet K C name = true) (hh : PySem.W.hasDictIn K C = true)
    (ha : PySem.W.findIn K (.ref C) name = some none) (hv : mA name = some v) (hv' : PySem.W.handedIn v = true) (h : Q v { s with toks := s.toks + 1 }) :
    wpAny (model prog w) A (getAttr (.ref x) name expr) Q E s := by
  obtain ⟨od, J, hl⟩ := I.look
  exact PySem.W.get_value X J (PySem.W.plainGet_of hg).1 (PySem.W.findObj_own hh ha rfl (by rw [hl, hv])) hv' h
theorem get_meth {pl : Sem Bool} {Q : Value × List Value → Shared → Prop} (X : K.In s.heap) (I : ObjM s.heap x dx C mA) (hg : PySem.W.plainGet K C name = true)
    (hf : PySem.W.findIn K (.ref C) name = some (some (.ref f))) (ht : PySem.W.isFn K (.ref f) = true) (hv : mA name = none) (h : Q (.ref f, [.ref x]) s) :
    wpAny (model prog w) A (getMethod (.ref x) name pl) Q E s := by
  obtain ⟨od, J, hl⟩ := I.look
  exact PySem.W.method_fn X J (PySem.W.plainGet_of hg).1 (PySem.W.plainGet_of hg).2 hf (beq_iff_eq.mp ht) (by show (PySem.W.lookIn name od).map (·.isSome) = some false; rw [hl, hv]; rfl) h
theorem set_map {ns : List Str} {Q : Unit → Shared → Prop} (X : K.In s.heap) (I : ObjM s.heap x dx C mA)
    (hs : PySem.W.findIn K (.ref C) "__setattr__" = some (some (.builtin "object.__setattr__"))) (hp : PySem.W.plainOver K C = true) (ht : PySem.W.takerIn K C name = some none) (hh : PySem.W.hasDictIn K C = true)
    (hw : PySem.Within mA ns) (hsz : ns.length ≤ sizeLine)
    (h : ∀ h', ObjM h' x dx C (fun y => if y = name then some v else mA y) → Heap.SameBut dx s.heap h' → Q () { s with heap := h', toks := s.toks + 2 }) :
    wpAny (model prog w) A (setAttr (.ref x) name v) Q E s := by
  obtain ⟨od, J, hl⟩ := I.look
  refine PySem.W.set_plain X J hs (PySem.W.osa_open (s := { s with toks := s.toks + 1 }) (r := none) X J hp ht fun b => ?_)
  obtain ⟨cd, hc, hd'⟩ := PySem.W.any_some hh
  have hx : s.heap.get? x = some ⟨.ref C, some dx, .plain, #[]⟩ := I.obj
  refine wpAny_bind (wpAny_pure (wpAny_bind (wpAny_bind (wpAny_loadPart hx (wpAny_bind (PySem.W.Looks.here (s := { s with toks := s.toks + 1 }) (PySem.W.looks_clsIn X hc) ?_))))))
  rw [hd']
  refine wpAny_pure (a := some dx) (wpAny_bind (wpAny_pure (wpAny_bind ?_)))
  refine wpAny_nsSet1 (s := { s with toks := s.toks + 1 }) I.ns fun h' hn2 hs2 => ?_
  obtain ⟨oD, esD, epD, hoD, hdD, hcD⟩ := hn2.count (PySem.Within.cons name v hw)
  refine wpAny_bind (wpAny_lookBehind hoD (by rw [hdD]; exact pastItsLine_dict (Nat.le_trans hcD (by rw [List.length_cons]; omega))) ?_)
  exact wpAny_pure (h _ ⟨(hs2.2 _ (Ne.symm I.ne)).trans I.obj, hn2, I.ne⟩ hs2)
theorem make_map {R : Result → Shared → Prop} {vs : List Value} {kw : List (Str × Value)} (X : K.In s.heap) (hm : PySem.W.makesIn K C = true)
    (hi : PySem.W.findIn K (.ref C) "__init__" = some (some (.ref f))) (hf : PySem.W.typeIn K (.ref f) = some (.type "function"))
    (h : codeAny (model prog w) (A.under (.builtin "type.__call__" ⟨.ref C :: vs, kw⟩)) (.call (.ref f) ⟨.ref (s.heap.objs.size + 1) :: vs, kw⟩) (PySem.W.InitBack (s.heap.objs.size + 1) R)
      { s with heap := (s.heap.push PySem.W.emptyDict).push (PySem.W.instObj C s.heap.objs.size) }) :
    codeAny (model prog w) A (.call (.ref C) ⟨vs, kw⟩) R s := by
  obtain ⟨hh, g, d, t, os⟩ := s
  exact PySem.W.make_core (PySem.W.makes_of X hm) (PySem.W.looks_findIn X hi) (fun self => PySem.W.bind_fn X self hf) (.inl rfl) h
end
def putF (f : Str) (v : V) : List (Str × V) → List (Str × V)
  | [] => [(f, v)]
  | (g, x) :: r => if g = f then (g, v) :: r else (g, x) :: putF f v r
theorem lookup_putF (f g : Str) (v : V) : ∀ fs : List (Str × V), (putF f v fs).lookup g = if g = f then some v else fs.lookup g
  | [] => by
    show List.lookup g [(f, v)] = _
    by_cases h : g = f
    · have hb : (g == f) = true := beq_iff_eq.mpr h
      simp only [List.lookup, hb, if_pos h]
    · have hb : (g == f) = false := beq_eq_false_iff_ne.mpr h
      simp only [List.lookup, hb, if_neg h]
  | (k, x) :: r => by
    have ih := lookup_putF f g v r
    rw [show putF f v ((k, x) :: r) = (if k = f then (k, v) :: r else (k, x) :: putF f v r) from rfl]
    by_cases hk : k = f
    · rw [if_pos hk]
      by_cases h : g = k
      · have hb : (g == k) = true := beq_iff_eq.mpr h
        simp only [List.lookup, hb, if_pos (h.trans hk)]
      · have hb : (g == k) = false := beq_eq_false_iff_ne.mpr h
        simp only [List.lookup, hb, if_neg (fun e : g = f => h (e.trans hk.symm))]
    · rw [if_neg hk]
      by_cases h : g = k
      · have hb : (g == k) = true := beq_iff_eq.mpr h
        simp only [List.lookup, hb, if_neg (fun e : g = f => hk (h.symm.trans e))]
      · have hb : (g == k) = false := beq_eq_false_iff_ne.mpr h
        simp only [List.lookup, hb]
        exact ih
theorem keys_putF (f : Str) (v : V) : ∀ fs : List (Str × V), f ∈ (putF f v fs).map (·.1) ∧ ∀ g, g ∈ fs.map (·.1) → g ∈ (putF f v fs).map (·.1)
  | [] => ⟨by simp [putF], fun g h => by simp at h⟩
  | (k, x) :: r => by
    obtain ⟨i1, i2⟩ := keys_putF f v r
    rw [show putF f v ((k, x) :: r) = (if k = f then (k, v) :: r else (k, x) :: putF f v r) from rfl]
    by_cases hk : k = f
    · rw [if_pos hk]
      subst hk
      exact ⟨by simp, fun g h => by simpa using h⟩
    · rw [if_neg hk]
      refine ⟨?_, fun g h => ?_⟩
      · rw [List.map_cons]
        exact List.mem_cons_of_mem _ i1
      · rw [List.map_cons] at h ⊢
        rcases List.mem_cons.mp h with e | e
        · exact List.mem_cons.mpr (.inl e)
        · exact List.mem_cons_of_mem _ (i2 g e)
theorem length_putF (f : Str) (v : V) : ∀ fs : List (Str × V), (putF f v fs).length ≤ fs.length + 1
  | [] => by simp [putF]
  | (k, x) :: r => by
    have ih := length_putF f v r
    rw [show putF f v ((k, x) :: r) = (if k = f then (k, v) :: r else (k, x) :: putF f v r) from rfl]
    by_cases hk : k = f
    · rw [if_pos hk, List.length_cons, List.length_cons]; omega
    · rw [if_neg hk, List.length_cons, List.length_cons]; omega
theorem RelO.some_of {v : V} {o : Option Value} (r : RelO (some v) o) : ∃ u, o = some u ∧ RelV v u := by
  cases o with
  | none => exact (show False from r).elim
  | some u => exact ⟨u, rfl, r⟩
theorem RelO.none_of {o : Option Value} (r : RelO none o) : o = none := by
  cases o with
  | none => rfl
  | some u => exact (show False from r).elim
theorem handed_of {v : V} {u : Value} (r : RelV v u) : PySem.W.handedIn u = true := by
  cases v with
  | non => cases (show u = Value.none from r); rfl
  | bl b => cases (show u = Value.bool b from r); rfl
  | int i => obtain ⟨t, e⟩ := (show ∃ t, u = Value.int i t from r); cases e; rfl
  | str x => obtain ⟨t, e⟩ := (show ∃ t, u = Value.str x t from r); cases e; rfl
  | byt b => obtain ⟨t, e⟩ := (show ∃ t, u = Value.bytes b t from r); cases e; rfl
  | flt b => obtain ⟨t, e⟩ := (show ∃ t, u = Value.float b t from r); cases e; rfl
  | ref a => cases (show u = Value.ref a from r); rfl
  | ty n => cases (show u = Value.type n from r); rfl
section
variable {P : Program} {w : World} {H H' : Hp} {h h' : Heap} {a C dx : Addr} {fs fs' : List (Str × V)}
theorem ins_get (hok : HOk P w H h) (e : H a = some (.ins C dx fs)) : ∃ mA, ObjM h a dx C mA ∧ (∀ f, RelO (fs.lookup f) (mA f)) ∧ PySem.Within mA (fs.map (·.1)) ∧ fs.length ≤ 1000 ∧ H dx = some (.own a) := by
  obtain ⟨d, z, ne, ob, mA, n, r, q⟩ := (show ObjOk P w H h a (.ins C dx fs) from hok a _ e)
  exact ⟨mA, ⟨ob, n, ne⟩, r, q, z, d⟩
end
structure Cls (K : PySem.W.Frag) (C : Addr) : Prop where
  pg : PySem.W.plainGet K C Str.empty = true
  hd : PySem.W.hasDictIn K C = true
  po : PySem.W.plainOver K C = true
  sa : PySem.W.findIn K (.ref C) "__setattr__" = some (some (.builtin "object.__setattr__"))
theorem Cls.get {K : PySem.W.Frag} {C : Addr} (c : Cls K C) (f : Str) : PySem.W.plainGet K C f = true := c.pg
def NoAttr (K : PySem.W.Frag) (C : Addr) (f : Str) : Prop := PySem.W.findIn K (.ref C) f = some none
theorem NoAttr.taker {K : PySem.W.Frag} {C : Addr} {f : Str} (n : NoAttr K C f) : PySem.W.takerIn K C f = some none := by
  unfold PySem.W.takerIn
  rw [show PySem.W.findIn K (.ref C) f = some none from n]
  rfl
structure Meth (K : PySem.W.Frag) (C : Addr) (m : Str) (f : Addr) : Prop where
  at_ : PySem.W.findIn K (.ref C) m = some (some (.ref f))
  fn : PySem.W.isFn K (.ref f) = true
  kp : PySem.W.keepIn K (.ref f) = true
section
variable {X : Cx} {pins : List (Addr × Obj)} {σ : St} {H : Hp} {s : Shared} {a C dx : Addr} {fs : List (Str × V)} {f : Str} {v : V} {A : Around} {E : Value → Shared → Prop}
theorem getattr_ok {b : Bool} {Q : Value → Shared → Prop} (I : Inv X pins σ H s) (e : H a = some (.ins C dx fs)) (c : Cls X.K C) (n : NoAttr X.K C f) (l : fs.lookup f = some v)
    (h : ∀ u s', Inv X pins σ H s' → RelV v u → Q u s') : wpAny (model X.prog X.w) A (getAttr (.ref a) f b) Q E s := by
  obtain ⟨mA, O, r, _, _, _⟩ := ins_get I.hok e
  obtain ⟨u, hu, ru⟩ := RelO.some_of (v := v) (o := mA f) (by rw [← l]; exact r f)
  exact get_map I.kIn O (c.get f) c.hd n hu (handed_of ru) (h u _ (I.tok _) ru)
theorem getmeth_ok {m : Str} {g : Addr} {pl : Sem Bool} {Q : Value × List Value → Shared → Prop} (I : Inv X pins σ H s) (e : H a = some (.ins C dx fs)) (c : Cls X.K C) (k : Meth X.K C m g) (l : fs.lookup m = none)
    (h : Q (.ref g, [.ref a]) s) : wpAny (model X.prog X.w) A (getMethod (.ref a) m pl) Q E s := by
  obtain ⟨mA, O, r, _, _, _⟩ := ins_get I.hok e
  have hn : mA m = none := RelO.none_of (by rw [← l]; exact r m)
  exact get_meth I.kIn O (c.get m) k.at_ k.fn hn h
theorem setattr_ok {y : V} {u : Value} {Q : Unit → Shared → Prop} (I : Inv X pins σ H s) (e : H a = some (.ins C dx fs)) (c : Cls X.K C) (n : NoAttr X.K C f) (hl : fs.length < 1000) (ry : RelV y u)
    (h : ∀ s', Inv X pins σ (upd H a (.ins C dx (putF f y fs))) s' → Q () s') : wpAny (model X.prog X.w) A (setAttr (.ref a) f u) Q E s := by
  obtain ⟨mA, O, r, wi, _, ho⟩ := ins_get I.hok e
  have hz : (fs.map (·.1)).length ≤ sizeLine := by rw [List.length_map, sizeLine_eq]; omega
  refine set_map I.kIn O c.sa c.po n.taker c.hd wi hz fun h' O' sb => h _ ?_
  have hd : ∃ o, h'.get? dx = some o := let ⟨o, _, _, e', _⟩ := O'.ns; ⟨o, e'⟩
  refine I.write (x := a) (e := dx) (by rw [e]; exact True.intro) (.inr ho) (fun b q hb z => (sb.2 b hb).trans z) hd ?_
  refine ⟨by rw [upd_ne O.ne]; exact ho, ?_, O.ne, O'.obj, _, O'.ns, fun g => ?_, fun g hg => ?_⟩
  · have := length_putF f y fs; omega
  · show RelO ((putF f y fs).lookup g) (if g = f then some u else mA g)
    rw [lookup_putF]
    by_cases q : g = f
    · rw [if_pos q, if_pos q]; exact ry
    · rw [if_neg q, if_neg q]; exact r g
  · by_cases q : g = f
    · rw [q]; exact (keys_putF f y fs).1
    · refine (keys_putF f y fs).2 g (wi g fun z => hg ?_)
      show (if g = f then some u else mA g) = none
      rw [if_neg q]; exact z
theorem Inv.made (I : Inv X pins σ H s) : Inv X pins σ (upd (upd H s.heap.objs.size (.own (s.heap.objs.size + 1))) (s.heap.objs.size + 1) (.ins C s.heap.objs.size []))
    { s with heap := (s.heap.push PySem.W.emptyDict).push (PySem.W.instObj C s.heap.objs.size) } := by
  have e1 : (s.heap.push PySem.W.emptyDict).get? s.heap.objs.size = some PySem.W.emptyDict := Heap.get?_push_size s.heap rfl
  have e2 : ((s.heap.push PySem.W.emptyDict).push (PySem.W.instObj C s.heap.objs.size)).get? (s.heap.objs.size + 1) = some (PySem.W.instObj C s.heap.objs.size) := by
    have := Heap.get?_push_size (s.heap.push PySem.W.emptyDict) (o := PySem.W.instObj C s.heap.objs.size) rfl
    rwa [Heap.size_push] at this
  have e3 : (s.heap.push PySem.W.emptyDict).Ns s.heap.objs.size (fun _ => none) := ⟨PySem.W.emptyDict, #[], _, e1, rfl, (fun e he => absurd he (by simp)), fun _ => rfl⟩
  have I1 := I.laid (a := s.heap.objs.size) (o := .own (s.heap.objs.size + 1)) (h' := s.heap.push PySem.W.emptyDict) (t' := s.toks) (fun b u q => Heap.get?_push_of_some _ q) (Nat.le_refl _) ⟨_, e1⟩
  refine I1.laid (a := s.heap.objs.size + 1) (o := .ins C s.heap.objs.size []) (t' := s.toks) (fun b u q => Heap.get?_push_of_some _ q) (Nat.le_of_eq (Heap.size_push _ _)) ?_
  have ne : s.heap.objs.size ≠ s.heap.objs.size + 1 := Nat.ne_of_lt (Nat.lt_succ_self _)
  refine ⟨by rw [upd_ne ne, upd_same], Nat.zero_le _, ne, e2, fun _ => none, (Heap.Ns1.of_empty e3).at fun o q => Heap.get?_push_of_some _ q, fun _ => True.intro, fun y hy => absurd rfl hy⟩
theorem attr_of {prog : Program} {w : World} {env : Env} {e : Expr} {f : Str} {pos : Pos} {s : Shared} {Q : Value → Shared → Prop} (hb : attributeBase e f env (eval e env) = eval e env)
    (h : wpAny (model prog w) A (eval e env) (fun o s₁ => wpAny (model prog w) A (getAttr o f true) Q E s₁) E s) : wpAny (model prog w) A (eval (.Attribute e f pos) env) Q E s :=
  Attribute_any_ h (by rw [arm_eval_Attribute, hb])
end
def tFld (K : PySem.W.Frag) (ta : TE) (f : Str) : TE := fun σ H Q => ta σ H fun x H1 => ∃ a C dx fs v, x = .ref a ∧ H1 a = some (.ins C dx fs) ∧ Cls K C ∧ NoAttr K C f ∧ fs.lookup f = some v ∧ Q v H1
def sFld (K : PySem.W.Frag) (ta tv : TE) (f : Str) : TS := fun D σ H => tv σ H fun y H1 => ta σ H1 fun x H2 => ∃ a C dx fs, x = .ref a ∧ H2 a = some (.ins C dx fs) ∧ Cls K C ∧ NoAttr K C f ∧ fs.length < 1000 ∧
  D.nx σ (upd H2 a (.ins C dx (putF f y fs)))
section
variable {X : Cx} {o e value : Expr} {f : Str} {pos pos' tpos : Pos} {ta tv : TE}
theorem pe_fld (he : PE X e ta) (hb : attributeBase e f X.env (eval e X.env) = eval e X.env) : PE X (.Attribute e f pos) (tFld X.K ta f) := by
  intro pins s σ H Q I h
  refine attr_of hb (thn (he pins s σ H _ I h) fun u s1 ⟨x, H1, I1, rx, a, C, dx, fs, v, ex, ea, c, n, l, q⟩ => ?_)
  subst ex
  obtain rfl : u = Value.ref a := rx
  exact getattr_ok I1 ea c n l fun u' s2 I2 ru => ⟨v, H1, I2, ru, q⟩
theorem ps_fld (ha : PE X o ta) (hv : PE X value tv) (hs : swapsWith value (some (.Attribute o f pos')) pos.line X.env = pure false) : PS X (.Assign [.Attribute o f pos'] value pos) (sFld X.K ta tv f) := by
  intro pins s σ H D I h
  refine plainObj_wpAny_Assign_Attribute (thn (hv pins s σ H _ I h) fun u s1 ⟨y, H1, I1, ry, q⟩ => thn (ha pins s1 σ H1 _ I1 q) fun ov s2 ⟨x, H2, I2, rx, a, C, dx, fs, ex, ea, c, n, l, q2⟩ => ?_) hs
  subst ex
  obtain rfl : ov = Value.ref a := rx
  exact setattr_ok I2 ea c n l ry fun s3 I3 => ⟨σ, _, I3, q2⟩
end
section
variable {X : Cx} {pins : List (Addr × Obj)} {σ : St} {H : Hp} {s : Shared} {A : Around} {E : Value → Shared → Prop} {Q : Value → Shared → Prop} {c : Value} {b : Bool}
inductive TyOf (K : PySem.W.Frag) (H : Hp) : V → Value → Prop where
  | non : TyOf K H .non (.type "NoneType")
  | bl (x : Bool) : TyOf K H (.bl x) (.type "bool")
  | int (i : Int) : TyOf K H (.int i) (.type "int")
  | str (x : Str) : TyOf K H (.str x) (.type "str")
  | flt (x : UInt64) : TyOf K H (.flt x) (.type "float")
  | lst {a : Addr} {xs : List V} (e : H a = some (.lst xs)) : TyOf K H (.ref a) (.type "list")
  | frz {a : Addr} {o : Obj} {xs : List V} (e : H a = some (.frz o (.lst xs))) : TyOf K H (.ref a) (.type "list")
  | tup {a : Addr} {xs : List V} (e : H a = some (.tup xs)) : TyOf K H (.ref a) (.type "tuple")
  | dK {a : Addr} {kvs : List (Key × V)} (e : H a = some (.dK kvs)) : TyOf K H (.ref a) (.type "dict")
  | dT {a : Addr} {kvs : List (List Key × V)} (e : H a = some (.dT kvs)) : TyOf K H (.ref a) (.type "dict")
  | ins {a C dx : Addr} {fs : List (Str × V)} (e : H a = some (.ins C dx fs)) (cl : Cls K C) (ha : PySem.W.findIn K (.ref C) "__class__" = some (some (.builtin "object.__class__")))
      (hn : PySem.W.specialIn K (.builtin "object.__class__") "__get__" = some (some (.builtin "getset_descriptor.__get__"))) (htk : PySem.W.takesIn K (.builtin "object.__class__") = some true)
      (hm : PySem.W.mroIn K C (.type "object") = some true) : TyOf K H (.ref a) (.ref C)
theorem isinst_ok {x : V} {u t : Value} (I : Inv X pins σ H s) (rx : RelV x u) (ty : TyOf X.K H x t) (e : PySem.W.kitOne X.K t c = some b) (h : ∀ tk, Q (.bool b) { s with toks := tk }) :
    wpAny (model X.prog X.w) A (call (.builtin "isinstance") [u, c]) Q E s := by
  cases ty with
  | non => cases (show u = Value.none from rx); exact PySem.W.kia_one PySem.W.kitx_none I.kIn True.intro e (fun z => nomatch z) h
  | bl y => cases (show u = Value.bool y from rx); exact PySem.W.kia_one PySem.W.kitx_bool I.kIn True.intro e (fun z => nomatch z) h
  | int i => obtain ⟨t, q⟩ := (show ∃ t, u = Value.int i t from rx); cases q; exact PySem.W.kia_one PySem.W.kitx_int I.kIn True.intro e (fun z => nomatch z) h
  | str y => obtain ⟨t, q⟩ := (show ∃ t, u = Value.str y t from rx); cases q; exact PySem.W.kia_one PySem.W.kitx_str I.kIn True.intro e (fun z => nomatch z) h
  | flt y => obtain ⟨t, q⟩ := (show ∃ t, u = Value.float y t from rx); cases q; exact PySem.W.kia_one PySem.W.kitx_float I.kIn True.intro e (fun z => nomatch z) h
  | @lst a xs ea =>
    cases (show u = Value.ref a from rx)
    obtain ⟨_, _, n, _, h1⟩ := (show ObjOk X.prog X.w H s.heap a (.lst xs) from I.hok a _ ea)
    exact PySem.W.kia_one PySem.W.kitx_list I.kIn ⟨_, h1, rfl⟩ e (fun z => nomatch z) h
  | @frz a ob xs ea =>
    cases (show u = Value.ref a from rx)
    obtain ⟨_, _, _, n, _, h1⟩ := (show ObjOk X.prog X.w H s.heap a (.frz ob (.lst xs)) from I.hok a _ ea)
    exact PySem.W.kia_one PySem.W.kitx_list I.kIn ⟨_, h1, rfl⟩ e (fun z => nomatch z) h
  | @tup a xs ea =>
    cases (show u = Value.ref a from rx)
    obtain ⟨_, _, _, p⟩ := (show ObjOk X.prog X.w H s.heap a (.tup xs) from I.hok a _ ea)
    obtain ⟨o, h1, h2, _⟩ := p
    exact PySem.W.kia_one PySem.W.kitx_tuple I.kIn ⟨o, h1, h2⟩ e (fun z => nomatch z) h
  | @dK a kvs ea =>
    cases (show u = Value.ref a from rx)
    obtain ⟨_, _, vs, _, p⟩ := (show ObjOk X.prog X.w H s.heap a (.dK kvs) from I.hok a _ ea)
    obtain ⟨o, es, ep, h1, h2, _⟩ := p
    exact PySem.W.kia_one PySem.W.kitx_dict I.kIn ⟨o, h1, h2.1⟩ e (fun z => nomatch z) h
  | @dT a kvs ea =>
    cases (show u = Value.ref a from rx)
    obtain ⟨_, _, xs, _, o, es, ep, h1, h2, _⟩ := (show ObjOk X.prog X.w H s.heap a (.dT kvs) from I.hok a _ ea)
    exact PySem.W.kia_one PySem.W.kitx_dict I.kIn ⟨o, h1, h2.1⟩ e (fun z => nomatch z) h
  | @ins a C dx fs ea cl ha hn htk hm =>
    cases (show u = Value.ref a from rx)
    obtain ⟨mA, O, _⟩ := ins_get I.hok ea
    obtain ⟨od, J, _⟩ := O.look
    exact PySem.W.kia_one (PySem.W.kitx_own (cl.get _) cl.hd ha hn htk hm) I.kIn J e (fun z => nomatch z) h
end
end L2
namespace L2
open PySem PySem.Spec PyProof.Rows
structure Room (k : Nat) (A : Around) : Prop where
  hd : A.handled = none
  dp : A.depth + 3 * k + 5 < recursionLimit
  un : A.units + 16 * k + 200 < cLine
theorem Room.mono {j k : Nat} {A : Around} (r : Room k A) (h : j ≤ k) : Room j A := ⟨r.hd, by have := r.dp; omega, by have := r.un; omega⟩
theorem Room.deeper {k : Nat} {A : Around} (r : Room (k + 1) A) (env : Env) : Room k (A.deeper env) :=
  ⟨r.hd, by have := r.dp; show A.depth + 1 + 3 * k + 5 < _; omega, by have := r.un; show A.units + 3 + 16 * k + 200 < _; omega⟩
theorem Room.in1 {k : Nat} {A : Around} (r : Room (k + 1) A) : Room k A.in1 :=
  ⟨r.hd, by have := r.dp; show A.depth + 3 * k + 5 < _; omega, by have := r.un; show A.units + 1 + 16 * k + 200 < _; omega⟩
theorem make_depth {A : Around} {C : Addr} {us : List Value} {kw : List (Str × Value)} : (A.under (.builtin "type.__call__" ⟨.ref C :: us, kw⟩)).depth = A.depth + 1 := by
  first | rfl | simp [Around.under, Code.weight, Code.isCreation, Code.isGuard, Code.isCaller, Code.frames, Code.isFrame, guardIds]
theorem make_units {A : Around} {C : Addr} {us : List Value} {kw : List (Str × Value)} : (A.under (.builtin "type.__call__" ⟨.ref C :: us, kw⟩)).units = A.units + 1 := by
  first | rfl | simp [Around.under, Code.cUnits, Code.frames, Code.isFrame]
theorem Room.make {k : Nat} {A : Around} (r : Room (k + 1) A) (C : Addr) (us : List Value) (kw : List (Str × Value)) : Room k (A.under (.builtin "type.__call__" ⟨.ref C :: us, kw⟩)) :=
  ⟨r.hd, by have := r.dp; rw [make_depth]; omega, by have := r.un; rw [make_units]; omega⟩
theorem Room.depth {k : Nat} {A : Around} (r : Room k A) : A.depth < recursionLimit := by have := r.dp; omega
theorem Room.units {k : Nat} {A : Around} (r : Room k A) : A.units + 64 < cLine := by have := r.un; omega
theorem Room.units0 {k : Nat} {A : Around} (r : Room k A) : A.units < cLine := by have := r.un; omega
def tNil : TA := fun _ H Q => Q [] H
def tCons (ta : TE) (tr : TA) : TA := fun σ H Q => ta σ H fun x H1 => tr σ H1 fun xs H2 => Q (x :: xs) H2
section
variable {X : Cx} {e : Expr} {es : List Expr} {te : TE} {t : TA} {pos : Pos}
theorem pa_nil : PA X [] tNil := fun _ _ _ _ H Q I h => Calls.spliced_nil ⟨[], H, I, .nil, h⟩
theorem pa_cons (ha : PE X e te) (hr : PA X es t) (hs : starEach (e :: es) X.env = (false, eval e X.env) :: starEach es X.env := by rfl) : PA X (e :: es) (tCons te t) := by
  intro pos pins s σ H Q I h
  rw [hs]
  show wpAny _ _ (spliced ((false, eval e X.env) :: backTo pos (starEach es X.env))) _ _ s
  refine Calls.spliced_cons (thn (ha pins s σ H _ I h) fun u s1 ⟨x, H1, I1, r1, q1⟩ => ?_)
  exact thn (hr pos pins s1 σ H1 _ I1 q1) fun us s2 ⟨xs, H2, I2, r2, q2⟩ => ⟨x :: xs, H2, I2, .cons r1 r2, q2⟩
def tTup (t : TA) : TE := fun σ H Q => t σ H fun xs H1 => xs.length ≤ sizeLine ∧ ∀ p, H1 p = none → Q (.ref p) (upd H1 p (.tup xs))
def tLst (t : TA) : TE := fun σ H Q => t σ H fun xs H1 => xs.length ≤ sizeLine ∧ ∀ p, H1 p = none → Q (.ref p) (upd H1 p (.lst xs))
theorem pe_tup {x1} (h : PA X es t) : PE X (.Tuple es x1 pos) (tTup t) := by
  intro pins s σ H Q I hq
  refine wpAny_Tuple_spliced (thn (h pos pins s σ H _ I hq) fun us s1 ⟨xs, H1, I1, r, z, q⟩ => ⟨by rw [← r.length]; exact z, ?_⟩)
  have hf : H1 s1.heap.objs.size = none := I1.hok.fresh (Nat.le_refl _)
  refine ⟨.ref s1.heap.objs.size, upd H1 s1.heap.objs.size (.tup xs), I1.laid (t' := s1.toks) (fun b u e => Heap.get?_push_of_some _ e) (Nat.le_refl _) ?_, rfl, q _ hf⟩
  exact ⟨z, us, r, IsTpl.new _ _⟩
theorem pe_lst (h : PA X es t) : PE X (.List es pos) (tLst t) := by
  intro pins s σ H Q I hq
  refine wpAny_List_spliced (thn (h pos pins s σ H _ I hq) fun us s1 ⟨xs, H1, I1, r, z, q⟩ => ⟨by rw [← r.length]; exact z, ?_⟩)
  have hf : H1 s1.heap.objs.size = none := I1.hok.fresh (Nat.le_refl _)
  refine ⟨.ref s1.heap.objs.size, upd H1 s1.heap.objs.size (.lst xs), I1.laid (t' := s1.toks) (fun b u e => Heap.get?_push_of_some _ e) (Nat.le_refl _) ?_, rfl, q _ hf⟩
  exact ⟨z, us, 0, r, Heap.get?_push_size _ rfl⟩
end
abbrev Sp := List V → Hp → VK → XK → Prop
abbrev CXT := List Env → Hp → Shared → XK → Value → Shared → Prop
structure Env0 (P : Program) (w : World) (K : PySem.W.Frag) (mg : Str → Option Value) (base : Heap) (A : Around) (outer : List Env) (s : Shared) (H : Hp) : Prop where
  frames : A.frames = some outer
  mod : Mod K mg base
  bs : ∀ b o, base.get? b = some o → s.heap.get? b = some o ∧ H b = none
  bsz : base.objs.size ≤ s.heap.objs.size
  funs : s.heap.FunFrames base outer
  frf : ∀ b ∈ frs outer, H b = none
  hok : HOk P w H s.heap
  bare : AllBare s.gens
def CE (outer : List Env) (P : Program) (w : World) (H : Hp) (s : Shared) (Q : VK) (u : Value) (s' : Shared) : Prop :=
  ∃ v H', s'.os = s.os ∧ AllBare s'.gens ∧ Un (frs outer) [] H H' s.heap s'.heap ∧ HOk P w H' s'.heap ∧ RelV v u ∧ Q v H'
def CR (CX : CXT) (outer : List Env) (P : Program) (w : World) (H : Hp) (s : Shared) (Q : VK) (E : XK) (r : Result) (s' : Shared) : Prop :=
  match r with
  | .ok (.ret u) => CE outer P w H s Q u s'
  | .ok _ => False
  | .error e => CX outer H s E e s'
structure FnOk (P : Program) (w : World) (K : PySem.W.Frag) (mg : Str → Option Value) (base : Heap) (CX : CXT) (k : Nat) (f : Addr) (fd : FuncData) (ps : List Str) (sp : Sp) : Prop where
  len : ∀ vs H Q E, sp vs H Q E → vs.length = ps.length
  run : ∀ (A : Around) (outer : List Env) (s : Shared) (H : Hp) (args : Args) (us : List Value) (vs : List V) (Q : VK) (E : XK), Room k A → Env0 P w K mg base A outer s H → BindsTo s fd args (ps.zip us) → Vals vs us → sp vs H Q E →
    codeAny (model P w) A (.call (.ref f) args) (CR CX outer P w H s Q E) s
theorem FnOk.mono {P : Program} {w : World} {K : PySem.W.Frag} {mg : Str → Option Value} {base : Heap} {CX : CXT} {j k : Nat} {f : Addr} {fd : FuncData} {ps : List Str} {sp : Sp} (F : FnOk P w K mg base CX j f fd ps sp) (h : j ≤ k) :
    FnOk P w K mg base CX k f fd ps sp := ⟨F.len, fun A outer s H args us vs Q E hr => F.run A outer s H args us vs Q E (hr.mono h)⟩
theorem Env0.make {P : Program} {w : World} {K : PySem.W.Frag} {mg : Str → Option Value} {base : Heap} {A : Around} {outer : List Env} {s : Shared} {H : Hp} (e : Env0 P w K mg base A outer s H) (C : Addr) (us : List Value) (kw : List (Str × Value)) :
    Env0 P w K mg base (A.under (.builtin "type.__call__" ⟨.ref C :: us, kw⟩)) outer s H := ⟨by first | exact e.frames | (simpa [Around.under, Code.envs, Code.isFrame, pushEnvs] using e.frames), e.mod, e.bs, e.bsz, e.funs, e.frf, e.hok, e.bare⟩
theorem Env0.in1 {P : Program} {w : World} {K : PySem.W.Frag} {mg : Str → Option Value} {base : Heap} {A : Around} {outer : List Env} {s : Shared} {H : Hp} (e : Env0 P w K mg base A outer s H) :
    Env0 P w K mg base A.in1 outer s H := ⟨e.frames, e.mod, e.bs, e.bsz, e.funs, e.frf, e.hok, e.bare⟩
section
variable {X : Cx} {pins : List (Addr × Obj)} {σ : St} {H : Hp} {s s' : Shared}
theorem Inv.env0 (I : Inv X pins σ H s) : Env0 X.prog X.w X.K X.mg X.base X.A X.stack s H :=
  ⟨I.ok.frames, I.ok.mod, I.bs, Nat.le_trans I.ok.bsz I.sz, I.stack, I.stkFree, I.hok, I.bare⟩
theorem Inv.after {Q : VK} {u : Value} (I : Inv X pins σ H s) (h : CE X.stack X.prog X.w H s Q u s') : EP X pins σ Q u s' := by
  obtain ⟨v, H', os, bare, un, hok, r, q⟩ := h
  obtain ⟨hh, g, d, t, os'⟩ := s'
  obtain rfl : os' = s.os := os
  exact ⟨v, H', I.call (h' := hh) (g' := g) (d' := d) (t' := t) (ch := []) un hok bare (fun b z => absurd z (by simp)), r, q⟩
end
def tCall (sp : Sp) (dvs : List V) (E : XK) (t : TA) : TE := fun σ H Q => t σ H fun vs H1 => sp (vs ++ dvs) H1 Q E
def tMake (C : Addr) (sp : Sp) (dvs : List V) (E : XK) (t : TA) : TE := fun σ H Q => t σ H fun vs H1 => ∀ x dx, H1 x = none → H1 dx = none → dx ≠ x →
  sp (.ref x :: (vs ++ dvs)) (upd (upd H1 dx (.own x)) x (.ins C dx [])) (fun v H2 => v = .non ∧ Q (.ref x) H2) E
def Binds (K : PySem.W.Frag) (fd : FuncData) (ps : List Str) (ds : List Value) : Prop :=
  ∀ (s : Shared) (us : List Value), K.In s.heap → (us ++ ds).length = ps.length → BindsTo s fd ⟨us, []⟩ (ps.zip (us ++ ds))
theorem Binds.all {K : PySem.W.Frag} {fd : FuncData} {ps : List Str} (h : ∀ us : List Value, us.length = ps.length → bindArgs fd ⟨us, []⟩ = pure (ps.zip us)) : Binds K fd ps [] := fun s us _ hl => by
  rw [List.append_nil] at hl ⊢
  exact .of_eq (h us hl)
def Passes (CX : CXT) (X : Cx) (E : XK) : Prop := ∀ (pins : List (Addr × Obj)) (σ : St) (H : Hp) (s : Shared) (e : Value) (s' : Shared), Inv X pins σ H s → CX X.stack H s E e s' → X.xe e s'
section
variable {X : Cx} {CX : CXT} {k : Nat} {f C : Addr} {fd : FuncData} {ps : List Str} {sp : Sp} {dvs : List V} {ds : List Value} {E : XK} {x m : Str} {p pos apos : Pos} {e o : Expr} {es : List Expr} {ta : TE} {t : TA}
theorem run_fn {pins : List (Addr × Obj)} {σ : St} {H : Hp} {s : Shared} {Q : VK} {us : List Value} {vs : List V} (F : FnOk X.prog X.w X.K X.mg X.base CX k f fd ps sp) (hr : Room k X.A) (hb : Binds X.K fd ps ds) (hd : Vals dvs ds) (hx : Passes CX X E)
    (I : Inv X pins σ H s) (r : Vals vs us) (h : sp (vs ++ dvs) H Q E) : wpAny (model X.prog X.w) X.A (call (.ref f) us) (EP X pins σ Q) X.xe s := by
  have r2 : Vals (vs ++ dvs) (us ++ ds) := r.append hd
  have hl : (us ++ ds).length = ps.length := by rw [← r2.length]; exact F.len _ _ _ _ h
  refine wpAny_call (codeAny_mono (F.run X.A X.stack s H ⟨us, []⟩ (us ++ ds) (vs ++ dvs) Q E hr I.env0 (hb s us I.kIn hl) r2 h) fun r s' hq => ?_)
  cases r with
  | error e => exact hx pins σ H s e s' I hq
  | ok fl =>
    cases fl with
    | ret u => exact I.after hq
    | next => exact False.elim hq
    | brk => exact False.elim hq
    | cont => exact False.elim hq
theorem pe_call (F : FnOk X.prog X.w X.K X.mg X.base CX k f fd ps sp) (hr : Room k X.A) (hg : Gl X x) (hm : X.mg x = some (.ref f)) (hk : PySem.W.keepIn X.K (.ref f) = true) (hb : Binds X.K fd ps ds) (hd : Vals dvs ds) (hx : Passes CX X E)
    (ha : PA X (e :: es) t) (hdb : (x == ("__debug__" : Str)) = false := by decide) (he : starEach (e :: es) X.env = (false, eval e X.env) :: starEach es X.env := by rfl) (hpl : (backTo pos (starEach es X.env)).any (·.1) = false := by rfl) :
    PE X (.Call (.Name x p) (e :: es) [] pos) (tCall sp dvs E t) := by
  intro pins s σ H Q I h
  refine wpAny_Call_Name_kw (ld_glob I hg hm ?_ hdb)
  refine PySem.W.callWith_K (h₀ := X.base) I.ok.mod.kin hk (thn (ha pos pins s σ H _ I h) fun us s1 ⟨vs, H1, I1, r, q⟩ => ⟨I1.kIn, ?_⟩) he hpl
  exact run_fn F hr hb hd hx I1 r q
structure Mk (K : PySem.W.Frag) (C f : Addr) : Prop where
  makes : PySem.W.makesIn K C = true
  init : PySem.W.findIn K (.ref C) "__init__" = some (some (.ref f))
  fn : PySem.W.isFn K (.ref f) = true
  kp : PySem.W.keepIn K (.ref C) = true
theorem run_make {pins : List (Addr × Obj)} {σ : St} {H : Hp} {s : Shared} {Q : VK} {us : List Value} {vs : List V} (M : Mk X.K C f) (F : FnOk X.prog X.w X.K X.mg X.base CX k f fd ps sp) (hr : Room (k + 1) X.A) (hb : Binds X.K fd ps ds) (hd : Vals dvs ds)
    (hx : Passes CX X E) (I : Inv X pins σ H s) (r : Vals vs us)
    (h : ∀ x dx, H x = none → H dx = none → dx ≠ x → sp (.ref x :: (vs ++ dvs)) (upd (upd H dx (.own x)) x (.ins C dx [])) (fun v H2 => v = .non ∧ Q (.ref x) H2) E) :
    wpAny (model X.prog X.w) X.A (call (.ref C) us) (EP X pins σ Q) X.xe s := by
  have hq := h (s.heap.objs.size + 1) s.heap.objs.size (I.hok.fresh (Nat.le_succ _)) (I.hok.fresh (Nat.le_refl _)) (Nat.ne_of_lt (Nat.lt_succ_self _))
  have I2 := Inv.made (C := C) I
  have r2 : Vals (V.ref (s.heap.objs.size + 1) :: (vs ++ dvs)) (Value.ref (s.heap.objs.size + 1) :: (us ++ ds)) := .cons rfl (r.append hd)
  have hl : (Value.ref (s.heap.objs.size + 1) :: us ++ ds).length = ps.length := by
    have e := r2.length
    rw [F.len _ _ _ _ hq] at e
    exact e.symm
  refine wpAny_call (make_map (f := f) I.kIn M.makes M.init (beq_iff_eq.mp M.fn) (codeAny_mono (F.run _ X.stack _ _ ⟨Value.ref (s.heap.objs.size + 1) :: us, []⟩ (Value.ref (s.heap.objs.size + 1) :: (us ++ ds)) _ _ E (hr.make C us [])
    (I2.env0.make C us []) (hb _ (Value.ref (s.heap.objs.size + 1) :: us) I2.kIn hl) r2 hq) fun r s' hq' => ?_))
  cases r with
  | error e => exact hx pins σ _ _ e s' I2 hq'
  | ok fl =>
    cases fl with
    | ret u =>
      obtain ⟨v, H', I3, rv, ev, q3⟩ := I2.after hq'
      subst ev
      exact ⟨rv, ⟨V.ref (s.heap.objs.size + 1), H', I3, rfl, q3⟩⟩
    | next => exact False.elim hq'
    | brk => exact False.elim hq'
    | cont => exact False.elim hq'
theorem pe_make (M : Mk X.K C f) (F : FnOk X.prog X.w X.K X.mg X.base CX k f fd ps sp) (hr : Room (k + 1) X.A) (hg : Gl X x) (hm : X.mg x = some (.ref C)) (hb : Binds X.K fd ps ds) (hd : Vals dvs ds) (hx : Passes CX X E)
    (ha : PA X (e :: es) t) (hdb : (x == ("__debug__" : Str)) = false := by decide) (he : starEach (e :: es) X.env = (false, eval e X.env) :: starEach es X.env := by rfl) (hpl : (backTo pos (starEach es X.env)).any (·.1) = false := by rfl) :
    PE X (.Call (.Name x p) (e :: es) [] pos) (tMake C sp dvs E t) := by
  intro pins s σ H Q I h
  refine wpAny_Call_Name_kw (ld_glob I hg hm ?_ hdb)
  refine PySem.W.callWith_K (h₀ := X.base) I.ok.mod.kin M.kp (thn (ha pos pins s σ H _ I h) fun us s1 ⟨vs, H1, I1, r, q⟩ => ⟨I1.kIn, ?_⟩) he hpl
  exact run_make M F hr hb hd hx I1 r q
end
section
variable {X : Cx} {CX : CXT} {k : Nat} {f C : Addr} {fd : FuncData} {ps ks : List Str} {sp : Sp} {E : XK} {x m : Str} {p pos apos kpos : Pos} {e o : Expr} {es : List Expr} {kws : List Keyword} {te ta : TE} {t tk : TA} {nm : Option Str}
variable {g : List Value → List Value → List Value} {gV : List V → List V → List V}
end
structure FnScope (N P : List Str) (sc : Scope) : Prop where
  kind : sc.kind = .function
  co : sc.isCoroutine = false
  gen : sc.isGenerator = false
  nd : N.Nodup
  pre : N.take P.length = P
  par : ∀ x ∈ P, sc.names.lookup x = some .local ∨ sc.names.lookup x = some .cell
  nofree : ∀ y ∈ sc.names, y.2 ≠ .free
theorem bindL_out {kindOf : Str → Option NameKind} {x : Str} : ∀ {binds : List (Str × Value)} {m : Str → Option Value}, (∀ v, (x, v) ∉ binds) → bindL kindOf binds m x = m x
  | [], _, _ => rfl
  | (n, v) :: r, m, h => by
    unfold bindL
    rw [bindL_out fun w hw => h w (List.mem_cons_of_mem _ hw)]
    split
    · have : x ≠ n := by rintro rfl; exact h v List.mem_cons_self
      simp [this]
    · rfl
theorem bindC_out {kindOf : Str → Option NameKind} {x : Str} : ∀ {binds : List (Str × Value)} {m : Str → Option Value}, (∀ v, (x, v) ∉ binds) → bindC kindOf binds m x = m x
  | [], _, _ => rfl
  | (n, v) :: r, m, h => by
    unfold bindC
    rw [bindC_out fun w hw => h w (List.mem_cons_of_mem _ hw)]
    split
    · rfl
    · have : x ≠ n := by rintro rfl; exact h v List.mem_cons_self
      simp [this]
theorem bindL_get {kindOf : Str → Option NameKind} {x : Str} {v : Value} : ∀ {P : List Str} {vs : List Value} {i : Nat} {m : Str → Option Value}, P.Nodup → P[i]? = some x → vs[i]? = some v → kindOf x = some .local →
    bindL kindOf (P.zip vs) m x = some v
  | [], _, _, _, _, h, _, _ => by simp at h
  | _ :: _, [], _, _, _, _, h, _ => by simp at h
  | p :: P, w :: vs, 0, m, nd, h1, h2, hk => by
    simp at h1 h2; subst h1; subst h2
    show bindL kindOf ((p, w) :: P.zip vs) m p = _
    unfold bindL
    rw [bindL_out fun v hv => (List.nodup_cons.mp nd).1 (List.of_mem_zip hv).1, if_pos hk]
    simp
  | p :: P, w :: vs, i + 1, m, nd, h1, h2, hk => by
    show bindL kindOf ((p, w) :: P.zip vs) m x = _
    unfold bindL
    exact bindL_get (i := i) (List.nodup_cons.mp nd).2 (by simpa using h1) (by simpa using h2) hk
theorem bindC_get {kindOf : Str → Option NameKind} {x : Str} {v : Value} : ∀ {P : List Str} {vs : List Value} {i : Nat} {m : Str → Option Value}, P.Nodup → P[i]? = some x → vs[i]? = some v → kindOf x ≠ some .local →
    bindC kindOf (P.zip vs) m x = some v
  | [], _, _, _, _, h, _, _ => by simp at h
  | _ :: _, [], _, _, _, _, h, _ => by simp at h
  | p :: P, w :: vs, 0, m, nd, h1, h2, hk => by
    simp at h1 h2; subst h1; subst h2
    show bindC kindOf ((p, w) :: P.zip vs) m p = _
    unfold bindC
    rw [bindC_out fun v hv => (List.nodup_cons.mp nd).1 (List.of_mem_zip hv).1, if_neg hk]
    simp
  | p :: P, w :: vs, i + 1, m, nd, h1, h2, hk => by
    show bindC kindOf ((p, w) :: P.zip vs) m x = _
    unfold bindC
    exact bindC_get (i := i) (List.nodup_cons.mp nd).2 (by simpa using h1) (by simpa using h2) hk
def start (N : List Str) (vs : List V) : St := vs.map some ++ List.replicate (N.length - vs.length) none
def cxOf (CX : CXT) (P : Program) (w : World) (K : PySem.W.Frag) (mg : Str → Option Value) (base : Heap) (N : List Str) (qual : Str) (scope : Scope) (f : Addr) (cd : Value) (A : Around) (outer : List Env) (s : Shared) (H : Hp) (E : XK) : Cx where
  prog := P
  w := w
  K := K
  mg := mg
  base := base
  A := A.deeper (envOfC qual scope s.heap.objs.size f cd)
  N := N
  s₀ := s
  H₀ := H
  env := envOfC qual scope s.heap.objs.size f cd
  outer := outer
  stack := envOfC qual scope s.heap.objs.size f cd :: outer
  ex := []
  calm := true
  fn := fun _ => true
  pn := []
  xe := fun e s' => wpAny (model P w) (A.deeper (envOfC qual scope s.heap.objs.size f cd)) (leaving (envOfC qual scope s.heap.objs.size f cd) e) (fun _ s'' => CX outer H s E e s'') (fun e' s'' => CX outer H s E e' s'') s'
theorem cell_has {sc : Scope} {n : Nat} {x : Str} (h : sc.names.lookup x = some .cell) : ∃ c, (cellsFrom n sc.names []).lookup x = some c := by
  have q := PySem.W.cellsFrom_some sc.names n [] (.inl h)
  exact Option.isSome_iff_exists.mp q
theorem inv_start {CX : CXT} {P : Program} {w : World} {K : PySem.W.Frag} {mg : Str → Option Value} {base : Heap} {N ps : List Str} {qual : Str} {scope : Scope} {f : Addr} {cd : Value} {A : Around} {outer : List Env} {s s1 : Shared} {H : Hp} {E : XK} {us : List Value} {vs : List V}
    (S : FnScope N ps scope) (hd : A.handled = none) (e0 : Env0 P w K mg base A outer s H) (hl : vs.length = ps.length) (r : Vals vs us)
    (x : InCallC s s.heap.objs.size (bindL (envOfC qual scope s.heap.objs.size f cd).kindOf (ps.zip us) fun _ => none) (cellsFrom (s.heap.objs.size + 1) scope.names []) (bindC (envOfC qual scope s.heap.objs.size f cd).kindOf (ps.zip us) fun _ => none) s1) :
    Inv (cxOf CX P w K mg base N qual scope f cd A outer s H E) [] (start N vs) H s1 := by
  have hpl : ps.length ≤ N.length := by have := congrArg List.length S.pre; rw [List.length_take] at this; omega
  obtain ⟨h1, tk, rfl, hk⟩ := x.done
  have noA : ∀ b : Addr, b ∉ (cxOf CX P w K mg base N qual scope f cd A outer s H E).ex := fun b z => absurd (show b ∈ ([] : List Addr) from z) (by simp)
  refine ⟨⟨e0.mod, S.kind, rfl, rfl, Nat.le_refl _, fun y z c h1 h2 => ?_, fun y hy => ?_, fun y c _ h => ?_, fun _ => hd, Around.frames_deeper e0.frames, .inr ⟨rfl, rfl⟩, fun b z => absurd z (noA b), e0.bs, e0.bsz, fun b _ _ => noA b, fun b z => absurd z (noA b), e0.funs, e0.frf⟩,
    rfl, e0.bare, Un.kept hk, ⟨_, x.toInCall.ns, fun i y v h1 h2 h3 => ?_⟩, fun y c h => ⟨_, x.cell y c h⟩, e0.hok.fresh (Nat.le_refl _), fun y c h => ?_, fun p hp => absurd (show p ∈ ([] : List (Addr × Obj)) from hp) (by simp), e0.hok.kept hk, ?_⟩
  · exact name_of_addr x.apart (PySem.mem_of_lookup h1) (PySem.mem_of_lookup h2)
  · have hy : scope.names.lookup y = some .cell ∨ scope.names.lookup y = some .free := hy
    rcases hy with hy | hy
    · exact cell_has hy
    · exact absurd rfl (S.nofree _ (PySem.mem_of_lookup hy))
  · exact Nat.le_of_lt (x.above y c (PySem.mem_of_lookup h))
  · have hi : i < vs.length := by
      unfold start at h2
      by_cases hi : i < vs.length
      · exact hi
      · rw [List.getElem?_append_right (by simpa using hi)] at h2
        rw [List.getElem?_replicate] at h2
        split at h2 <;> cases h2
    have ha : vs[i]? = some v := by
      unfold start at h2
      rw [List.getElem?_append_left (by simpa using hi), List.getElem?_map] at h2
      cases e : vs[i]? with
      | none => rw [e] at h2; cases h2
      | some a => rw [e] at h2; cases h2; rfl
    obtain ⟨u, hu, rv⟩ := r.get ha
    have hp : ps[i]? = some y := by
      rw [← S.pre, List.getElem?_take_of_lt (by omega)]; exact h1
    have ndP : ps.Nodup := by rw [← S.pre]; exact S.nd.sublist (List.take_sublist _ _)
    refine ⟨u, rv, ?_⟩
    rcases S.par y (List.mem_of_getElem? hp) with k | k
    · exact .inl ⟨k, bindL_get ndP hp hu k⟩
    · obtain ⟨c, e⟩ := cell_has (n := s.heap.objs.size + 1) k
      refine .inr ⟨.inl k, c, e, ?_⟩
      have q := x.cell y c e
      rw [bindC_get ndP hp hu (by show scope.names.lookup y ≠ _; rw [k]; decide)] at q
      exact q
  · exact e0.hok.fresh (Nat.le_of_lt (x.above y c (PySem.mem_of_lookup h)))
  · unfold start
    show _ = N.length
    rw [List.length_append, List.length_map, List.length_replicate]
    omega
theorem fn_of {CX : CXT} {P : Program} {w : World} {K : PySem.W.Frag} {mg : Str → Option Value} {base : Heap} {k : Nat} {f : Addr} {name qual : Str} {params : Arguments} {body : List Stmt} {scope : Scope} {dV kV doc pm cdv ct oc : Value} {an od : Option Addr}
    {osl : Array (Option Value)} {N ps : List Str} {sp : Sp} (lk : K.lookup f = some ⟨oc, od, .func (PySem.W.fnOf name qual params body scope dV kV doc pm an cdv ct), osl⟩) (hcd : PySem.W.codeIn K cdv qual = true) (S : FnScope N ps scope)
    (len : ∀ vs H Q E, sp vs H Q E → vs.length = ps.length)
    (hbody : ∀ (A : Around) (outer : List Env) (s : Shared) (H : Hp) (vs : List V) (Q : VK) (E : XK), Room k (A.deeper (envOfC qual scope s.heap.objs.size f cdv)) → sp vs H Q E →
      ∃ t, PSs (cxOf CX P w K mg base N qual scope f cdv A outer s H E) body t ∧ t { nx := fun _ H' => Q .non H', rt := Q } (start N vs) H) :
    FnOk P w K mg base CX (k + 1) f (PySem.W.fnOf name qual params body scope dV kV doc pm an cdv ct) ps sp := by
  refine ⟨len, fun A outer s H args us vs Q E hr e0 hb r hsp => ?_⟩
  have hl := len _ _ _ _ hsp
  have KX : K.In s.heap := e0.mod.kin.keeps fun b o e => (e0.bs b o e).1
  have lim : s.heap.NoLimit := e0.mod.nolimit.keeps fun b o e => (e0.bs b o e).1
  have hkind : ∀ y ∈ ps.zip us, scope.names.lookup y.1 = some .local ∨ (scope.names.lookup y.1 = some .cell ∧ ((cellsFrom (s.heap.objs.size + 1) scope.names []).lookup y.1).isSome = true) := fun ⟨n, v⟩ hy => by
    rcases S.par n (List.of_mem_zip hy).1 with q | q
    · exact .inl q
    · exact .inr ⟨q, PySem.W.cellsFrom_some _ _ _ (.inl q)⟩
  refine codeAny_call_function hr.depth (KX _ _ lk) rfl S.co S.gen rfl (PySem.W.codeRec_of KX hcd) (hb _ _ _ _ ?_)
  refine wpAny_newFunctionEnv_cells S.kind hkind fun env he s1 x => ?_
  subst he
  refine ⟨lim.keeps x.toInCall.keep, codeAny_func ?_⟩
  obtain ⟨t, ht, hq⟩ := hbody A outer s H vs Q E (hr.deeper _) hsp
  have I : Inv (cxOf CX P w K mg base N qual scope f cdv A outer s H E) [] (start N vs) H s1 := inv_start S hr.hd e0 hl r x
  refine wpAny_mono (ht [] s1 (start N vs) H _ I hq) (fun fl s' hs => ?_) fun e s' hs => hs
  have fin : ∀ {σ' : St} {H' : Hp} {v : V} {u : Value}, Inv (cxOf CX P w K mg base N qual scope f cdv A outer s H E) [] σ' H' s' → RelV v u → Q v H' → CE outer P w H s Q u s' :=
    fun {σ' H' v u} J rv q => ⟨v, H', J.os, J.bare, J.base, J.hok, rv, q⟩
  cases fl with
  | ret u =>
    obtain ⟨v, σ', H', J, rv, q⟩ := hs
    exact fin J rv q
  | next =>
    obtain ⟨σ', H', J, q⟩ := hs
    exact fin (v := V.non) (u := Value.none) J rfl q
  | brk =>
    obtain ⟨_, _, _, q⟩ := hs
    exact False.elim q
  | cont =>
    obtain ⟨_, _, _, q⟩ := hs
    exact False.elim q
end L2
namespace L2
open PySem PySem.Spec PyProof.Rows
section
variable {X : Cx} {x : Str} {p pos : Pos} {e : Expr} {es : List Expr} {t : TA} {id T : String} {r : List V → Hp → VK → Prop}
def tCB (r : List V → Hp → VK → Prop) (t : TA) : TE := fun σ H Q => t σ H fun vs H1 => r vs H1 Q
theorem pe_callB (hc : CallR X (.builtin id) r) (hg : Gl X x) (hm : X.mg x = none) (hv : bootBuiltins x = some (.builtin id)) (ha : PA X (e :: es) t) (hn : x ≠ "__name__" := by decide) (hdb : (x == ("__debug__" : Str)) = false := by decide)
    (he : starEach (e :: es) X.env = (false, eval e X.env) :: starEach es X.env := by rfl) (hpl : (backTo pos (starEach es X.env)).any (·.1) = false := by rfl) : PE X (.Call (.Name x p) (e :: es) [] pos) (tCB r t) := by
  intro pins s σ H Q I h
  refine wpAny_Call_Name_kw (ld_blt I hg hm hv ?_ hn hdb)
  exact PyProof.Rows.callWith_builtin1 (thn (ha pos pins s σ H _ I h) fun us s1 ⟨vs, H1, I1, r1, q1⟩ => hc pins s1 σ H1 vs us Q I1 r1 q1) he hpl
theorem pe_callTy (hc : CallR X (.type T) r) (hg : Gl X x) (hm : X.mg x = none) (hv : bootBuiltins x = some (.type T)) (ha : PA X (e :: es) t) (hn : x ≠ "__name__" := by decide) (hdb : (x == ("__debug__" : Str)) = false := by decide)
    (he : starEach (e :: es) X.env = (false, eval e X.env) :: starEach es X.env := by rfl) (hpl : (backTo pos (starEach es X.env)).any (·.1) = false := by rfl) : PE X (.Call (.Name x p) (e :: es) [] pos) (tCB r t) := by
  intro pins s σ H Q I h
  refine wpAny_Call_Name_kw (ld_blt I hg hm hv ?_ hn hdb)
  exact PyProof.Rows.callWith_type1 (thn (ha pos pins s σ H _ I h) fun us s1 ⟨vs, H1, I1, r1, q1⟩ => hc pins s1 σ H1 vs us Q I1 r1 q1) he hpl
end
end L2
namespace L2
open PySem PySem.Spec PyProof.Rows
section
variable {κ : Type} [DecidableEq κ]
def valV (kvs : List (κ × V)) (k : κ) : Option V := (kvs.find? fun kv => decide (kv.1 = k)).map (·.2)
def putK (kvs : List (κ × V)) (k : κ) (v : V) : List (κ × V) :=
  if (kvs.any fun kv => decide (kv.1 = k)) = true then kvs.map (fun kv => if kv.1 = k then (kv.1, v) else kv) else kvs ++ [(k, v)]
def dropK (kvs : List (κ × V)) (k : κ) : List (κ × V) := kvs.filter fun kv => decide (kv.1 ≠ k)
theorem valV_pos {p : κ × V} {r : List (κ × V)} {k : κ} (e : p.1 = k) : valV (p :: r) k = some p.2 := by simp [valV, List.find?_cons, e]
theorem valV_neg {p : κ × V} {r : List (κ × V)} {k : κ} (e : ¬ p.1 = k) : valV (p :: r) k = valV r k := by simp [valV, List.find?_cons, e]
theorem valV_any (k : κ) : ∀ kvs : List (κ × V), (kvs.any fun kv => decide (kv.1 = k)) = (valV kvs k).isSome
  | [] => rfl
  | p :: r => by
    rw [List.any_cons]
    by_cases e : p.1 = k
    · simp only [valV_pos e, decide_eq_true e, Bool.true_or, Option.isSome_some]
    · rw [valV_neg e, decide_eq_false e, Bool.false_or]; exact valV_any k r
theorem length_putK (kvs : List (κ × V)) (k : κ) (v : V) : (putK kvs k v).length ≤ kvs.length + 1 := by
  unfold putK
  split
  · rw [List.length_map]; omega
  · rw [List.length_append, List.length_cons, List.length_nil]; omega
theorem RelO.isSome_eq {o : Option V} {u : Option Value} (r : RelO o u) : o.isSome = u.isSome := by
  cases o with
  | none => cases u with
    | none => rfl
    | some _ => exact (show False from r).elim
  | some _ => cases u with
    | none => exact (show False from r).elim
    | some _ => rfl
theorem RelO.getD {o : Option V} {u : Option Value} {d : V} {d' : Value} (r : RelO o u) (rd : RelV d d') : RelV (o.getD d) (u.getD d') := by
  cases o with
  | none => cases u with
    | none => exact rd
    | some _ => exact (show False from r).elim
  | some _ => cases u with
    | none => exact (show False from r).elim
    | some _ => exact r
theorem KV.any {kvs : List (κ × V)} {vs : List (κ × Value)} (r : KV kvs vs) (k : κ) : (kvs.any fun kv => decide (kv.1 = k)) = vs.any fun kv => decide (kv.1 = k) := by
  unfold KV at r
  induction r with
  | nil => rfl
  | cons h t ih => rw [List.any_cons, List.any_cons, ih, h.1]
theorem KV.repl {kvs : List (κ × V)} {vs : List (κ × Value)} (r : KV kvs vs) (k : κ) {y : V} {u : Value} (ry : RelV y u) :
    KV (kvs.map fun kv => if kv.1 = k then (kv.1, y) else kv) (vs.map fun kv => if kv.1 = k then (kv.1, u) else kv) := by
  unfold KV at r ⊢
  induction r with
  | nil => exact .nil
  | @cons p q ps qs h t ih =>
    rw [List.map_cons, List.map_cons]
    refine .cons ?_ ih
    obtain ⟨h1, h2⟩ := h
    by_cases e : p.1 = k
    · rw [if_pos e, if_pos (h1.symm.trans e)]; exact ⟨h1, ry⟩
    · rw [if_neg e, if_neg (fun z => e (h1.trans z))]; exact ⟨h1, h2⟩
theorem KV.put {kvs : List (κ × V)} {vs : List (κ × Value)} (r : KV kvs vs) (k : κ) {y : V} {u : Value} (ry : RelV y u) : KV (putK kvs k y) (stored vs k u) := by
  unfold putK stored
  rw [r.any k]
  by_cases e : (vs.any fun kv => decide (kv.1 = k)) = true
  · rw [if_pos e, if_pos e]; exact r.repl k ry
  · rw [if_neg e, if_neg e]; exact Paired.snoc r ⟨rfl, ry⟩
theorem KV.drop {kvs : List (κ × V)} {vs : List (κ × Value)} (r : KV kvs vs) (k : κ) : KV (dropK kvs k) (without vs k) := by
  unfold KV at r ⊢
  unfold dropK without
  induction r with
  | nil => exact .nil
  | @cons p q ps qs h t ih =>
    obtain ⟨h1, h2⟩ := h
    rw [List.filter_cons, List.filter_cons]
    by_cases e : p.1 = k
    · have a : ¬ decide (p.1 ≠ k) = true := by simp [e]
      have b : ¬ decide (q.1 ≠ k) = true := by simp [h1.symm.trans e]
      rw [if_neg a, if_neg b]; exact ih
    · have e' : ¬ q.1 = k := fun z => e (h1.trans z)
      have a : decide (p.1 ≠ k) = true := by simp [e]
      have b : decide (q.1 ≠ k) = true := by simp [e']
      rw [if_pos a, if_pos b]; exact .cons ⟨h1, h2⟩ ih
theorem KV.keys {kvs : List (κ × V)} {vs : List (κ × Value)} (r : KV kvs vs) : kvs.map (·.1) = vs.map (·.1) := by
  unfold KV at r
  induction r with
  | nil => rfl
  | cons h t ih => rw [List.map_cons, List.map_cons, ih, h.1]
theorem KV.length {kvs : List (κ × V)} {vs : List (κ × Value)} (r : KV kvs vs) : kvs.length = vs.length := Paired.length r
end
theorem kV_is {P : Program} {w : World} {k : Key} {u : Value} (r : RelV (kV k) u) : (mixKind P w).is k u = true := by
  cases k with
  | inl i => obtain ⟨t, e⟩ := (show ∃ t, u = Value.int i t from r); subst e; exact mixKind_int P w i t
  | inr x => obtain ⟨t, e⟩ := (show ∃ t, u = Value.str x t from r); subst e; exact mixKind_str P w x t
theorem items_are {P : Program} {w : World} : ∀ {ks : List Key} {us : List Value}, Vals (ks.map kV) us → ItemsAre (mixKind P w) ks us
  | [], _, r => by rw [List.map_nil] at r; cases r; exact .nil
  | k :: ks, _, r => by
    rw [List.map_cons] at r
    cases r with
    | cons h t => exact .cons (kV_is h) (items_are t)
abbrev KT (H : Hp) : List (List Key × V) → List (List Key × Addr × Value) → Prop := Paired fun p q => p.1 = q.1 ∧ H q.2.1 = some (.tup (p.1.map kV)) ∧ RelV p.2 q.2.2
theorem KT.val {H : Hp} {kvs : List (List Key × V)} {xs : List (List Key × Addr × Value)} (r : KT H kvs xs) (k : List Key) : RelO (valV kvs k) ((atKey xs k).map (·.2)) := by
  induction r with
  | nil => exact True.intro
  | @cons p q ps qs h t ih =>
    obtain ⟨h1, _, h2⟩ := h
    by_cases e : p.1 = k
    · have e' : q.1 = k := h1.symm.trans e
      have b : atKey (q :: qs) k = some q.2 := by simp [atKey, List.find?_cons, e']
      rw [valV_pos e, b]; exact h2
    · have e' : ¬ q.1 = k := fun z => e (h1.trans z)
      have b : atKey (q :: qs) k = atKey qs k := by simp [atKey, List.find?_cons, e']
      rw [valV_neg e, b]; exact ih
theorem KT.repl {H : Hp} {kvs : List (List Key × V)} {xs : List (List Key × Addr × Value)} (r : KT H kvs xs) (k : List Key) {y : V} {u : Value} (ry : RelV y u) :
    KT H (kvs.map fun kv => if kv.1 = k then (kv.1, y) else kv) (xs.map (putAt k u)) := by
  induction r with
  | nil => exact .nil
  | @cons p q ps qs h t ih =>
    rw [List.map_cons, List.map_cons]
    refine .cons ?_ ih
    obtain ⟨h1, h2, h3⟩ := h
    unfold putAt
    by_cases e : p.1 = k
    · rw [if_pos e, if_pos (h1.symm.trans e)]; exact ⟨h1, h2, ry⟩
    · rw [if_neg e, if_neg (fun z => e (h1.trans z))]; exact ⟨h1, h2, h3⟩
theorem KT.put {H : Hp} {kvs : List (List Key × V)} {xs : List (List Key × Addr × Value)} (r : KT H kvs xs) (k : List Key) {b : Addr} {y : V} {u : Value} (hb : H b = some (.tup (k.map kV))) (ry : RelV y u) :
    KT H (putK kvs k y) (storedH xs k b u) := by
  have e : (kvs.any fun kv => decide (kv.1 = k)) = (atKey xs k).isSome := by
    rw [valV_any, (r.val k).isSome_eq, Option.isSome_map]
  unfold putK storedH
  rw [e]
  by_cases q : (atKey xs k).isSome = true
  · rw [if_pos q, if_pos q]; exact r.repl k ry
  · rw [if_neg q, if_neg q]; exact Paired.snoc r ⟨rfl, hb, ry⟩
theorem KT.keeps {H H' : Hp} {kvs : List (List Key × V)} {xs : List (List Key × Addr × Value)} (r : KT H kvs xs) (ht : ∀ b ys, H b = some (.tup ys) → H' b = some (.tup ys)) : KT H' kvs xs :=
  Paired.mapP r fun _ _ z => ⟨z.1, ht _ _ z.2.1, z.2.2⟩
section
variable {P : Program} {w : World} {H : Hp} {h : Heap} {a : Addr}
theorem rd_of {u : HO} (ok : HOk P w H h) (e : Rd H a u) : ObjOk P w H h a u := e.ok ok
theorem dk_rd {kvs : List (Key × V)} (ok : HOk P w H h) (e : Rd H a (.dK kvs)) : kvs.length ≤ sizeLine ∧ (a == sysModules) = false ∧ ∃ vs, KV kvs vs ∧ h.DictOf (mixKind P w) a vs :=
  show ObjOk P w H h a (.dK kvs) from rd_of ok e
theorem dk_of {kvs : List (Key × V)} (ok : HOk P w H h) (e : H a = some (.dK kvs)) : kvs.length ≤ sizeLine ∧ (a == sysModules) = false ∧ ∃ vs, KV kvs vs ∧ h.DictOf (mixKind P w) a vs := dk_rd ok (.inl e)
theorem key_of {ks : List Key} (ok : HOk P w H h) (e : H a = some (.tup (ks.map kV))) : (tupleKind (mixKind P w)).is h ks a := by
  obtain ⟨_, its, r, o, h1, h2, n, h3⟩ := (show ObjOk P w H h a (.tup (ks.map kV)) from ok a _ e)
  exact ⟨o, its.toArray, n, h1, h2, h3.1, by simpa using items_are r⟩
theorem dt_rd {kvs : List (List Key × V)} (ok : HOk P w H h) (e : Rd H a (.dT kvs)) : kvs.length ≤ sizeLine ∧ (a == sysModules) = false ∧
    ∃ xs, KT H kvs xs ∧ h.DictOfH (tupleKind (mixKind P w)) a xs := by
  obtain ⟨z, y, xs, r, o, es, ep, h1, h2, h3, h4, h5⟩ := (show ObjOk P w H h a (.dT kvs) from rd_of ok e)
  refine ⟨z, y, xs, r, o, es, ep, h1, h2, h3, h4, fun x hx => ?_, h5⟩
  have all : ∀ {l : List (List Key × V)} {m : List (List Key × Addr × Value)}, KT H l m → ∀ x ∈ m, (tupleKind (mixKind P w)).is h x.1 x.2.1 := by
    intro l m q
    induction q with
    | nil => intro x hx; exact nomatch hx
    | @cons p q ps qs hq t ih =>
      intro x hx
      rcases List.mem_cons.mp hx with e | hx
      · subst e
        exact key_of ok (by rw [← hq.1]; exact hq.2.1)
      · exact ih x hx
  exact all r x hx
theorem dt_of {kvs : List (List Key × V)} (ok : HOk P w H h) (e : H a = some (.dT kvs)) : kvs.length ≤ sizeLine ∧ (a == sysModules) = false ∧
    ∃ xs, KT H kvs xs ∧ h.DictOfH (tupleKind (mixKind P w)) a xs := dt_rd ok (.inl e)
end
def DGet (H : Hp) (a : Addr) (y : V) (r : Option V) : Prop :=
  (∃ kvs k, Rd H a (.dK kvs) ∧ y = kV k ∧ r = valV kvs k) ∨ ∃ kvs k b, Rd H a (.dT kvs) ∧ y = .ref b ∧ H b = some (.tup (k.map kV)) ∧ r = valV kvs k
def DPut (H : Hp) (a : Addr) (y v : V) (H' : Hp) : Prop :=
  (∃ kvs k, H a = some (.dK kvs) ∧ y = kV k ∧ kvs.length < sizeLine ∧ H' = upd H a (.dK (putK kvs k v))) ∨
  ∃ kvs k b, H a = some (.dT kvs) ∧ y = .ref b ∧ H b = some (.tup (k.map kV)) ∧ kvs.length < sizeLine ∧ H' = upd H a (.dT (putK kvs k v))
theorem DGet.k {H : Hp} {a : Addr} {kvs : List (Key × V)} {k : Key} (e : H a = some (.dK kvs)) : DGet H a (kV k) (valV kvs k) := .inl ⟨kvs, k, .inl e, rfl, rfl⟩
theorem DGet.t {H : Hp} {a b : Addr} {kvs : List (List Key × V)} {k : List Key} (e : H a = some (.dT kvs)) (eb : H b = some (.tup (k.map kV))) : DGet H a (.ref b) (valV kvs k) := .inr ⟨kvs, k, b, .inl e, rfl, eb, rfl⟩
theorem DPut.k {H : Hp} {a : Addr} {kvs : List (Key × V)} {k : Key} {v : V} (e : H a = some (.dK kvs)) (hl : kvs.length < sizeLine) : DPut H a (kV k) v (upd H a (.dK (putK kvs k v))) := .inl ⟨kvs, k, e, rfl, hl, rfl⟩
theorem DPut.t {H : Hp} {a b : Addr} {kvs : List (List Key × V)} {k : List Key} {v : V} (e : H a = some (.dT kvs)) (eb : H b = some (.tup (k.map kV))) (hl : kvs.length < sizeLine) :
    DPut H a (.ref b) v (upd H a (.dT (putK kvs k v))) := .inr ⟨kvs, k, b, e, rfl, eb, hl, rfl⟩
section
variable {X : Cx} {pins : List (Addr × Obj)} {σ : St} {H : Hp} {s : Shared} {a : Addr} {y v : V} {u r : Value} {o : Option V} {A : Around} {E : Value → Shared → Prop}
theorem Inv.big (I : Inv X pins σ H s) : sysModules < s.heap.objs.size := by
  have h : mainGlobals < s.heap.objs.size := (I.mod.glob.keeps I.bk).lt
  exact Nat.lt_trans (by decide) h
theorem d_write {h' : Heap} {t' : Nat} {ob : HO} (I : Inv X pins σ H s) (mu : Mut (H a)) (hs : Heap.SameBut a s.heap h') (he : ∃ q, h'.get? a = some q) (new : ObjOk X.prog X.w (upd H a ob) h' a ob) :
    Inv X pins σ (upd H a ob) { s with heap := h', toks := t' } :=
  I.write (x := a) (e := a) mu (.inl rfl) (fun b q hb z => (hs.2 b hb).trans z) he new
theorem dk_new {P : Program} {w : World} {H' : Hp} {h' : Heap} {kvs : List (Key × V)} {vs : List (Key × Value)} (z : kvs.length ≤ sizeLine) (hd : (a == sysModules) = false) (rel : KV kvs vs) (dd : h'.DictOf (mixKind P w) a vs) :
    ObjOk P w H' h' a (.dK kvs) := ⟨z, hd, vs, rel, dd⟩
theorem d_setItem {H' : Hp} {Q : Unit → Shared → Prop} (hu : A.units + 1 < cLine) (I : Inv X pins σ H s) (g : DPut H a y v H') (ry : RelV y u) (rv : RelV v r) (h : ∀ s', Inv X pins σ H' s' → Q () s') :
    wpAny (model X.prog X.w) A (setItem (.ref a) u r) Q E s := by
  rcases g with ⟨kvs, k, e, ey, l, eH⟩ | ⟨kvs, k, b, e, ey, eb, l, eH⟩
  · subst ey eH
    obtain ⟨z, hd, vs, rel, dd⟩ := dk_of I.hok e
    have hz : vs.length ≤ sizeLine := by rw [← rel.length]; exact z
    have hl : (putK kvs k v).length ≤ sizeLine := by have := length_putK kvs k v; omega
    refine wpAny_setItem_pairs (hsz := hz) (kV_is ry) dd fun h' dd' hs => h _ ?_
    have he : ∃ q, h'.get? a = some q := let ⟨q, _, _, hq, _⟩ := dd'; ⟨q, hq⟩
    exact d_write I (by rw [e]; exact True.intro) hs he (dk_new hl hd (rel.put k rv) dd')
  · subst ey eH
    cases (show u = Value.ref b from ry)
    obtain ⟨z, hd, xs, rel, dd⟩ := dt_of I.hok e
    have hz : xs.length ≤ sizeLine := by rw [← Paired.length rel]; exact z
    have hl : (putK kvs k v).length ≤ sizeLine := by have := length_putK kvs k v; omega
    refine wpAny_setItem_heap (hsz := hz) (tupleKind_room_in1 hu) (key_of I.hok eb) dd fun h' dd' hs => h _ ?_
    obtain ⟨q, es, ep, hq, h2, h3, h4, _, h5⟩ := dd'
    refine d_write I (by rw [e]; exact True.intro) hs ⟨q, hq⟩ ⟨hl, hd, _, (rel.put k eb rv).keeps fun c ys ec => ?_, q, es, ep, hq, h2, h3, h4, h5⟩
    rw [upd_ne (ne_of ec e (fun z => nomatch z))]
    exact ec
end
section
variable {X : Cx} {pins : List (Addr × Obj)} {σ : St} {H : Hp} {s : Shared} {a : Addr} {kvs : List (Key × V)} {k : Key} {u : Value} {A : Around} {E : Value → Shared → Prop}
end
def sDPut (td ty tv : TE) : TS := fun D σ H => tv σ H fun v H1 => td σ H1 fun x H2 => ty σ H2 fun y H3 => ∃ a H4, x = .ref a ∧ DPut H3 a y v H4 ∧ D.nx σ H4
section
variable {X : Cx} {o i e value : Expr} {pos pos' tpos : Pos} {td ty tv : TE}
theorem ps_dput (hu : X.A.units + 1 < cLine) (ho : PE X o td) (hi : PE X i ty) (hv : PE X value tv) (hs : swapsWith value (some (.Subscript o i pos')) pos.line X.env = pure false) :
    PS X (.Assign [.Subscript o i pos'] value pos) (sDPut td ty tv) := by
  intro pins s σ H D I h
  refine wpAny_Assign_Subscript (thn (hv pins s σ H _ I h) fun r s1 ⟨v, H1, I1, rv, q1⟩ => thn (ho pins s1 σ H1 _ I1 q1) fun u s2 ⟨x, H2, I2, rx, q2⟩ => thn (hi pins s2 σ H2 _ I2 q2) fun iv s3 ⟨y, H3, I3, ry, a, H4, ex, g, q3⟩ => ?_) hs
  subst ex
  obtain rfl : u = Value.ref a := rx
  exact d_setItem hu I3 g ry rv fun s4 I4 => ⟨σ, H4, I4, q3⟩
end
theorem dk_empty {P : Program} {w : World} {H : Hp} (h : Heap) (hb : sysModules < h.objs.size) : ObjOk P w H (h.push { cls := .type "dict", data := .dict #[] }) h.objs.size (.dK []) :=
  ⟨Nat.zero_le _, beq_eq_false_iff_ne.mpr (Ne.symm (Nat.ne_of_lt hb)), [], .nil, Heap.DictOf.new h⟩
def tDNewK : TE := fun _ H Q => ∀ p, H p = none → Q (.ref p) (upd H p (.dK []))
section
variable {X : Cx} {pos : Pos}
theorem pe_dnewK : PE X (.Dict [] [] pos) tDNewK := fun pins s σ H Q I h =>
  wpAny_Dict_empty ⟨.ref s.heap.objs.size, _, I.laid (a := s.heap.objs.size) (o := .dK []) (t' := s.toks) (fun _ _ q => Heap.get?_push_of_some _ q) (Nat.le_refl _) (dk_empty s.heap I.big), rfl, h _ (I.hok.fresh (Nat.le_refl _))⟩
end
def tPairs : List (TE × TE) → St → Hp → (List (V × V) → Hp → Prop) → Prop
  | [], _, H, Q => Q [] H
  | (tk, tv) :: r, σ, H, Q => tk σ H fun x H1 => tv σ H1 fun y H2 => tPairs r σ H2 fun ps H3 => Q ((x, y) :: ps) H3
abbrev VV : List (V × V) → List (Value × Value) → Prop := Paired fun p q => RelV p.1 q.1 ∧ RelV p.2 q.2
def PPs (X : Cx) (pos : Pos) (keys : List (Option Expr)) (values : List Expr) (trs : List (TE × TE)) : Prop :=
  ∀ (pins : List (Addr × Obj)) (s : Shared) (σ : St) (H : Hp) (Q : List (V × V) → Hp → Prop), Inv X pins σ H s → tPairs trs σ H Q →
    wpAny (model X.prog X.w) X.A (evalPairs (pairTrees keys values X.env pos)) (fun vs s' => ∃ ps H', Inv X pins σ H' s' ∧ VV ps vs ∧ Q ps H') X.xe s
theorem pps_nil {X : Cx} {pos : Pos} : PPs X pos [] [] [] := fun pins s σ H Q I h => pairTrees_nil_walk ⟨[], H, I, .nil, h⟩
theorem pps_cons {X : Cx} {pos : Pos} {k v : Expr} {ks : List (Option Expr)} {vs : List Expr} {tk tv : TE} {trs : List (TE × TE)} (hk : PE X k tk) (hv : PE X v tv) (hr : PPs X pos ks vs trs) :
    PPs X pos (some k :: ks) (v :: vs) ((tk, tv) :: trs) := fun pins s σ H Q I h =>
  pairTrees_cons_walk (thn (hk pins s σ H _ I h) fun u s1 ⟨x, H1, I1, rx, q1⟩ => thn (hv pins s1 σ H1 _ I1 q1) fun w2 s2 ⟨y, H2, I2, ry, q2⟩ =>
    thn (hr pins s2 σ H2 _ I2 q2) fun ws s3 ⟨ps, H3, I3, rel, q3⟩ => ⟨(x, y) :: ps, H3, I3, .cons ⟨rx, ry⟩ rel, q3⟩)
def mergeK (kvs more : List (Key × V)) : List (Key × V) := more.foldl (fun acc kv => putK acc kv.1 kv.2) kvs
theorem KV.merge : ∀ {more : List (Key × V)} {rs : List (Key × Value)} {kvs : List (Key × V)} {vs : List (Key × Value)}, KV more rs → KV kvs vs → KV (mergeK kvs more) (merged vs rs) := by
  intro more rs kvs vs r
  unfold KV at r
  induction r generalizing kvs vs with
  | nil => intro q; exact q
  | @cons p q ps qs h t ih =>
    intro r0
    have e : KV (putK kvs p.1 p.2) (stored vs q.1 q.2) := by
      have := r0.put p.1 h.2
      rw [← h.1]; exact this
    exact ih e
theorem length_mergeK : ∀ (more kvs : List (Key × V)), (mergeK kvs more).length ≤ kvs.length + more.length
  | [], kvs => by show kvs.length ≤ kvs.length + 0; omega
  | p :: r, kvs => by
    have h1 := length_mergeK r (putK kvs p.1 p.2)
    have h2 := length_putK kvs p.1 p.2
    show (mergeK (putK kvs p.1 p.2) r).length ≤ _
    rw [List.length_cons]; omega
theorem carries_of {P : Program} {w : World} : ∀ {kvs : List (Key × V)} {ws : List (Value × Value)}, VV (kvs.map fun kv => (kV kv.1, kv.2)) ws → ∃ rs, Carries (mixKind P w) ws rs ∧ KV kvs rs
  | [], _, r => by rw [List.map_nil] at r; cases r; exact ⟨[], True.intro, .nil⟩
  | p :: kvs, _, r => by
    rw [List.map_cons] at r
    cases r with
    | @cons a b as bs h t =>
      obtain ⟨rs, c, q⟩ := carries_of (P := P) (w := w) t
      obtain ⟨b1, b2⟩ := b
      exact ⟨(p.1, b2) :: rs, ⟨kV_is h.1, rfl, c⟩, .cons ⟨rfl, h.2⟩ q⟩
def tDisp (trs : List (TE × TE)) : TE := fun σ H Q => ∀ p, H p = none → tPairs trs σ (upd H p (.dK [])) fun ps H2 => H2 p = some (.dK []) ∧ ∃ kvs : List (Key × V), ps = kvs.map (fun kv => (kV kv.1, kv.2)) ∧ kvs.length ≤ 15 ∧ Q (.ref p) (upd H2 p (.dK (mergeK [] kvs)))
theorem pe_disp {X : Cx} {pos : Pos} {keys : List (Option Expr)} {values : List Expr} {trs : List (TE × TE)} (h : PPs X pos keys values trs) (hall : keys.all (·.isSome) = true) (hl : keys.length = values.length) (h0 : keys ≠ [])
    (h15 : keys.length ≤ 15) : PE X (.Dict keys values pos) (tDisp trs) := by
  intro pins s σ H Q I q
  have hn := I.hok.fresh (Nat.le_refl s.heap.objs.size)
  have I1 := I.laid (a := s.heap.objs.size) (o := .dK []) (h' := s.heap.push { cls := .type "dict", data := .dict #[] }) (t' := s.toks) (fun _ _ q => Heap.get?_push_of_some _ q) (Nat.le_refl _) (dk_empty s.heap I.big)
  refine wpAny_Dict_walk (knd := mixKind X.prog X.w) hall hl h0 h15 (thn (h pins _ σ _ _ I1 (q _ hn)) fun ws s2 ⟨ps, H2, I2, rel, e, kvs, ep, lk, q2⟩ => ?_)
  subst ep
  obtain ⟨rs, c, rk⟩ := carries_of (P := X.prog) (w := X.w) rel
  obtain ⟨z, hd, vs0, r0, dd⟩ := dk_of I2.hok e
  cases r0
  refine ⟨rs, c, dd, fun h' dd' hs => ⟨.ref s.heap.objs.size, _, ?_, rfl, q2⟩⟩
  have hz : (mergeK [] kvs).length ≤ sizeLine := by
    have h1 := length_mergeK kvs []
    rw [List.length_nil] at h1
    rw [sizeLine_eq]; omega
  have he : ∃ q, h'.get? s.heap.objs.size = some q := let ⟨q, _, _, hq, _⟩ := dd'; ⟨q, hq⟩
  exact d_write I2 (by rw [e]; exact True.intro) hs he (dk_new hz hd (rk.merge .nil) dd')
section
variable {X : Cx} {pins : List (Addr × Obj)} {σ : St} {H : Hp} {s : Shared} {a : Addr} {y d : V} {u r : Value} {o : Option V} {A : Around} {E : Value → Shared → Prop}
end
section
variable {X : Cx} {o e f : Expr} {apos cpos : Pos} {td ty tx : TE}
end
section
variable {X : Cx} {pins : List (Addr × Obj)} {σ : St} {H : Hp} {s : Shared} {a : Addr} {kvs : List (Key × V)} {A : Around} {E : Value → Shared → Prop}
end
section
variable {X : Cx} {pins : List (Addr × Obj)} {σ : St} {H : Hp} {s : Shared} {a : Addr} {y : V} {u : Value} {A : Around} {E : Value → Shared → Prop}
end
end L2
namespace HT
open PySem PyProof.Rows
def lexLt : List Int → List Int → Bool
  | [], [] => false
  | [], _ :: _ => true
  | _ :: _, [] => false
  | x :: xs, y :: ys => if x = y then lexLt xs ys else decide (x < y)
theorem lexLt_cons (x y : Int) (xs ys : List Int) : lexLt (x :: xs) (y :: ys) = if x = y then lexLt xs ys else decide (x < y) := rfl
theorem lexLt_nil_nil : lexLt [] [] = false := rfl
theorem lexLt_nil_cons (y : Int) (ys : List Int) : lexLt [] (y :: ys) = true := rfl
theorem lexLt_cons_nil (x : Int) (xs : List Int) : lexLt (x :: xs) [] = false := rfl
theorem eqAt_int (A : Around) (s : Shared) (a : Int) (t : Tok) (c : Int) (u : Tok) : ∃ e, SeqAt.EqAt A s (.int a t) (.int c u) e ∧ (e = true ↔ a = c) :=
  ⟨(a == c), SeqAt.EqAt.int_int a t c u, by simp⟩
section
open PySem.SeqAt
open PySem.AutoSeq1 (wpAny_loadPart')
open PySem.MeetsSeq PySem.MeetsSeq2 PySem.MeetsSeq3
end
section
variable {prog : Program} {w : World} {A : Around} {E : Value → Shared → Prop} {s : Shared}
def sIx (n d : Nat) : Option Int → Nat
  | none => d
  | some v => if v < 0 then (v + (n : Int)).toNat else min v.toNat n
end
end HT
namespace L2
open PySem PySem.Spec PyProof.Rows
abbrev TO := St → Hp → (Option Int → Hp → Prop) → Prop
def PO (X : Cx) (e : Option Expr) (t : TO) : Prop :=
  ∀ (pins : List (Addr × Obj)) (s : Shared) (σ : St) (H : Hp) (Q : Option Int → Hp → Prop), Inv X pins σ H s → t σ H Q →
    wpAny (model X.prog X.w) X.A (evalPart e X.env) (fun u s' => ∃ o H', Inv X pins σ H' s' ∧ IsPart u o ∧ Q o H') X.xe s
def tNoPart : TO := fun _ H Q => Q none H
def tPart (t : TE) : TO := fun σ H Q => t σ H fun x H1 => ∃ i, x = .int i ∧ Q (some i) H1
theorem intsAre_of {ns : List Int} : ∀ {us : List Value}, Vals (ns.map V.int) us → IntsAre us ns := by
  induction ns with
  | nil => intro us r; rw [List.map_nil] at r; cases r; exact .nil
  | cons n ns ih =>
    intro us r
    rw [List.map_cons] at r
    cases r with
    | cons r1 r2 =>
      obtain ⟨t, e⟩ := r1
      subst e
      exact .cons n t (ih r2)
section
variable {X : Cx} {e : Expr} {te : TE} {lo hi : Option Expr} {tl th : TO} {pos p2 : Pos}
theorem po_none : PO X none tNoPart := by
  intro pins s σ H Q I h
  rw [evalPart_none]
  exact wpAny_pure ⟨none, H, I, .none, h⟩
theorem po_some (h : PE X e te) : PO X (some e) (tPart te) := by
  intro pins s σ H Q I hw
  rw [evalPart_some]
  refine thn (h pins s σ H _ I hw) fun u s1 ⟨x, H1, I1, r1, q1⟩ => ?_
  obtain ⟨i, rfl, q⟩ := q1
  obtain ⟨t, rfl⟩ := r1
  exact ⟨some i, H1, I1, .int i t, q⟩
def SlR (X : Cx) (r : V → Option Int → Option Int → Hp → VK → Prop) : Prop :=
  ∀ (pins : List (Addr × Obj)) (s : Shared) (σ : St) (H : Hp) (x : V) (v vl vu : Value) (lo hi : Option Int) (sl : Addr) (Q : VK), Inv X pins σ H s → RelV x v → s.heap.IsSliceOf sl vl vu .none → IsPart vl lo → IsPart vu hi → r x lo hi H Q →
    ∃ T id, typeLookup (.type T) "__getitem__" = pure (some (.builtin id)) ∧ s.TypeIs v T ∧ wpAny (model X.prog X.w) X.A (getItem v (.ref sl)) (EP X pins σ Q) X.xe s
def tSl (r : V → Option Int → Option Int → Hp → VK → Prop) (te : TE) (tl th : TO) : TE := fun σ H Q => te σ H fun x H1 => tl σ H1 fun l H2 => th σ H2 fun u H3 => r x l u H3 Q
theorem pe_slice {r : V → Option Int → Option Int → Hp → VK → Prop} (hr : SlR X r) (he : PE X e te) (hl : PO X lo tl) (hu : PO X hi th) : PE X (.Subscript e (.Slice lo hi none p2) pos) (tSl r te tl th) := by
  intro pins s σ H Q I h
  refine Subscript_ (thn (he pins s σ H _ I h) fun v s1 ⟨x, H1, I1, r1, q1⟩ => ?_)
  refine wpAny_Slice (thn (hl pins s1 σ H1 _ I1 q1) fun vl s2 ⟨l, H2, I2, pl, q2⟩ => thn (hu pins s2 σ H2 _ I2 q2) fun vu s3 ⟨u, H3, I3, pu, q3⟩ => ?_)
  rw [evalPart_none]
  refine wpAny_pure ?_
  have I4 : Inv X pins σ H3 { s3 with heap := s3.heap.push { cls := .type "slice", data := .fields #[vl, vu, .none] } } := I3.kept (t' := s3.toks) fun b ob q => Heap.get?_push_of_some _ q
  obtain ⟨T, id, hT, ht, hg⟩ := hr pins { s3 with heap := s3.heap.push { cls := .type "slice", data := .fields #[vl, vu, .none] } } σ H3 x v vl vu l u s3.heap.objs.size Q I4 r1 (Heap.IsSliceOf.new ..) pl pu q3
  show wpAny (model X.prog X.w) X.A (subscriptTail e (.Slice lo hi none p2) v (.ref s3.heap.objs.size)) (EP X pins σ Q) X.xe { s3 with heap := s3.heap.push { cls := .type "slice", data := .fields #[vl, vu, .none] } }
  exact tail_any (ops := [.ref s3.heap.objs.size, v]) ht hT hg (by with_unfolding_all rfl)
def cutV (xs : List V) (lo hi : Option Int) : List V := (xs.drop (HT.sIx xs.length 0 lo)).take (HT.sIx xs.length xs.length hi - HT.sIx xs.length 0 lo)
theorem cutV_length (xs : List V) (lo hi : Option Int) : (cutV xs lo hi).length ≤ xs.length := by
  unfold cutV
  rw [List.length_take, List.length_drop]
  omega
end
end L2
namespace L2
open PySem PySem.Spec PyProof.Rows
def ixN (n : Nat) (i : Int) : Option Nat := if 0 ≤ i then (if i < n then some i.toNat else none) else if -(n : Int) ≤ i then some (i + n).toNat else none
def atI {α : Type} (xs : List α) (i : Int) : Option α := (ixN xs.length i).bind fun j => xs[j]?
theorem ixN_seq {n : Nat} {i : Int} {j : Nat} (h : ixN n i = some j) : seqIndex? i n = some j ∧ j < n ∧ -(n : Int) ≤ i ∧ i < n := by
  unfold ixN at h
  by_cases h0 : 0 ≤ i
  · rw [if_pos h0] at h
    by_cases h1 : i < n
    · rw [if_pos h1] at h
      have e : i.toNat = j := Option.some.inj h
      exact ⟨by rw [seqIndex_of h0 h1, e], by omega, by omega, h1⟩
    · rw [if_neg h1] at h; cases h
  · rw [if_neg h0] at h
    by_cases h1 : -(n : Int) ≤ i
    · rw [if_pos h1] at h
      have e : (i + n).toNat = j := Option.some.inj h
      exact ⟨by rw [seqIndex_neg (by omega) h1, e], by omega, h1, by omega⟩
    · rw [if_neg h1] at h; cases h
theorem atI_get {α : Type} {xs : List α} {i : Int} {v : α} (h : atI xs i = some v) : ∃ j, seqIndex? i xs.length = some j ∧ xs[j]? = some v ∧ j < xs.length ∧ -(xs.length : Int) ≤ i ∧ i < xs.length := by
  unfold atI at h
  cases e : ixN xs.length i with
  | none => rw [e] at h; cases h
  | some j =>
    rw [e] at h
    obtain ⟨h1, h2, h3, h4⟩ := ixN_seq e
    exact ⟨j, h1, h, h2, h3, h4⟩
theorem atI_nat {α : Type} {xs : List α} {j : Nat} {v : α} (h : xs[j]? = some v) : atI xs (j : Int) = some v := by
  have hj : j < xs.length := (List.getElem?_eq_some_iff.mp h).1
  have e : ixN xs.length (j : Int) = some j := by
    unfold ixN
    rw [if_pos (by omega), if_pos (by omega)]; simp
  unfold atI; rw [e]; exact h
def PlainIx (b : Expr) : Prop := ∀ o i, subscripted b false o i = operate [o, i] (getItem o i)
def IxR (X : Cx) (r : R2) : Prop :=
  ∀ (value slice : Expr) (pins : List (Addr × Obj)) (s : Shared) (σ : St) (H : Hp) (x y : V) (v u : Value) (Q : VK), Inv X pins σ H s → RelV x v → RelV y u → r x y H Q →
    subscripted slice false v u = operate [v, u] (getItem v u) → wpAny (model X.prog X.w) X.A (subscriptTail value slice v u) (EP X pins σ Q) X.xe s
def MtR (X : Cx) (id : String) (r : V → List V → Hp → VK → Prop) : Prop :=
  ∀ (pins : List (Addr × Obj)) (s : Shared) (σ : St) (H : Hp) (x : V) (xs : List V) (v : Value) (us : List Value) (Q : VK), Inv X pins σ H s → RelV x v → Vals xs us → r x xs H Q →
    wpAny (model X.prog X.w) X.A (call (.builtin id) (v :: us)) (EP X pins σ Q) X.xe s
section
variable {X : Cx} {a b : Expr} {ta tb : TE} {pos : Pos}
theorem pe_ix {r : R2} (hr : IxR X r) (ha : PE X a ta) (hb : PE X b tb) (hs : PlainIx b) : PE X (.Subscript a b pos) (tOp r ta tb) := by
  intro pins s σ H Q I h
  exact Subscript_ (binT ha hb I h fun v u s2 x y H2 I2 rx ry q => hr a b pins s2 σ H2 x y v u Q I2 rx ry q (hs _ _))
def rIxL (K : PySem.W.Frag) : R2 := fun x y H Q => ∃ p xs i v, x = .ref p ∧ y = .int i ∧ SqL K H p xs ∧ atI xs i = some v ∧ Q v H
def rIxT (K : PySem.W.Frag) : R2 := fun x y H Q => ∃ p xs i v, x = .ref p ∧ y = .int i ∧ SqT K H p xs ∧ atI xs i = some v ∧ Q v H
theorem ix_list : IxR X (rIxL X.K) := by
  intro value slice pins s σ H x y v u Q I rx ry h hs
  obtain ⟨p, xs, i, z, rfl, rfl, hq, he, q⟩ := h
  cases rx
  obtain ⟨t, rfl⟩ := ry
  obtain ⟨its, r, pl, hz⟩ := I.list hq
  obtain ⟨j, h1, h2, h3, h4, h5⟩ := atI_get he
  obtain ⟨w, ew, rw'⟩ := r.get h2
  have hl := r.length
  have hn := line63
  have fin : EP X pins σ Q w s := ⟨z, H, I, rw', q⟩
  by_cases h0 : 0 ≤ i
  · have hj : i.toNat = j := by
      rw [seqIndex_of h0 h5] at h1
      exact Option.some.inj h1
    exact item_listR pl.isList h0 (by omega) (by rw [hj]; simpa using ew) fin hs
  · have hj : (i + (its.toArray.size : Int)).toNat = j := by
      rw [seqIndex_neg (by omega) h4] at h1
      rw [List.size_toArray, ← hl]
      exact Option.some.inj h1
    exact subscriptTail_builtinR (x := w) pl.isList.typeIs slot_list_getitem.lookup
      (wpAny_getItem_list_neg (Q := fun r s' => r = w ∧ EP X pins σ Q r s') pl.isList (by omega) (by rw [List.size_toArray] <;> omega) (by omega) (by rw [hj]; simpa using ew) ⟨rfl, fin⟩) hs
theorem ix_tup : IxR X (rIxT X.K) := by
  intro value slice pins s σ H x y v u Q I rx ry h hs
  obtain ⟨p, xs, i, z, rfl, rfl, hq, he, q⟩ := h
  cases rx
  obtain ⟨t, rfl⟩ := ry
  obtain ⟨its, r, pl, hz⟩ := I.tuple hq
  obtain ⟨j, h1, h2, h3, h4, h5⟩ := atI_get he
  obtain ⟨w, ew, rw'⟩ := r.get h2
  have hl := r.length
  have hn := line63
  have fin : EP X pins σ Q w s := ⟨z, H, I, rw', q⟩
  exact subscriptTail_builtinR (x := w) pl.typeIs slot_tuple_getitem.lookup
    (getItem_tuple (j := j) (Q := fun r s' => r = w ∧ EP X pins σ Q r s') pl (by omega) (by omega) (by rw [List.size_toArray, ← hl]; exact h1) (by simpa using ew) ⟨rfl, fin⟩) hs
theorem mapSeq_set (its : List Value) (n j : Nat) (u : Value) : Obj.mapSeq (·.setIfInBounds j u) { cls := .type "list", data := .seq its.toArray n } = { cls := .type "list", data := .seq (its.set j u).toArray n } := by
  simp [Obj.mapSeq]
theorem Inv.lst {pins : List (Addr × Obj)} {σ : St} {H : Hp} {s : Shared} {p : Addr} {xs : List V} (I : Inv X pins σ H s) (h : H p = some (.lst xs)) :
    ∃ (its : List Value) (n : Nat), Vals xs its ∧ s.heap.get? p = some { cls := .type "list", data := .seq its.toArray n } ∧ xs.length ≤ sizeLine := by
  obtain ⟨z, its, n, r, e⟩ := I.hok p _ h
  exact ⟨its, n, r, e, z⟩
theorem Inv.lstUpd {pins : List (Addr × Obj)} {σ : St} {H : Hp} {s : Shared} {p : Addr} {xs ys : List V} {its its' : List Value} {n n' : Nat} {f : Obj → Obj} (I : Inv X pins σ H s) (h : H p = some (.lst xs))
    (ho : s.heap.get? p = some { cls := .type "list", data := .seq its.toArray n }) (hf : f { cls := .type "list", data := .seq its.toArray n } = { cls := .type "list", data := .seq its'.toArray n' }) (r : Vals ys its') (hz : ys.length ≤ sizeLine) (t : Nat) :
    Inv X pins σ (upd H p (.lst ys)) { s with heap := s.heap.update p f, toks := t } := by
  have e : (s.heap.update p f).get? p = some { cls := .type "list", data := .seq its'.toArray n' } := by
    rw [Heap.get?_update_self f ho (by rw [hf] <;> rfl), hf]
  refine I.write (x := p) (e := p) (by rw [h]; trivial) (.inl rfl) (fun b u hb q => (Heap.get?_update_other _ _ (Ne.symm hb)).trans q) ⟨_, e⟩ ?_
  exact ⟨hz, its', n', r, e⟩
def rSetL : V → V → V → Hp → (Hp → Prop) → Prop := fun o i v H Q => ∃ p xs k j, o = .ref p ∧ i = .int k ∧ H p = some (.lst xs) ∧ ixN xs.length k = some j ∧ Q (upd H p (.lst (xs.set j v)))
theorem set_list : PSet X rSetL := by
  intro pins s σ H o i v ov iv u Q I ro ri rv h
  obtain ⟨p, xs, k, j, rfl, rfl, hp, hj, q⟩ := h
  cases ro
  obtain ⟨t, rfl⟩ := ri
  obtain ⟨its, n, r, ho, hz⟩ := I.lst hp
  obtain ⟨h1, h2, h3, h4⟩ := ixN_seq hj
  have hl := r.length
  have hn := line63
  have I' : Inv X pins σ (upd H p (.lst (xs.set j v))) { s with heap := s.heap.update p (Obj.mapSeq (·.setIfInBounds j u)) } :=
    I.lstUpd hp ho (mapSeq_set its n j u) (r.set rv j) (by rw [List.length_set]; exact hz) s.toks
  by_cases h0 : 0 ≤ k
  · have hk : k.toNat = j := by
      rw [seqIndex_of h0 h4] at h1
      exact Option.some.inj h1
    exact PySem.W.ki_setAt ho h0 (by omega) (by rw [List.size_toArray, ← hl]; exact h4) (by rw [hk]; exact ⟨_, I', q⟩)
  · have hk : (k + (its.toArray.size : Int)).toNat = j := by
      rw [seqIndex_neg (by omega) h3] at h1
      rw [List.size_toArray, ← hl]
      exact Option.some.inj h1
    exact PySem.W.ki_setBack ho (by omega) (by rw [List.size_toArray, ← hl]; exact h3) (by omega) (by rw [hk]; exact ⟨_, I', q⟩)
theorem slice_bounds (lo hi : Option Int) (n : Nat) : (sliceBounds lo hi none n).1 = ((HT.sIx n 0 lo : Nat) : Int) ∧ (sliceBounds lo hi none n).2.1 = ((HT.sIx n n hi : Nat) : Int) ∧ (sliceBounds lo hi none n).2.2 = 1 := by
  refine ⟨?_, ?_, rfl⟩
  · cases lo with
    | none => simp [sliceBounds, HT.sIx]
    | some i =>
      simp only [sliceBounds, HT.sIx, Option.getD_none, show (1 : Int) > 0 by decide, if_true]
      by_cases h : i < 0
      · simp only [h, if_true] <;> omega
      · simp only [h, if_false] <;> omega
  · cases hi with
    | none => simp [sliceBounds, HT.sIx]
    | some i =>
      simp only [sliceBounds, HT.sIx, Option.getD_none, show (1 : Int) > 0 by decide, if_true]
      by_cases h : i < 0
      · simp only [h, if_true] <;> omega
      · simp only [h, if_false] <;> omega
theorem slicePick_cut (its : List Value) (lo hi : Option Int) : slicePick its.toArray lo hi none = ((its.drop (HT.sIx its.length 0 lo)).take (HT.sIx its.length its.length hi - HT.sIx its.length 0 lo)).toArray := by
  obtain ⟨h1, h2, h3⟩ := slice_bounds lo hi its.toArray.size
  unfold slicePick
  rw [h1, h2, h3]
  simp only [sliceRange_one, pick_run, List.size_toArray] <;> rfl
def rSlL (K : PySem.W.Frag) : V → Option Int → Option Int → Hp → VK → Prop := fun x lo hi H Q => ∃ a xs, x = .ref a ∧ SqL K H a xs ∧ ∀ p, H p = none → Q (.ref p) (upd H p (.lst (cutV xs lo hi)))
theorem sl_list : SlR X (rSlL X.K) := by
  intro pins s σ H x v vl vu lo hi sl Q I rx hs pl pu h
  obtain ⟨a, xs, rfl, hx, q⟩ := h
  cases rx
  obtain ⟨its, r, ht, hz⟩ := I.list hx
  have hlen := r.length
  refine ⟨"list", _, slot_list_getitem.lookup, ht.isList.typeIs, ?_⟩
  refine wpAny_getItem_list_slice ht.isList hs pl pu .none (by simp) ?_ (by rw [List.size_toArray] <;> omega)
  rw [slicePick_cut, ← hlen]
  refine ⟨.ref s.heap.objs.size, _, I.laid (t' := s.toks) (o := .lst (cutV xs lo hi)) (fun b ob q => Heap.get?_push_of_some _ q) (Nat.le_refl _) ?_, rfl, q _ (I.hok.fresh (Nat.le_refl _))⟩
  exact ⟨Nat.le_trans (cutV_length xs lo hi) hz, _, 0, (r.drop (HT.sIx xs.length 0 lo)).take (HT.sIx xs.length xs.length hi - HT.sIx xs.length 0 lo), Heap.get?_push_size _ rfl⟩
theorem call_len_seq : CallR X (.builtin "len") (fun xs H Q => ∃ p ys, xs = [.ref p] ∧ (SqL X.K H p ys ∨ SqT X.K H p ys) ∧ Q (.int ys.length) H) := by
  intro pins s σ H xs us Q I r h
  obtain ⟨p, ys, rfl, hq, q⟩ := h
  obtain ⟨u, rfl, rx⟩ := vals1 r
  cases rx
  have hn := line63
  rcases hq with hq | hq
  · obtain ⟨its, r', pl, hz⟩ := I.list hq
    have hlen := r'.length
    exact Calls.call_len_list pl.isList (by simp only [List.size_toArray] <;> omega) ⟨.int ys.length, H, I.tok _, ⟨s.toks + 1, by rw [List.size_toArray, hlen]⟩, q⟩
  · obtain ⟨its, r', pl, hz⟩ := I.tuple hq
    have hlen := r'.length
    exact len_tuple pl (by simp only [List.size_toArray] <;> omega) ⟨.int ys.length, H, I.tok _, ⟨s.toks + 1, by rw [List.size_toArray, hlen]⟩, q⟩
theorem call_tuple_of : CallR X (.type "tuple") (fun xs H Q => ∃ p ys, xs = [.ref p] ∧ ((SqL X.K H p ys ∧ ∀ l, H l = none → Q (.ref l) (upd H l (.tup ys))) ∨ (SqT X.K H p ys ∧ Q (.ref p) H))) := by
  intro pins s σ H xs us Q I r h
  obtain ⟨p, ys, rfl, h⟩ := h
  obtain ⟨u, rfl, rx⟩ := vals1 r
  cases rx
  rcases h with ⟨hq, q⟩ | ⟨hq, q⟩
  · obtain ⟨its, r', pl, hz⟩ := I.list hq
    have hlen := r'.length
    refine call_tuple_list pl.isList (fun h' kp => ?_) (by simp only [List.size_toArray] <;> omega)
    have I1 : Inv X pins σ H { s with heap := h' } := I.kept (t' := s.toks) kp
    have I2 : Inv X pins σ (upd H h'.objs.size (.tup ys)) { s with heap := h'.push { cls := .type "tuple", data := .seq its.toArray } } :=
      I1.laid (t' := s.toks) (fun b o e => Heap.get?_push_of_some _ e) (Nat.le_refl _) (show ObjOk X.prog X.w _ _ _ (.tup ys) from ⟨hz, its, r', IsTpl.new _ _⟩)
    exact ⟨.ref h'.objs.size, _, I2, rfl, q _ (I1.hok.fresh (Nat.le_refl _))⟩
  · obtain ⟨its, r', pl, hz⟩ := I.tuple hq
    exact call_tuple_same pl ⟨.ref p, H, I, rfl, q⟩
def tyV (K : PySem.W.Frag) (T : String) (x : V) (H : Hp) : Prop := match x with
  | .str _ => T = "str"
  | .int _ => T = "int"
  | .ref p => (T = "list" ∧ ∃ xs, SqL K H p xs) ∨ (T = "tuple" ∧ ∃ o, K.lookup p = some o ∧ o.cls = .type "tuple" ∧ o.dict = none) ∨
      (T = "dict" ∧ ((∃ kvs, H p = some (.dK kvs)) ∨ ∃ kvs, H p = some (.dT kvs))) ∨ (T = "set" ∧ ∃ S n, H p = some (.set S n))
  | _ => False
theorem tyV_is {pins : List (Addr × Obj)} {σ : St} {H : Hp} {s : Shared} {T : String} {x : V} {v : Value} (I : Inv X pins σ H s) (r : RelV x v) (ty : tyV X.K T x H) :
    s.TypeIs v T ∧ ∀ a, v = .ref a → ∃ ob, s.heap.get? a = some ob ∧ ob.dict = none := by
  cases x with
  | str z =>
    obtain ⟨t, rfl⟩ := r
    cases (show T = "str" from ty)
    exact ⟨typeIs_str s z t, fun _ e => nomatch e⟩
  | int i =>
    obtain ⟨t, rfl⟩ := r
    cases (show T = "int" from ty)
    exact ⟨typeIs_int s i t, fun _ e => nomatch e⟩
  | ref p =>
    cases r
    rcases ty with ⟨rfl, xs, hq⟩ | ⟨rfl, o, hk, hc, hd⟩ | ⟨rfl, hk⟩ | ⟨rfl, S, n, hk⟩
    · obtain ⟨its, _, pl, _⟩ := I.list hq
      refine ⟨pl.isList.typeIs, fun a e => ?_⟩
      cases e
      obtain ⟨o, n, e, c, hd, _⟩ := pl
      exact ⟨o, e, hd⟩
    · refine ⟨⟨o, I.kIn p o hk, hc⟩, fun a e => ?_⟩
      cases e
      exact ⟨o, I.kIn _ o hk, hd⟩
    · have z : ∃ o, s.heap.get? p = some o ∧ o.ExactDict := by
        rcases hk with ⟨kvs, hk⟩ | ⟨kvs, hk⟩
        · obtain ⟨_, _, _, _, o, _, _, e, ex, _⟩ := I.hok p _ hk
          exact ⟨o, e, ex⟩
        · obtain ⟨_, _, _, _, o, _, _, e, ex, _⟩ := I.hok p _ hk
          exact ⟨o, e, ex⟩
      obtain ⟨o, e, ex⟩ := z
      refine ⟨⟨o, e, ex.1⟩, fun a e2 => ?_⟩
      cases e2
      exact ⟨o, e, ex.2.1⟩
    · obtain ⟨o, _, _, _, e, ex, _⟩ := I.hok p _ hk
      refine ⟨⟨o, e, ex.1⟩, fun a e2 => ?_⟩
      cases e2
      exact ⟨o, e, ex.2.1⟩
  | _ => exact False.elim ty
def tBM0 (K : PySem.W.Frag) (T : String) (r : V → List V → Hp → VK → Prop) (to : TE) : TE := fun σ H Q => to σ H fun x H1 => tyV K T x H1 ∧ r x [] H1 Q
def tBM (K : PySem.W.Frag) (T : String) (r : V → List V → Hp → VK → Prop) (to : TE) (t : TA) : TE := fun σ H Q => to σ H fun x H1 => tyV K T x H1 ∧ t σ H1 fun xs H2 => r x xs H2 Q
variable {o e : Expr} {es : List Expr} {to : TE} {t : TA} {name : Str} {apos cpos : Pos} {T id : String} {r : V → List V → Hp → VK → Prop}
theorem pe_bm0 (pa : PlainAttrs T) (slot : Slot T name id) (hty : typeOf (.builtin id) = pure (.type "method_descriptor")) (hm : MtR X id r) (ho : PE X o to)
    (hbase : attributeBase o name X.env (eval o X.env) = eval o X.env := by rfl) (hline : (apos.endLine == cpos.line) = true := by rfl) : PE X (.Call (.Attribute o name apos) [] [] cpos) (tBM0 X.K T r to) := by
  intro pins s σ H Q I h
  refine wpAny_Call_method0_late hbase hline (thn (ho pins s σ H _ I h) fun v s1 ⟨x, H1, I1, r1, ty, q1⟩ => ?_)
  obtain ⟨h1, h2⟩ := tyV_is I1 r1 ty
  exact ⟨T, id, pa, slot, hty, h1, h2, Calls.callWith_builtin rfl (PySem.evalArgs_none (hm pins s1 σ H1 x [] v [] Q I1 r1 .nil q1))⟩
theorem pe_bm (pa : PlainAttrs T) (slot : Slot T name id) (hty : typeOf (.builtin id) = pure (.type "method_descriptor")) (hm : MtR X id r) (ho : PE X o to) (ha : PA X (e :: es) t)
    (hbase : attributeBase o name X.env (eval o X.env) = eval o X.env := by rfl)
    (hfew : ((backTo cpos (starEach (e :: es) X.env)).all (fun x => !x.1) && (backToKw cpos (keywordEach [] X.env)).all (fun x => x.1.isSome)
      && decide ((e :: es).length + ([] : List Keyword).length + (if ([] : List Keyword).isEmpty then 0 else 1) < 30)) = true := by rfl)
    (hline : (apos.endLine == cpos.line) = true := by rfl) (hs : starEach (e :: es) X.env = (false, eval e X.env) :: starEach es X.env := by rfl) (hplain : (backTo cpos (starEach es X.env)).any (·.1) = false := by rfl) :
    PE X (.Call (.Attribute o name apos) (e :: es) [] cpos) (tBM X.K T r to t) := by
  intro pins s σ H Q I h
  refine wpAny_Call_method_late hbase hfew hline rfl (thn (ho pins s σ H _ I h) fun v s1 ⟨x, H1, I1, r1, ty, q1⟩ => ?_)
  obtain ⟨h1, h2⟩ := tyV_is I1 r1 ty
  refine ⟨T, id, pa, slot, hty, h1, h2, ?_⟩
  have hA := ha cpos pins s1 σ H1 _ I1 q1
  rw [hs] at hA ⊢
  refine Calls.callWith_builtin (by show (false || (backTo cpos (starEach es X.env)).any (·.1)) = false; rw [hplain] <;> rfl) (Calls.evalArgs_plain ?_)
  exact thn hA fun us s2 ⟨vs, H2, I2, r2, q2⟩ => hm pins s2 σ H2 x vs v us Q I2 r1 r2 q2
end
end L2
namespace L2
open PySem PySem.Spec PyProof.Rows
def MtM (X : Cx) (id : String) (r : V → List V → Hp → VK → Prop) : Prop :=
  ∀ (pins : List (Addr × Obj)) (s : Shared) (σ : St) (H : Hp) (x : V) (xs : List V) (v : Value) (us : List Value) (Q : VK), Inv X pins σ H s → RelV x v → Vals xs us → r x xs H Q →
    wpAny (model X.prog X.w) X.A (call (.builtin id) (v :: us)) (EP X pins σ Q) X.xe s
theorem Vals.one : ∀ {x : V} {us : List Value}, Vals [x] us → ∃ u, us = [u] ∧ RelV x u
  | _, _, .cons r .nil => ⟨_, rfl, r⟩
theorem Vals.zero : ∀ {us : List Value}, Vals [] us → us = []
  | _, .nil => rfl
theorem Vals.reverse {xs : List V} {us : List Value} (h : Vals xs us) : Vals xs.reverse us.reverse := by
  induction h with
  | nil => exact .nil
  | cons r t ih => rw [List.reverse_cons, List.reverse_cons]; exact Vals.append ih (.cons r .nil)
section
variable {X : Cx} {pins : List (Addr × Obj)} {σ : St} {H : Hp} {s : Shared} {l b : Addr} {xs ys zs : List V}
theorem Inv.lset {its its' : List Value} {n : Nat} {f : Array Value → Array Value} {t' : Nat} (I : Inv X pins σ H s) (hH : H l = some (.lst xs))
    (e : s.heap.get? l = some { cls := .type "list", data := .seq its.toArray n }) (hf : f its.toArray = its'.toArray) (hv : Vals ys its') (hz : ys.length ≤ sizeLine) :
    Inv X pins σ (upd H l (.lst ys)) { s with heap := s.heap.update l (Obj.mapSeq f), toks := t' } := by
  have q := PySem.IsL.update e f
  rw [hf] at q
  refine I.write (x := l) (e := l) (by rw [hH]; exact trivial) (.inl rfl) (fun b' u hb hu => (Heap.get?_update_other s.heap (Obj.mapSeq f) (Ne.symm hb)).trans hu) ⟨_, q⟩ ?_
  exact ⟨hz, its', _, hv, q⟩
theorem Inv.lnew {its : List Value} {t' : Nat} (I : Inv X pins σ H s) (hv : Vals ys its) (hz : ys.length ≤ sizeLine) :
    Inv X pins σ (upd H s.heap.objs.size (.lst ys)) { s with heap := s.heap.push { cls := .type "list", data := .seq its.toArray }, toks := t' } :=
  I.laid (fun _ _ q => Heap.get?_push_of_some _ q) (Nat.le_refl _) ⟨hz, its, 0, hv, Heap.get?_push_size _ rfl⟩
theorem Inv.fresh (I : Inv X pins σ H s) : H s.heap.objs.size = none := I.hok.fresh (Nat.le_refl _)
theorem Inv.lstM (I : Inv X pins σ H s) (hH : H l = some (.lst xs)) : xs.length ≤ sizeLine ∧ ∃ (its : List Value) (n : Nat), Vals xs its ∧ xs.length = its.length ∧ s.heap.get? l = some { cls := .type "list", data := .seq its.toArray n } := by
  obtain ⟨z, its, n, r, e⟩ := I.hok l _ hH
  exact ⟨z, its, n, r, r.length, e⟩
theorem notLongL {n : Nat} (h : n ≤ sizeLine) : Builtin.List.listTooLong n = false := by
  unfold Builtin.List.listTooLong
  exact decide_eq_false (by omega)
end
section
variable {X : Cx}
def rAppend : V → List V → Hp → VK → Prop := fun x vs H Q => ∃ l xs y, x = .ref l ∧ vs = [y] ∧ H l = some (.lst xs) ∧ xs.length < sizeLine ∧ Q .non (upd H l (.lst (xs ++ [y])))
theorem mt_append : MtM X "list.append" rAppend := by
  intro pins s σ H x vs v us Q I rx rv h
  obtain ⟨l, xs, y, rfl, rfl, hH, hz, q⟩ := h
  cases rx
  obtain ⟨u, rfl, ru⟩ := rv.one
  obtain ⟨z, its, n, r, hl, e⟩ := I.lstM hH
  refine call_meets F.slot_list_append ⟨_, e, rfl⟩ F.entry_list_append (F.args_list_append_2 _ _) (PySem.list_append l its.toArray n u (by rw [List.size_toArray]; omega)) ⟨e, ?_⟩
  refine ⟨.non, _, I.lset (its' := its ++ [u]) hH e (by simp) (r.append (.cons ru .nil)) ?_, rfl, q⟩
  rw [List.length_append, List.length_singleton]
  omega
def rExtend : V → List V → Hp → VK → Prop := fun x vs H Q => ∃ l b xs zs, x = .ref l ∧ vs = [.ref b] ∧ H l = some (.lst xs) ∧ H b = some (.lst zs) ∧ xs.length + zs.length ≤ sizeLine ∧ Q .non (upd H l (.lst (xs ++ zs)))
theorem mt_extend : MtM X "list.extend" rExtend := by
  intro pins s σ H x vs v us Q I rx rv h
  obtain ⟨l, b, xs, zs, rfl, rfl, hH, hB, hz, q⟩ := h
  cases rx
  obtain ⟨u, rfl, ru⟩ := rv.one
  cases ru
  obtain ⟨z, its, n, r, hl, e⟩ := I.lstM hH
  obtain ⟨z2, its2, n2, r2, hl2, e2⟩ := I.lstM hB
  have hsz : its.toArray.size + its2.toArray.size ≤ sizeLine := by rw [List.size_toArray, List.size_toArray]; omega
  have hlong : ¬ (!its.toArray.isEmpty && Builtin.List.listTooLong (its.toArray.size + its2.toArray.size)) = true := by
    rw [notLongL hsz, Bool.and_false]
    exact Bool.false_ne_true
  refine call_meets F.slot_list_extend ⟨_, e, rfl⟩ F.entry_list_extend (F.args_list_extend_2 _ _)
    (AutoSeq1.list_extend_list_list_0 l its.toArray n b its2.toArray n2 hlong (by rw [List.size_toArray]; omega) (by omega)) ⟨e, e2, ?_⟩
  refine ⟨.non, _, I.lset (its' := its ++ its2) hH e (by simp) (r.append r2) ?_, rfl, q⟩
  rw [List.length_append]
  omega
def rCat : R2 := fun x y H Q => ∃ l b xs zs, x = .ref l ∧ y = .ref b ∧ H l = some (.lst xs) ∧ H b = some (.lst zs) ∧ xs.length + zs.length ≤ sizeLine ∧ ∀ p, H p = none → Q (.ref p) (upd H p (.lst (xs ++ zs)))
theorem op_cat : OpR X (binaryOp .Add) rCat := by
  intro pins s σ H x y v u Q I rx ry h
  obtain ⟨l, b, xs, zs, rfl, rfl, hH, hB, hz, q⟩ := h
  cases rx
  cases ry
  obtain ⟨z, its, n, r, hl, e⟩ := I.lstM hH
  obtain ⟨z2, its2, n2, r2, hl2, e2⟩ := I.lstM hB
  refine PySem.P.add_list e e2 ?_ (by rw [List.size_toArray, List.size_toArray]; omega)
  have ea : its.toArray ++ its2.toArray = (its ++ its2).toArray := by simp
  rw [ea]
  exact ⟨.ref _, _, I.lnew (t' := s.toks) (r.append r2) (by rw [List.length_append]; omega), rfl, q _ I.fresh⟩
end
section
variable {prog : Program} {w : World} {A : Around} {E : Value → Shared → Prop} {s : Shared}
end
section
variable {X : Cx}
end
end L2
namespace Att
open PySem PySem.W PySem.Calls PyProof.Rows
theorem ints_of_wellAll {P : Params} {h : Heap} : ∀ (ns : List Int) (vs : List Value), WellAll P h vs (ns.map WData.int) → IntsAre vs ns := by
  intro ns
  induction ns with
  | nil =>
    intro vs w
    rw [List.map_nil] at w
    cases w
    exact .nil
  | cons n ns ih =>
    intro vs w
    rw [List.map_cons] at w
    cases w with
    | cons a b =>
      cases a
      exact .cons _ _ (ih _ b)
theorem script_of {l : OpenLaw} {n : Nat} (hn : l.most = some n) {P : Params} {h : Heap} {args : List WData} {vals : List Value}
    (hpre : l.row.toRowW.claim.pre args = true) (hwl : WellAll P h vals args) :
    ∃ a vs ns, vals = [Value.ref a] ∧ args = [WData.list (ns.map WData.int)] ∧ h.get? a = some { cls := .type "list", data := .seq vs.toArray } ∧ IntsAre vs ns ∧ ns.length ≤ n := by
  have hsh : WShape.hasAll [] args [.list .int] = true := (pre_splitW hpre).1
  have hc : l.pre.holds [] { args := args } = true := (pre_splitW hpre).2
  obtain ⟨d, r, rfl, h1, h2⟩ := hasAllW_cons hsh
  obtain rfl := hasAllW_nil h2
  obtain ⟨xs, rfl, h3⟩ := hasW_list h1
  obtain ⟨ns, rfl⟩ := items_int h3
  have hlen : ns.length ≤ n := by
    unfold OpenLaw.pre at hc
    have h4 : (WTm.not (.lt (.lit (.int (n : Int))) (.len (.arg 0)))).holds [] { args := [.list (ns.map .int)] } = true := by
      have h4 := (holds_andW hc).1
      rw [hn] at h4
      exact h4
    have h5 := condW_of h4 (w_not (w_lt w_lit (w_len_list (w_arg rfl))))
    rw [List.length_map] at h5
    refine Nat.le_of_not_lt fun q => ?_
    have q' : (n : Int) < ((ns.length : Nat) : Int) := by omega
    first
      | (rw [decide_eq_true q'] at h5; exact absurd h5 (by decide))
      | (simp at h5; omega)
  cases hwl with
  | cons w1 w2 =>
    cases w2
    cases w1 with
    | list ho hall => exact ⟨_, _, ns, rfl, rfl, ho, ints_of_wellAll ns _ hall, hlen⟩
theorem post_true (l : OpenLaw) (args : List WData) : l.row.toRowW.claim.post args (.bool true) args = true :=
  postW_of (r := l.row.toRowW) (X := (true == true))
    (show WShape.has [] (.bool true) .bool = true by first | rfl | decide | simp [WShape.has, WShape.arms, WShape.armsAll])
    (show (WTm.eq .res (.lit (.bool true))).value [] { args := args, res := some (.bool true), after := args } = some (.bool (true == true)) from w_eq_bool (w_res rfl) w_lit) rfl
theorem attach_call {l : OpenLaw} {n : Nat} {q : Program} {loose : List Str} {XP : (Str → Option Value) → Heap → Prop} {YP : World → Heap → Prop} {d : DefRec}
    (hn : l.most = some n) (hdf : d.params.defaults = [])
    (call : ∀ (w : World) (s₀ s₁ : Shared) (mg mb : Str → Option Value) (fa : Addr) (o : Obj) (pm cd doc : Value) (a : Addr) (vs : List Value) (ns : List Int),
      Ground q loose [] XP w s₀ mg mb s₁.heap → YP w s₁.heap →
      s₁.heap.get? fa = some o → o.data = .func (docDef d.name d.params d.body d.scope pm cd doc) → s₁.heap.CodeRec cd d.name → mg d.name = some (.ref fa) →
      s₁.heap.get? a = some { cls := .type "list", data := .seq vs.toArray } → IntsAre vs ns → ns.length ≤ n → s₁.gens = #[] →
      codeAny (model l.prog w) callerA (.call (.ref fa) ⟨[.ref a], []⟩) (fun r s' => r = .ok (.ret (.bool true)) ∧ OldK s₁.heap s'.heap ∧ s'.os = s₁.os ∧ AllBare s'.gens) s₁) :
    WalkO q loose XP YP l.row.toRowW d [] (fun f vs => PySem.call f vs) := by
  intro w s₀ s₁ mg mb G Y fa o pm cd doc dV kV ho hd hcd hD hmg hg args vals as hpre hlay hrd hwl hlo
  obtain rfl : dV = .none := Dflts.none hD hdf
  obtain rfl : kV = .none := Dflts.noKw hD
  obtain ⟨a, vs, ns, rfl, rfl, hobj, hints, hlen⟩ := script_of hn hpre hwl
  refine enter_call (codeAny_mono (call w s₀ s₁ mg mb fa o pm cd doc a vs ns G Y ho (fd_plain hd) hcd hmg hobj hints hlen hg) fun r s' hq => ?_)
  obtain ⟨rfl, h2, h3, h4⟩ := hq
  exact ⟨.inl ⟨.bool true, .bool true, [], rfl, fun _ => rfl, .bool true, post_true l _, fun _ => ⟨List.Pairwise.nil, fun _ hm => (nomatch hm)⟩⟩, h2, h3, h4⟩
section
variable {prog : Program} {w : World} {A : Around} {E : Value → Shared → Prop} {s : Shared} {K : Frag}
end
end Att
namespace L2
open PySem PySem.Spec PyProof.Rows
theorem vals_ints : ∀ {vs : List Value} {ns : List Int}, IntsAre vs ns → Vals (ns.map V.int) vs
  | _, _, .nil => .nil
  | _, _, .cons n t h => .cons ⟨t, rfl⟩ (vals_ints h)
def Only (H : Hp) : Prop := ∀ b, H b = none ∨ ∃ o xs, H b = some (.frz o (.lst xs))
theorem law_call {P : Program} {w : World} {K : PySem.W.Frag} {mg mb : Str → Option Value} {CX : CXT} {k : Nat} {fa a : Addr} {fd : FuncData} {x : Str} {sp : Sp} {s₁ : Shared} {vs : List Value} {ns : List Int}
    (KX : K.In s₁.heap) (hns : s₁.heap.Ns mainGlobals mg) (hb : s₁.heap.Ns builtinsNs mb) (hbb : ∀ x : Str, x ≠ "__name__" → mb x = bootBuiltins x) (hlim : s₁.heap.NoLimit) (hg : s₁.gens = #[])
    (ha : s₁.heap.get? a = some { cls := .type "list", data := .seq vs.toArray }) (hi : IntsAre vs ns) (hl : ns.length ≤ sizeLine) (hr : Room k callerA)
    (F : ∀ base : Heap, K.In base → base.Ns mainGlobals mg → FnOk P w K mg base CX k fa fd [x] sp) (hbind : ∀ (s : Shared) (u : Value), BindsTo s fd ⟨[u], []⟩ [(x, u)])
    (hsp : ∀ H : Hp, Only H → SqL K H a (ns.map V.int) → sp [.ref a] H (fun v _ => v = .bl true) fun _ _ _ => False)
    (hCX : ∀ H e s', CX [] H s₁ (fun _ _ _ => False) e s' → False) :
    codeAny (model P w) callerA (.call (.ref fa) ⟨[.ref a], []⟩) (fun r s' => r = .ok (.ret (.bool true)) ∧ OldK s₁.heap s'.heap ∧ s'.os = s₁.os ∧ AllBare s'.gens) s₁ := by
  have rv := vals_ints hi
  have lenV := hi.length
  -- from an abstract heap in which nothing but the script may be tracked
  have core : ∀ H : Hp, Only H → SqL K H a (ns.map V.int) → HOk P w H s₁.heap → (∀ b, H b ≠ none → b = a) → (H a ≠ none → K.lookup a = none) →
      codeAny (model P w) callerA (.call (.ref fa) ⟨[.ref a], []⟩) (fun r s' => r = .ok (.ret (.bool true)) ∧ OldK s₁.heap s'.heap ∧ s'.os = s₁.os ∧ AllBare s'.gens) s₁ := by
    intro H hO hS hok hA hK
    have base_of : ∀ {b : Addr} {o : Obj}, s₁.heap.get? b = some o → H b = none → (hidT s₁.heap H).get? b = some o := fun e n => hidT_get e n
    have noA : ∀ {b : Addr} {o : Obj} {es : Array DictEntry} {ep : Nat}, s₁.heap.get? b = some o → o.data = .dict es ep → H b = none := fun {b o es ep} e d => by
      cases q : H b with
      | none => rfl
      | some u =>
        have e' : b = a := hA b (by rw [q]; simp)
        subst e'
        rw [ha] at e; cases e
        have d' : Data.seq vs.toArray _ = Data.dict es ep := d
        cases d'
    have nsK : ∀ {b : Addr} {m : Str → Option Value}, s₁.heap.Ns b m → (hidT s₁.heap H).Ns b m := fun {b m} ⟨o, es, ep, e, d, r⟩ => ⟨o, es, ep, base_of e (noA e d), d, r⟩
    have hKb : K.In (hidT s₁.heap H) := fun b o e => base_of (KX b o e) (by
      cases q : H b with
      | none => rfl
      | some u =>
        have e' : b = a := hA b (by rw [q]; simp)
        subst e'
        rw [hK (by rw [q]; simp)] at e; cases e)
    have hM : Mod K mg (hidT s₁.heap H) := ⟨hKb, nsK hns, ⟨mb, nsK hb, hbb⟩, let ⟨mc, h1, h2⟩ := hlim; ⟨mc, nsK h1, h2⟩⟩
    have e0 : Env0 P w K mg (hidT s₁.heap H) callerA [] s₁ H := ⟨rfl, hM, fun b o e => of_hidT e, Nat.le_of_eq (hidT_size _ _), trivial, fun b hb => absurd (show b ∈ ([] : List Addr) from hb) (by simp), hok, .of_eq hg⟩
    refine codeAny_mono ((F _ hKb (nsK hns)).run callerA [] s₁ H ⟨[.ref a], []⟩ [.ref a] [.ref a] _ _ hr e0 (hbind s₁ (.ref a)) (.cons rfl .nil) (hsp H hO hS)) fun r s' h => ?_
    cases r with
    | error e => exact (hCX H e s' h).elim
    | ok fl =>
      cases fl with
      | next => exact False.elim h
      | brk => exact False.elim h
      | cont => exact False.elim h
      | ret u =>
        obtain ⟨v, H', os, bare, un, hok', r', q⟩ := h
        have q' : v = .bl true := q
        subst q'
        obtain rfl : u = Value.bool true := r'
        refine ⟨rfl, OldK.of_keep fun b o e => ?_, os, bare⟩
        cases q : H b with
        | none => exact un.keep b o e q (by intro z; exact absurd (show b ∈ ([] : List Addr) from z) (by simp)) (by simp)
        | some u =>
          rcases hO b with z | ⟨ob, xs, z⟩
          · rw [q] at z; cases z
          · have z2 := un.frzs b ob _ z
            obtain ⟨e1, _⟩ := hok b _ z
            obtain ⟨e2, _⟩ := hok' b _ z2
            rw [e] at e1; cases e1
            exact e2
  cases hk : K.lookup a with
  | some o =>
    -- the script is one of the module's own objects
    have e := KX a o hk
    rw [ha] at e
    cases e
    refine core (fun _ => none) (fun _ => .inl rfl) (.inr ⟨_, vs.toArray, _, hk, rfl, rfl, rfl, by rw [List.size_toArray, lenV]; exact hl, by simpa using rv⟩) (fun b u z => by have z' : (none : Option HO) = some u := z; cases z') (fun b z => absurd rfl z) fun z => absurd rfl z
  | none =>
    refine core (fun b => if b = a then some (.frz { cls := .type "list", data := .seq vs.toArray } (.lst (ns.map V.int))) else none) (fun b => ?_) (.inl (.inr ⟨{ cls := .type "list", data := .seq vs.toArray }, if_pos rfl⟩)) (fun b u z => ?_) (fun b z => ?_) fun _ => hk
    · by_cases hb : b = a
      · exact .inr ⟨_, _, if_pos hb⟩
      · exact .inl (if_neg hb)
    · by_cases hb : b = a
      · have z' := (if_pos hb).symm.trans z
        cases z'
        subst hb
        exact ⟨ha, by rw [List.length_map]; exact hl, vs, _, rv, ha⟩
      · have z' := (if_neg hb).symm.trans z
        cases z'
    · by_cases hb : b = a
      · exact hb
      · exact absurd (if_neg hb) z
end L2
namespace L2
open PySem PySem.Spec PyProof.Rows
theorem walk_of {l : PySem.W.OpenLaw} {n k : Nat} {q : Program} {loose : List Str} {XP : (Str → Option Value) → Heap → Prop} {YP : World → Heap → Prop} {d : DefRec} {K : Params → PySem.W.Frag} {CX : World → CXT} {sp : World → Sp} {x : Str}
    (hn : l.most = some n) (hn2 : n ≤ sizeLine) (hdf : d.params.defaults = []) (hr : Room k callerA)
    (hY : ∀ (w : World) (h : Heap), YP w h → (K w.params).In h)
    (F : ∀ (w : World) (mg : Str → Option Value) (fa : Addr) (h : Heap), (K w.params).In h → h.Ns mainGlobals mg → mg d.name = some (.ref fa) →
      ∃ fd : FuncData, (∀ (s : Shared) (u : Value), BindsTo s fd ⟨[u], []⟩ [(x, u)]) ∧
        ∀ base : Heap, (K w.params).In base → base.Ns mainGlobals mg → FnOk l.prog w (K w.params) mg base (CX w) k fa fd [x] (sp w))
    (hsp : ∀ (w : World) (H : Hp) (a : Addr) (ns : List Int), ns.length ≤ n → Only H → SqL (K w.params) H a (ns.map V.int) → sp w [.ref a] H (fun v _ => v = .bl true) fun _ _ _ => False)
    (hCX : ∀ (w : World) (H : Hp) (s : Shared) (e : Value) (s' : Shared), CX w [] H s (fun _ _ _ => False) e s' → False) :
    PySem.W.WalkO q loose XP YP l.row.toRowW d [] (fun f vs => PySem.call f vs) := by
  refine Att.attach_call hn hdf fun w s₀ s₁ mg mb fa o pm cd doc a vs ns G Y ho hd hcd hmg hobj hints hlen hg => ?_
  have KX := hY w _ Y
  obtain ⟨fd, hb, hF⟩ := F w mg fa _ KX G.T.g hmg
  exact law_call KX G.T.g G.T.b G.T.builtins G.T.nolimit hg hobj hints (Nat.le_trans hlen hn2) hr hF hb (fun H hO hS => hsp w H a ns hlen hO hS) fun H e s' => hCX w H s₁ e s'
end L2
namespace L2
open PySem PySem.Spec PyProof.Rows
def inClass (s : Stmt) (j : Nat) : Stmt := match s with
  | .ClassDef _ _ _ body _ _ _ _ _ _ _ => body.getD j (.Pass ⟨0, 0, 0, 0⟩)
  | _ => .Pass ⟨0, 0, 0, 0⟩
def defArgs (s : Stmt) : Arguments := match s with
  | .FunctionDef _ a _ _ _ _ _ _ _ _ => a
  | _ => { posonlyargs := [], args := [], vararg := none, kwonlyargs := [], kw_defaults := [], kwarg := none, defaults := [] }
def defBody (s : Stmt) : List Stmt := match s with
  | .FunctionDef _ _ b _ _ _ _ _ _ _ => b
  | _ => []
def defScope (s : Stmt) : Scope := match s with
  | .FunctionDef _ _ _ _ _ _ sc _ _ _ => sc
  | _ => { kind := .function, names := [], isGenerator := false, isCoroutine := false }
abbrev CX0 : CXT := fun _ _ _ _ _ _ => False
abbrev E0 : XK := fun _ _ _ => False
theorem pass0 {X : Cx} : Passes CX0 X E0 := fun _ _ _ _ _ _ _ h => h.elim
structure Fun (K : PySem.W.Frag) (x qual : Str) (st : Stmt) (f : Addr) (fd : FuncData) : Prop where
  ex : ∃ (oc : Value) (od : Option Addr) (kV doc pm : Value) (an : Option Addr) (cdv ct : Value) (osl : Array (Option Value)),
    fd = PySem.W.fnOf x qual (defArgs st) (defBody st) (defScope st) .none kV doc pm an cdv ct ∧ K.lookup f = some ⟨oc, od, .func fd, osl⟩ ∧ PySem.W.codeIn K cdv qual = true
  kp : PySem.W.keepIn K (.ref f) = true
section
variable {P : Program} {w : World} {K : PySem.W.Frag} {mg : Str → Option Value} {base : Heap}
theorem Fun.ok {x qual : Str} {st : Stmt} {f : Addr} {fd : FuncData} {N ps : List Str} {k : Nat} {sp : Sp} (F : Fun K x qual st f fd) (S : FnScope N ps (defScope st)) (len : ∀ vs H Q E, sp vs H Q E → vs.length = ps.length)
    (hbody : ∀ (cdv : Value) (A : Around) (outer : List Env) (s : Shared) (H : Hp) (vs : List V) (Q : VK) (E : XK), Room k (A.deeper (envOfC qual (defScope st) s.heap.objs.size f cdv)) → sp vs H Q E →
      ∃ t, PSs (cxOf CX0 P w K mg base N qual (defScope st) f cdv A outer s H E).nox (defBody st) t ∧ t { nx := fun _ H' => Q .non H', rt := Q } (start N vs) H) : FnOk P w K mg base CX0 (k + 1) f fd ps sp := by
  obtain ⟨oc, od, kV, doc, pm, an, cdv, ct, osl, rfl, lk, hcd⟩ := F.ex
  refine fn_of lk hcd S len fun A outer s H vs Q E hr hsp => ?_
  obtain ⟨t, h, q⟩ := hbody cdv A outer s H vs Q E hr hsp
  exact ⟨t, h.nox, q⟩
theorem Fun.binds {x qual : Str} {st : Stmt} {f : Addr} {fd : FuncData} {ps : List Str} (F : Fun K x qual st f fd)
    (h : ∀ (kV doc pm : Value) (an : Option Addr) (cdv ct : Value) (us : List Value), us.length = ps.length → bindArgs (PySem.W.fnOf x qual (defArgs st) (defBody st) (defScope st) .none kV doc pm an cdv ct) ⟨us, []⟩ = pure (ps.zip us)) : Binds K fd ps [] := by
  obtain ⟨oc, od, kV, doc, pm, an, cdv, ct, osl, rfl, lk, hcd⟩ := F.ex
  exact .all (h kV doc pm an cdv ct)
theorem fun_mk {x qual : Str} {st : Stmt} {f : Addr} {oc : Value} {od an : Option Addr} {osl : Array (Option Value)} {kV doc pm cdv ct : Value} (l : K.lookup f = some ⟨oc, od, .func (PySem.W.fnOf x qual (defArgs st) (defBody st) (defScope st) .none kV doc pm an cdv ct), osl⟩)
    (c : PySem.W.codeIn K cdv qual = true) (k : PySem.W.keepIn K (.ref f) = true) : Fun K x qual st f (PySem.W.fnOf x qual (defArgs st) (defBody st) (defScope st) .none kV doc pm an cdv ct) := ⟨⟨oc, od, kV, doc, pm, an, cdv, ct, osl, rfl, l, c⟩, k⟩
end
theorem hu_of {A : Around} {k : Nat} (hr : Room k A) : A.units + 1 < cLine := Nat.lt_of_le_of_lt (Nat.add_le_add_left (by decide : 1 ≤ 64) _) hr.units
theorem small1000 {n : Nat} (h : n ≤ 1000) : n < sizeLine := Nat.lt_of_le_of_lt h (by decide)
section
variable {X : Cx}
theorem pv (i : Nat) {x : Str} {pos : Pos} (hN : X.N[i]? = some x := by rfl) (hv : Vis X.env.scope x := by first | exact Or.inl rfl | exact Or.inr (Or.inl rfl) | exact Or.inr (Or.inr rfl)) (hd : (x == ("__debug__" : Str)) = false := by decide)
    (hcd : (x == ("__classdict__" : Str)) = false := by decide) : PE X (.Name x pos) (tVar i) := pe_var hN hv hd hcd
end
theorem iteF {A B : Prop} (h : B) : if false = true then A else B := by
  rw [if_neg Bool.false_ne_true]
  exact h
theorem iteT {A B : Prop} (h : A) : if true = true then A else B := by
  rw [if_pos rfl]
  exact h
theorem ite2 {c A B : Prop} [Decidable c] (h1 : c → A) (h2 : ¬ c → B) : if c then A else B := by
  by_cases h : c
  · rw [if_pos h]
    exact h1 h
  · rw [if_neg h]
    exact h2 h
def Same (H H' : Hp) : Prop := ∀ b o, H b = some o → H' b = some o
theorem Same.refl (H : Hp) : Same H H := fun _ _ h => h
theorem Same.trans {H H1 H2 : Hp} (a : Same H H1) (b : Same H1 H2) : Same H H2 := fun c o h => b c o (a c o h)
theorem Same.free {H H' : Hp} (e : Same H H') {l : Addr} (h : H' l = Option.none) : H l = Option.none := by
  cases q : H l with
  | none => rfl
  | some o =>
    rw [e l o q] at h
    cases h
theorem Same.seq {K : PySem.W.Frag} {H H' : Hp} {a : Addr} {xs : List V} (e : Same H H') (h : SqL K H a xs) : SqL K H' a xs := by
  rcases h with (h | ⟨o, h⟩) | h
  · exact .inl (.inl (e _ _ h))
  · exact .inl (.inr ⟨o, e _ _ h⟩)
  · exact .inr h
section
variable {κ : Type} [DecidableEq κ]
end
end L2
namespace GX
open PySem
theorem forIn_fold {α β : Type} {f : α → β → Sem (ForInStep β)} (g : α → β → β) : ∀ (l : List α) (b : β), (∀ x ∈ l, ∀ b, f x b = pure (.yield (g x b))) →
    forIn l b f = pure (l.foldl (fun b x => g x b) b)
  | [], b, _ => rfl
  | x :: l, b, h => by
    simp only [List.forIn_cons, h x (.head _), pure_bind]
    exact forIn_fold g l (g x b) fun y hy => h y (List.mem_cons_of_mem _ hy)
def closeF (env : Env) (x : Str × NameKind) (cs : List (Str × Addr)) : List (Str × Addr) := if x.2 == .free then (x.1, (env.cells.lookup x.1).getD 0) :: cs else cs
theorem closure_eq {env : Env} {sc : Scope} (h : ∀ y ∈ sc.names, y.2 = .free → ∃ c, env.cells.lookup y.1 = some c) :
    closureFor sc env = pure (sc.names.foldl (fun b x => closeF env x b) []) := by
  simp only [closureFor]
  rw [forIn_fold (closeF env) sc.names [] (fun x hx b => by
    obtain ⟨n, k⟩ := x
    unfold closeF
    by_cases hk : k = .free
    · subst hk
      obtain ⟨c, hc⟩ := h _ hx rfl
      have e : cellOf env n = pure c := by unfold cellOf; rw [hc]
      simp [e, hc]
    · have hb : (k == NameKind.free) = false := by simpa using hk
      simp only [hb, Bool.false_eq_true, if_false])]
  rfl
theorem closeF_sub {env : Env} : ∀ (l : List (Str × NameKind)) (acc : List (Str × Addr)), (∀ y ∈ l, y.2 = .free → ∃ c, env.cells.lookup y.1 = some c) → (∀ p ∈ acc, env.cells.lookup p.1 = some p.2) →
    ∀ p ∈ l.foldl (fun b x => closeF env x b) acc, env.cells.lookup p.1 = some p.2
  | [], acc, _, ha => ha
  | x :: l, acc, h, ha => by
    refine closeF_sub l _ (fun y hy => h y (List.mem_cons_of_mem _ hy)) fun p hp => ?_
    unfold closeF at hp
    dsimp only at hp
    by_cases hk : x.2 = .free
    · obtain ⟨c, hc⟩ := h x List.mem_cons_self hk
      rw [hk] at hp
      simp only [beq_self_eq_true, if_true] at hp
      rcases List.mem_cons.mp hp with rfl | hp
      · rw [hc]; rfl
      · exact ha p hp
    · have hb : (x.2 == NameKind.free) = false := by simpa using hk
      simp only [hb, Bool.false_eq_true, if_false] at hp
      exact ha p hp
theorem closeF_has {env : Env} {n : Str} : ∀ (l : List (Str × NameKind)) (acc : List (Str × Addr)), ((∃ c, (n, c) ∈ acc) ∨ (n, NameKind.free) ∈ l) → ∃ c, (n, c) ∈ l.foldl (fun b x => closeF env x b) acc
  | [], acc, h => by
    rcases h with h | h
    · exact h
    · cases h
  | x :: l, acc, h => by
    refine closeF_has l _ ?_
    unfold closeF
    dsimp only
    rcases h with ⟨c, h⟩ | h
    · refine .inl ⟨c, ?_⟩
      split
      · exact List.mem_cons_of_mem _ h
      · exact h
    · rcases List.mem_cons.mp h with h | h
      · refine .inl ?_
        subst h
        exact ⟨_, by rw [if_pos (by rfl)]; exact .head _⟩
      · exact .inr h
theorem lookup_of_mem {n : Str} {c : Addr} : ∀ {l : List (Str × Addr)}, (n, c) ∈ l → ∃ c', l.lookup n = some c'
  | [], h => by cases h
  | (m, d) :: l, h => by
    rw [List.lookup_cons]
    cases e : n == m with
    | true => exact ⟨d, rfl⟩
    | false =>
      rcases List.mem_cons.mp h with h | h
      · cases h
        simp at e
      · exact lookup_of_mem h
theorem mem_lk {n : Str} {c : Addr} : ∀ {l : List (Str × Addr)}, l.lookup n = some c → (n, c) ∈ l
  | [], h => by cases h
  | (m, d) :: l, h => by
    rw [List.lookup_cons] at h
    cases e : n == m with
    | true =>
      rw [e] at h
      have e' : n = m := by simpa using e
      have h' : d = c := Option.some.inj h
      rw [e', h']
      exact List.mem_cons_self
    | false =>
      rw [e] at h
      exact List.mem_cons_of_mem _ (mem_lk h)
theorem closure_ok {env : Env} {sc : Scope} (h : ∀ y ∈ sc.names, y.2 = .free → ∃ c, env.cells.lookup y.1 = some c) :
    ∃ cl, closureFor sc env = pure cl ∧ (∀ x c, cl.lookup x = some c → env.cells.lookup x = some c) ∧ (∀ n, (n, NameKind.free) ∈ sc.names → ∃ c, cl.lookup n = some c) := by
  refine ⟨_, closure_eq h, fun x c e => ?_, fun n hn => ?_⟩
  · exact closeF_sub sc.names [] h (fun p hp => by cases hp) (x, c) (mem_lk e)
  · obtain ⟨c, hc⟩ := closeF_has (env := env) sc.names [] (.inr hn)
    exact lookup_of_mem hc
theorem lookup_relabel {env : Env} {x : Str} {names : List (Str × NameKind)} :
    (names.map fun (n, k) => if (k == NameKind.free && env.scope.kind == .function && env.kindOf n == some .cell) then (n, NameKind.cell) else (n, k)).lookup x
      = (names.lookup x).map fun k => if (k == NameKind.free && env.scope.kind == .function && env.kindOf x == some .cell) then NameKind.cell else k := by
  induction names with
  | nil => rfl
  | cons p r ih =>
    obtain ⟨n, k⟩ := p
    rw [List.map_cons]
    by_cases e : x = n
    · subst e
      dsimp only
      split <;> simp_all
    · have e' : (x == n) = false := by simpa using e
      dsimp only
      split <;> simp only [List.lookup_cons, e'] <;> exact ih
def oneTurn (elt target : Expr) (ifs : List Expr) (it acc : Value) (env : Env) : Sem Bool := do
  match ← pyNext it with
  | none => pure false
  | some v =>
    letOwnedTupleGo target it v
    assign target env v
    let ok ← forIn ifs true fun c r => if r = true then do let ok ← isTrue c env (eval c env); pure (ForInStep.yield ok) else pure (ForInStep.yield r)
    if ok = true then do
      let x ← eval elt env
      let _ ← call (.builtin "list.append") [acc, x]
      pure true
    else pure true
theorem turn_is (elt target iter : Expr) (ifs : List Expr) (scope : Scope) (pos : Pos) (it acc : Value) (env : Env) :
    compTurn (.ListComp elt [⟨target, iter, ifs, 0⟩] scope pos) 0 it acc env = (do
      standAt iter.pos
      let more ← oneTurn elt target ifs it acc env
      if more = true then again (.compLoop (.ListComp elt [⟨target, iter, ifs, 0⟩] scope pos) 0 it acc env) else pure (.done .next)) := by
  rw [compTurn_list, oneTurn]
  simp only [bind_assoc]
  congr 1
  funext _
  congr 1
  funext r
  cases r with
  | none => simp
  | some v =>
    simp only [bind_assoc]
    congr 1
    funext _
    congr 1
    funext _
    congr 1
    funext ok
    cases ok <;> simp
theorem compLoop_go {prog : Program} {w : World} {A : Around} {R : Result → Shared → Prop} {s : Shared} {elt target iter : Expr} {ifs : List Expr} {scope : Scope} {pos : Pos} {it acc : Value} {env : Env} (I : Nat → Shared → Prop)
    (turn : ∀ n s, I n s → wpAny (model prog w) A (oneTurn elt target ifs it acc env) (fun more s' => if more = true then ∃ m, m < n ∧ I m s' else R (.ok .next) s') (fun _ _ => False) s) (n : Nat) (h : I n s) :
    codeAny (model prog w) A (.compLoop (.ListComp elt [⟨target, iter, ifs, 0⟩] scope pos) 0 it acc env) R s := by
  apply codeAny_loop rfl I _ n h
  intro n s hI
  apply wpAny_noted
  rw [turn_is]
  change wpAny _ A _ _ _ _
  apply wpAny_bind
  apply wpAny_standAt
  apply wpAny_bind
  refine wpAny_mono (turn n s hI) (fun more s' q => ?_) fun _ _ z => z.elim
  cases more
  · exact wpAny_pure q
  · exact wpAny_pure ⟨rfl, q⟩
end GX
set_option Elab.async false
set_option linter.all false
set_option maxRecDepth 100000
namespace GX
open PySem PySem.Spec PyProof.Rows
def kept : Option (Value × Value) → Array Value
  | none => #[]
  | some (x, k) => #[x, k]
abbrev lstO (a : Array Value) (c : Nat) : Obj := { cls := .type "list", dict := none, data := .seq a c, slots := #[] }
abbrev put (S : Addr) (a : Array Value) (s : Shared) : Shared := { s with heap := s.heap.update S (Obj.mapSeq fun _ => a) }
def KeyOf (prog : Program) (w : World) (A : Around) (key v : Value) (Q : Value → Shared → Prop) (s : Shared) : Prop :=
  match key with
  | .none => Q v s
  | f => wpAny (model prog w) A.in1 (call f [v]) Q (fun _ _ => False) s
def After (prog : Program) (w : World) (op : CmpOp) (lp : String) (I S : Addr) (key : Value) (kw : List (Str × Value)) (b : Option (Value × Value)) (A : Around) (R : Result → Shared → Prop) : Option Value → Shared → Prop
  | none, s => (∃ c, s.heap.get? S = some (lstO (kept b) c)) ∧ match b with
    | some (x, _) => R (.ok (.ret x)) (put S #[] s)
    | none => ∃ n d r, kw = (n, d) :: r ∧ R (.ok (.ret d)) s
  | some v, s => KeyOf prog w A key v (fun k s => (∃ c, s.heap.get? S = some (lstO (kept b) c)) ∧ match b with
    | none => codeAny (model prog w) A (.builtin lp ⟨[.ref I, key, .ref S], kw⟩) R (put S #[v, k] s)
    | some (_, k') => wpAny (model prog w) A.in1 (richCompare op k k') (fun a s => ∃ y c, a = .bool y ∧ s.heap.get? S = some (lstO (kept b) c) ∧ codeAny (model prog w) A (.builtin lp ⟨[.ref I, key, .ref S], kw⟩) R (if y then put S #[v, k] s else s)) (fun _ _ => False) s) s
abbrev Turn (prog : Program) (w : World) (op : CmpOp) (lp : String) (B : Builtin) : Prop := ∀ (I S : Addr) (key : Value) (kw : List (Str × Value)) (b : Option (Value × Value)) (c : Nat),
  MeetsIn prog w (B ⟨[.ref I, key, .ref S], kw⟩) fun A R s => s.heap.get? S = some (lstO (kept b) c) ∧ wpAny (model prog w) A.in1 (pyNext (.ref I)) (After prog w op lp I S key kw b A R) (fun _ _ => False) s
section
variable {prog : Program} {w : World}
structure Best (prog : Program) (w : World) (A : Around) (key : Value) (op : CmpOp) (l I S : Addr) (vs : List Value) (bt : Nat → Nat → Bool) (G : List (Nat × Value) → Shared → Prop) : Prop where
  irr : ∀ i, bt i i = false
  asy : ∀ i j, bt i j = true → bt j i = false
  cov : ∀ a b c, bt a b = true → bt c b = false → bt a c = true
  tail : ∀ p q L s, G (p :: q :: L) s → G (q :: L) s
  head : ∀ p L s, G (p :: L) s → G [p] s
  calm : ∀ x L s h tk, x = I ∨ x = S → G L s → (∀ b o, b ≠ x → s.heap.get? b = some o → h.get? b = some o) → G L { s with heap := h, toks := tk }
  list : ∀ L s, G L s → s.heap.IsList l vs.toArray
  keys : ∀ L s j v a c m, G L s → vs[j]? = some v → s.heap.get? S = some (lstO a c) → s.heap.IsListIter I l m → KeyOf prog w A key v (fun k s => G ((j, k) :: L) s ∧ s.heap.get? S = some (lstO a c) ∧ s.heap.IsListIter I l m) s
  cmp : ∀ i j k k' s, G [(j, k), (i, k')] s → wpAny (model prog w) A.in1 (richCompare op k k') (fun a s' => a = .bool (bt j i) ∧ s' = s) (fun _ _ => False) s
variable {A : Around} {key : Value} {op : CmpOp} {lp : String} {B : Builtin} {l I S : Addr} {vs : List Value} {bt : Nat → Nat → Bool} {G : List (Nat × Value) → Shared → Prop} {R : Result → Shared → Prop} {kw : List (Str × Value)}
theorem Best.put (M : Best prog w A key op l I S vs bt G) {L : List (Nat × Value)} {s : Shared} {a b : Array Value} {c m : Nat} (SI : S ≠ I) (g : G L s) (hS : s.heap.get? S = some (lstO a c)) (hI : s.heap.IsListIter I l m) :
    G L (put S b s) ∧ (∃ c, (put S b s).heap.get? S = some (lstO b c)) ∧ (put S b s).heap.IsListIter I l m :=
  ⟨M.calm S L s _ s.toks (.inr rfl) g fun x o n e => (Heap.get?_update_other _ _ (Ne.symm n)).trans e, ⟨_, Heap.get?_update_self _ hS rfl⟩, hI.at fun o e => (Heap.get?_update_other _ _ SI).trans e⟩
end
end GX
namespace GX
open PySem
theorem filterMap_all {α β : Type} (f : α → Option β) (g : α → β) : ∀ (l : List α), (∀ x ∈ l, f x = some (g x)) → l.filterMap f = l.map g
  | [], _ => rfl
  | x :: l, h => by
    rw [List.filterMap_cons, h x List.mem_cons_self, List.map_cons]
    exact congrArg _ (filterMap_all f g l fun y hy => h y (List.mem_cons_of_mem _ hy))
theorem pick_rev (its : List Value) : slicePick its.toArray none none (some (-1)) = its.reverse.toArray := by
  unfold slicePick
  have e : sliceBounds none none (some (-1)) its.toArray.size = ((its.length : Int) - 1, -1, -1) := by
    unfold sliceBounds
    simp
  rw [e]
  have r : sliceRange ((its.length : Int) - 1) (-1) (-1) = (List.range its.length).map fun k => its.length - 1 - k := by
    unfold sliceRange
    by_cases z : its.length = 0
    · rw [z]; rfl
    · have c : (if ((-1 : Int) > 0) then (if (its.length : Int) - 1 < -1 then (-1 - ((its.length : Int) - 1) + -1 - 1) / -1 else 0) else (if (its.length : Int) - 1 > -1 then ((its.length : Int) - 1 - -1 - -1 - 1) / (- -1) else 0)) = (its.length : Int) := by
        rw [if_neg (by decide), if_pos (by omega)]
        have : (- -1 : Int) = 1 := by decide
        rw [this, Int.ediv_one]
        omega
      simp only [c, Int.toNat_natCast]
      apply List.map_congr_left
      intro k hk
      have := List.mem_range.mp hk
      omega
  rw [r]
  congr 1
  rw [filterMap_all _ (fun j => its.getD j .none) _ (fun j hj => ?_)]
  · apply List.ext_getElem?
    intro i
    rw [List.getElem?_map, List.getElem?_map]
    by_cases hi : i < its.length
    · rw [List.getElem?_eq_getElem (by rw [List.length_range]; exact hi), List.getElem_range, List.getElem?_reverse hi]
      show some (its.getD (its.length - 1 - i) .none) = _
      rw [List.getD_eq_getElem?_getD, List.getElem?_eq_getElem (by omega)]
      rfl
    · rw [List.getElem?_eq_none (by rw [List.length_range]; omega), List.getElem?_eq_none (by rw [List.length_reverse]; omega)]
      rfl
  · obtain ⟨k, hk, e⟩ := List.mem_map.mp hj
    have hk := List.mem_range.mp hk
    have hl : j < its.length := by omega
    rw [List.getD_eq_getElem?_getD]
    simp [hl]
end GX
namespace GB
theorem and_pow (n h : Nat) : (n &&& 2 ^ h = 0) ↔ n.testBit h = false := by
  constructor
  · intro e
    have q : (n &&& 2 ^ h).testBit h = false := by rw [e]; exact Nat.zero_testBit h
    rw [Nat.testBit_and, Nat.testBit_two_pow_self, Bool.and_true] at q
    exact q
  · intro e
    apply Nat.eq_of_testBit_eq
    intro i
    rw [Nat.testBit_and, Nat.zero_testBit, Nat.testBit_two_pow]
    by_cases hi : h = i
    · subst hi; rw [e]; rfl
    · rw [decide_eq_false hi, Bool.and_false]
def hnds (n : Nat) : List Nat := (List.range 63).filter fun h => n.testBit h
theorem bit_high {n b h : Nat} (hn : n < 2 ^ b) (hb : b ≤ h) : n.testBit h = false :=
  Nat.testBit_lt_two_pow (Nat.lt_of_lt_of_le hn (Nat.pow_le_pow_right (by decide) hb))
theorem filter_range {p : Nat → Bool} {b c : Nat} (hb : b ≤ c) (hp : ∀ h, b ≤ h → p h = false) : (List.range c).filter p = (List.range b).filter p := by
  induction c with
  | zero =>
    have : b = 0 := by omega
    subst this; rfl
  | succ c ih =>
    by_cases e : b = c + 1
    · subst e; rfl
    · rw [List.range_succ, List.filter_append, ih (by omega)]
      have : [c].filter p = [] := by
        rw [List.filter_cons, hp c (by omega)]
        rfl
      rw [this, List.append_nil]
theorem hnds_eq {n b : Nat} (hb : b ≤ 63) (hn : n < 2 ^ b) : (List.range b).filter (fun h => n.testBit h) = hnds n :=
  (filter_range hb fun _ hh => bit_high hn hh).symm
theorem mem_hnds {n h : Nat} : h ∈ hnds n ↔ h < 63 ∧ n.testBit h = true := by
  unfold hnds
  rw [List.mem_filter, List.mem_range]
theorem hnds_sorted (n : Nat) : (hnds n).Pairwise (· < ·) := List.Pairwise.filter _ List.pairwise_lt_range
def hl (n : Int) : List Int := (hnds n.toNat).map (fun (h : Nat) => (h : Int))
end GB
namespace GB
def setN (l : List Nat) : Nat := l.foldl (fun a h => a ||| 2 ^ h) 0
theorem fold_bit (h : Nat) : ∀ (l : List Nat) (a : Nat), (l.foldl (fun a h => a ||| 2 ^ h) a).testBit h = (a.testBit h || decide (h ∈ l))
  | [], a => by simp
  | x :: l, a => by
    rw [List.foldl_cons, fold_bit h l, Nat.testBit_or, Nat.testBit_two_pow, Bool.or_assoc]
    congr 1
    rw [Bool.eq_iff_iff]
    simp only [Bool.or_eq_true, decide_eq_true_iff, List.mem_cons]
    constructor
    · rintro (e | e)
      · exact .inl e.symm
      · exact .inr e
    · rintro (e | e)
      · exact .inl e.symm
      · exact .inr e
theorem setN_bit (l : List Nat) (h : Nat) : (setN l).testBit h = decide (h ∈ l) := by
  unfold setN
  rw [fold_bit, Nat.zero_testBit, Bool.false_or]
theorem setN_lt {l : List Nat} {b : Nat} (h : ∀ x ∈ l, x < b) : setN l < 2 ^ b := by
  apply Nat.lt_pow_two_of_testBit
  intro i hi
  rw [setN_bit]
  exact decide_eq_false fun z => by have := h i z; omega
end GB
namespace L2
open PySem PySem.Spec PyProof.Rows
def capOk (N : List Str) (sc : Scope) (x : Str) : Option Nat → Bool
  | none => true
  | some j => decide (N[j]? = some x) && decide (sc.names.lookup x = some .free)
def BlkP (N N' : List Str) (src : List (Option Nat)) (esc sc : Scope) : Prop :=
  (∀ y ∈ sc.names, y.2 ≠ .cell) ∧ (∀ y ∈ sc.names, y.2 = .local → sc.names.lookup y.1 = some .local) ∧
  (∀ y ∈ sc.names, y.2 = .free → esc.names.lookup y.1 = some .cell ∨ esc.names.lookup y.1 = some .free) ∧
  N'.Nodup ∧ src.length = N'.length ∧ ∀ p ∈ N'.zip src, capOk N sc p.1 p.2 = true
instance (N N' : List Str) (src : List (Option Nat)) (esc sc : Scope) : Decidable (BlkP N N' src esc sc) := by unfold BlkP; infer_instance
def blkSt (src : List (Option Nat)) (σ : St) : St := src.map fun o => o.bind fun j => (σ[j]?).bind fun v => v
def Cx.blk (X : Cx) (N' : List Str) (sc : Scope) (cl : List (Str × Addr)) (C : Addr) (s2 : Shared) (H2 : Hp) (fp : List Addr) : Cx :=
  { X with N := N', s₀ := s2, H₀ := H2, env := compEnvC sc cl C X.env, outer := X.stack, ex := fp, fn := fun _ => false, pn := [], xe := fun _ _ => False }
def PIf (X : Cx) (ifs : List Expr) (t : TT) : Prop :=
  ∀ (pins : List (Addr × Obj)) (s : Shared) (σ : St) (H : Hp) (Q : Bool → Hp → Prop), Inv X pins σ H s → t σ H Q →
    wpAny (model X.prog X.w) X.A (forIn ifs true fun c r => if r = true then do let ok ← isTrue c X.env (eval c X.env); pure (ForInStep.yield ok) else pure (ForInStep.yield r)) (TP X pins σ Q) X.xe s
def tYes : TT := fun _ H Q => Q true H
theorem pif_nil {X : Cx} : PIf X [] tYes := fun _ _ _ H _ I h => wpAny_tests_nil ⟨H, I, h⟩
theorem pif_one {X : Cx} {c : Expr} {t : TT} (h : PT X c t) : PIf X [c] t := fun pins s σ H Q I hw => wpAny_tests_one (h pins s σ H Q I hw)
theorem Un.but {fs ex : List Addr} {H H' : Hp} {h h1 h2 : Heap} {C : Addr} (u : Un fs ex H H' h h1) (sb : Heap.SameBut C h1 h2) (hC : h.get? C = none) : Un fs ex H H' h h2 :=
  have ne : ∀ b o, h.get? b = some o → b ≠ C := fun b o e z => by rw [z, hC] at e; cases e
  ⟨fun b o e n hb hx => (sb.2 b (ne b o e)).trans (u.keep b o e n hb hx), fun b o e n hb hx => let ⟨sl, z⟩ := u.slot b o e n hb hx; ⟨sl, (sb.2 b (ne b o e)).trans z⟩, u.free,
    fun b o e hx => let ⟨o', z⟩ := u.there b o e hx; ⟨o', (sb.2 b (ne b o e)).trans z⟩, u.tups, u.frzs, u.tbls⟩
theorem HOk.but {P : Program} {w : World} {H : Hp} {h h' : Heap} {C : Addr} (x : HOk P w H h) (sb : Heap.SameBut C h h') (hC : H C = none) : HOk P w H h' := fun b ob e => by
  refine (x b ob e).stay (fun c v hc q => (sb.2 c ?_).trans q) (fun _ q => q) fun _ _ q => q
  rintro rfl
  rcases hc with rfl | hc
  · rw [hC] at e; cases e
  · rw [hC] at hc; cases hc
def cTurn (g : TG) (tt : TT) (te : TE) (D : Addr) (N : St → Hp → Prop) (x : V) (σ : St) (H : Hp) : Prop :=
  g x σ H fun σ2 H2 => tt σ2 H2 fun b H3 => if b = true then te σ2 H3 fun y H4 => ∃ ys, H4 D = some (.lst ys) ∧ ys.length < sizeLine ∧ N σ2 (upd H4 D (.lst (ys ++ [y]))) else N σ2 H3
def tComp (src : List (Option Nat)) (wi : TI) (g : TG) (tt : TT) (te : TE) : TE := fun σ H Q => wi σ H fun J H1 => ∀ D, H1 D = none → ∃ W : Nat → Nat → St → Hp → Prop, (∃ m, W 0 m (blkSt src σ) (upd H1 D (.lst []))) ∧
  ∀ i m σ' H', W i m σ' H' → (J.stop i H' ∧ Q (.ref D) H') ∨ (J.go i H' ∧ ∃ N : St → Hp → Prop, (∀ σ2 H2, N σ2 H2 → ∃ m', m' < m ∧ W (i + 1) m' σ2 H2) ∧
    ∀ x H'', J.yld i H' x H'' → cTurn g tt te D N x σ' H'')
theorem comp_core {X : Cx} {elt tg iter : Expr} {ifs : List Expr} {sc : Scope} {pos : Pos} {g : TG} {tt : TT} {te : TE} {N' : List Str} {src : List (Option Nat)} {cl : List (Str × Addr)} {pins : List (Addr × Obj)} {σ : St} {H2 : Hp} {s2 : Shared} {it : Addr} {fp : List Addr}
    {tn : Nat → Heap → Prop} {J : It} {W : Nat → Nat → St → Hp → Prop} {m0 : Nat} {Qe : Hp → Prop} {RR : Value → Addr → Result → Shared → Prop}
    (hc : X.calm = true) (hk : sc.kind = .function) (hB : BlkP X.N N' src X.env.scope sc) (hsub : ∀ x c, cl.lookup x = some c → X.env.cells.lookup x = some c) (hhas : ∀ n, (n, NameKind.free) ∈ sc.names → ∃ c, cl.lookup n = some c)
    (hg : ∀ cl C s2 H2 fp, N'.Nodup → PG (X.blk N' sc cl C s2 H2 fp) tg g)
    (ht : ∀ cl C s2 H2 fp, PIf (X.blk N' sc cl C s2 H2 fp) ifs tt)
    (he : ∀ cl C s2 H2 fp, PE (X.blk N' sc cl C s2 H2 fp) elt te)
    (I2 : Inv X pins σ H2 s2) (T : Turn X.prog X.w X.K tg J fp it tn) (st2 : tn 0 s2.heap) (f2 : ∀ b ∈ fp, FpOk X pins H2 b)
    (w0 : W 0 m0 (blkSt src σ) (upd H2 s2.heap.objs.size (.lst [])))
    (turn : ∀ i m σ' H', W i m σ' H' → (J.stop i H' ∧ Qe H') ∨ (J.go i H' ∧ ∃ N : St → Hp → Prop, (∀ σ2 H2, N σ2 H2 → ∃ m', m' < m ∧ W (i + 1) m' σ2 H2) ∧
      ∀ x H'', J.yld i H' x H'' → cTurn g tt te s2.heap.objs.size N x σ' H''))
    (fin : ∀ C s4 σ3 H3, s2.heap.objs.size ≤ C → Inv (X.blk N' sc cl C s2 H2 fp) [] σ3 H3 s4 → Qe H3 → RR (.ref s2.heap.objs.size) C (.ok .next) s4) :
    wpAny (model X.prog X.w) X.A (newList []) (fun acc s₃ => wpAny (model X.prog X.w) X.A (newFunctionEnv sc X.env.globals cl [] X.env.qual none .none (some X.env)) (fun cenv s₄ =>
      codeAny (model X.prog X.w) X.A (.compStart (.ListComp elt [⟨tg, iter, ifs, 0⟩] sc pos) 0 (.ref it) acc { cenv with scope := relabel sc X.env }) (RR acc cenv.locals) s₄) X.xe s₃) X.xe s2 := by
  obtain ⟨b1, b2, b3, b4, b5, b6⟩ := hB
  refine wpAny_newObj_type (wpAny_newFunctionEnv b1 (by intro y hy; simp at hy) (fun h₁ ns₁ sb₁ => ?_) hk)
  dsimp only at ns₁ sb₁ ⊢
  generalize hP : s2.heap.push { cls := .type "list", dict := none, data := .seq ([] : List Value).toArray } = Hl at ns₁ sb₁ ⊢
  have hC : Hl.objs.size = s2.heap.objs.size + 1 := by rw [← hP, Heap.size_push]
  have nDC : s2.heap.objs.size ≠ Hl.objs.size := by rw [hC]; exact Nat.ne_of_lt (Nat.lt_succ_self _)
  have below : ∀ {b : Addr} {o : Obj}, s2.heap.get? b = some o → b ≠ Hl.objs.size := fun {b o} z => by
    have := Heap.lt_size z
    rw [hC]
    exact Nat.ne_of_lt (Nat.lt_succ_of_lt this)
  have old : ∀ b o, s2.heap.get? b = some o → h₁.get? b = some o := fun b o z => sb₁.extBut b o (below z) (Heap.get?_push_of_some _ (hP ▸ Heap.get?_push_of_some _ z))
  have hD1 : h₁.get? s2.heap.objs.size = some { cls := .type "list", data := .seq ([] : List Value).toArray } := sb₁.extBut _ _ nDC (Heap.get?_push_of_some _ (hP ▸ Heap.get?_push_size _ rfl))
  have fD : H2 s2.heap.objs.size = none := I2.hok.fresh (Nat.le_refl _)
  have fC : H2 Hl.objs.size = none := I2.hok.fresh (by rw [hC]; exact Nat.le_succ _)
  have ok : (X.blk N' sc cl Hl.objs.size s2 H2 fp).Ok := by
    refine ⟨I2.ok.mod, hk, I2.ok.glob, I2.ok.blt, ?_, fun x y c h1 h2 => I2.ok.inj x y c (hsub x c h1) (hsub y c h2), fun x hx => ?_, fun x c z => ?_, I2.ok.hd, I2.ok.frames, .inl rfl, fun b hb => ⟨?_, fun x c z => (f2 b hb).2.2.2.2.1 x c (hsub x c z)⟩,
      I2.bs, Nat.le_trans I2.ok.bsz I2.sz, fun b o z hb => ?_, fun b hb z => ?_, I2.stack, I2.stkFree⟩
    · show s2.heap.objs.size ≤ Hl.objs.size
      rw [hC]; exact Nat.le_succ _
    · have hx' : (sc.names.map fun (n, k) => if (k == NameKind.free && X.env.scope.kind == .function && X.env.kindOf n == some .cell) then (n, NameKind.cell) else (n, k)).lookup x = some .cell ∨
          (sc.names.map fun (n, k) => if (k == NameKind.free && X.env.scope.kind == .function && X.env.kindOf n == some .cell) then (n, NameKind.cell) else (n, k)).lookup x = some .free := hx
      rw [GX.lookup_relabel] at hx'
      cases e : sc.names.lookup x with
      | none =>
        rw [e] at hx'
        simp at hx'
      | some k =>
        rw [e] at hx'
        by_cases hf : k = .free
        · subst hf
          exact hhas x (PySem.mem_of_lookup e)
        · have hb : (k == NameKind.free) = false := by simpa using hf
          have e2 : ((some k).map fun k => if (k == NameKind.free && X.env.scope.kind == .function && X.env.kindOf x == some .cell) then NameKind.cell else k) = some k := by
            show some (if (k == NameKind.free && X.env.scope.kind == .function && X.env.kindOf x == some .cell) = true then NameKind.cell else k) = some k
            rw [hb, Bool.false_and, Bool.false_and]
            rfl
          rw [e2] at hx'
          rcases hx' with z | z
          · exact absurd (Option.some.inj z) (b1 _ (PySem.mem_of_lookup e))
          · exact absurd (Option.some.inj z) hf
    · cases z
    · obtain ⟨o, z, _⟩ := T.obj 0 _ st2 b hb
      exact below z
    · rcases (f2 b hb).2.2.2.1 with f3 | f3
      · exact I2.ok.noex b o z f3
      · have l1 := Heap.lt_size z
        have l2 := I2.ok.bsz
        exact absurd (Nat.lt_of_lt_of_le l1 (Nat.le_trans l2 f3)) (Nat.lt_irrefl _)
    · rcases List.mem_cons.mp (I2.stkSub b z) with z | z
      · exact (f2 b hb).2.1 z
      · exact (f2 b hb).2.2.1 z
  have IY : Inv (X.blk N' sc cl Hl.objs.size s2 H2 fp) [] (blkSt src σ) (upd H2 s2.heap.objs.size (.lst [])) { s2 with heap := h₁, toks := s2.toks + ([] : List (Str × Value)).length } := by
    refine ⟨ok, rfl, I2.bare, Un.laid old (Nat.le_refl _) fD, ⟨_, ns₁, fun i x v e1 e2 _ => ?_⟩, fun x c z => ?_, ?_, fun x c z => ?_, fun p hp => ?_, I2.hok.laid old (Nat.le_refl _) ⟨Nat.zero_le _, [], 0, .nil, hD1⟩, ?_⟩
    · have e1' : N'[i]? = some x := e1
      unfold blkSt at e2
      rw [List.getElem?_map] at e2
      cases es : src[i]? with
      | none => rw [es] at e2; cases e2
      | some o =>
        rw [es] at e2
        cases o with
        | none => cases e2
        | some j =>
          have e3 : (σ[j]?).bind (fun v => v) = some v := Option.some.inj e2
          have e4 : σ[j]? = some (some v) := by
            cases q : σ[j]? with
            | none => rw [q] at e3; cases e3
            | some w => rw [q] at e3; exact congrArg some e3
          have hz : (x, some j) ∈ N'.zip src := List.mem_of_getElem? (i := i) (by rw [List.getElem?_zip_eq_some]; exact ⟨e1', es⟩)
          have hcap := b6 _ hz
          have hcap' : (decide (X.N[j]? = some x) && decide (sc.names.lookup x = some .free)) = true := hcap
          rw [Bool.and_eq_true] at hcap'
          have c1 : X.N[j]? = some x := of_decide_eq_true hcap'.1
          have c2 : sc.names.lookup x = some .free := of_decide_eq_true hcap'.2
          have hfree := PySem.mem_of_lookup c2
          have vis := b3 _ hfree rfl
          obtain ⟨m, hn, hl⟩ := I2.loc
          obtain ⟨u, ru, lk⟩ := hl j x v c1 e4 (.inr vis)
          rcases lk with ⟨k1, _⟩ | ⟨_, c, k2, z⟩
          · have k1' : X.env.scope.names.lookup x = some .local := k1
            rcases vis with v | v <;> (rw [k1'] at v; cases v)
          · obtain ⟨c', k3⟩ := hhas x hfree
            have k4 := hsub x c' k3
            rw [k2] at k4
            cases k4
            refine ⟨u, ru, .inr ⟨?_, c, k3, z.keeps old⟩⟩
            show (sc.names.map fun (n, k) => if (k == NameKind.free && X.env.scope.kind == .function && X.env.kindOf n == some .cell) then (n, NameKind.cell) else (n, k)).lookup x = some .cell ∨
              (sc.names.map fun (n, k) => if (k == NameKind.free && X.env.scope.kind == .function && X.env.kindOf n == some .cell) then (n, NameKind.cell) else (n, k)).lookup x = some .free
            rw [GX.lookup_relabel, c2]
            show some (if _ then NameKind.cell else NameKind.free) = _ ∨ some (if _ then NameKind.cell else NameKind.free) = _
            split
            · exact .inl rfl
            · exact .inr rfl
    · obtain ⟨v, q⟩ := I2.cell x c (hsub x c z)
      exact ⟨v, q.keeps old⟩
    · show upd H2 s2.heap.objs.size (.lst []) Hl.objs.size = none
      rw [upd_ne (Ne.symm nDC)]
      exact fC
    · obtain ⟨v, q⟩ := I2.cell x c (hsub x c z)
      rw [upd_ne (Nat.ne_of_lt q.lt)]
      exact I2.freeC x c (hsub x c z)
    · exact absurd (show p ∈ ([] : List (Addr × Obj)) from hp) (by simp)
    · show (src.map _).length = N'.length
      rw [List.length_map]
      exact b5
  have stat : ∀ {H' : Hp}, (∀ b ∈ fp, H' b = none) → ∀ b ∈ fp, FpOk (X.blk N' sc cl Hl.objs.size s2 H2 fp) [] H' b := fun hn b hb =>
    ⟨hn b hb, (ok.exf b hb).1, ok.exfs b hb, .inl hb, (ok.exf b hb).2, fun p hp => absurd (show p ∈ ([] : List (Addr × Obj)) from hp) (by simp)⟩
  have loop : codeAny (model X.prog X.w) X.A (.compLoop (.ListComp elt [⟨tg, iter, ifs, 0⟩] sc pos) 0 (.ref it) (.ref s2.heap.objs.size) (compEnvC sc cl Hl.objs.size X.env))
      (RR (.ref s2.heap.objs.size) Hl.objs.size) { s2 with heap := h₁, toks := s2.toks + ([] : List (Str × Value)).length } := by
    refine GX.compLoop_go (fun n s' => ∃ i σ' H', Inv (X.blk N' sc cl Hl.objs.size s2 H2 fp) [] σ' H' s' ∧ tn i s'.heap ∧ (∀ b ∈ fp, H' b = none) ∧ W i n σ' H') ?_ m0
      ⟨0, _, _, IY, T.keep 0 _ _ st2 (fun b _ o z => old b o z), fun b hb => ?_, w0⟩
    · rintro n s3 ⟨i, σ3, H3, I3, st3, fr3, w3⟩
      rcases turn i n σ3 H3 w3 with ⟨stop, qn⟩ | ⟨go, N, hN, step⟩
      · refine wpAny_bind (thn (T.done (X.blk N' sc cl Hl.objs.size s2 H2 fp) rfl rfl rfl hc i [] s3 σ3 H3 (fun _ _ => False) I3 (stat fr3) st3 stop) fun r s4 ⟨hr, I4⟩ => ?_)
        subst hr
        exact wpAny_pure <| fin _ s4 σ3 H3 (by rw [hC]; exact Nat.le_succ _) I4 qn
      · refine wpAny_bind (thn (T.item (X.blk N' sc cl Hl.objs.size s2 H2 fp) rfl rfl rfl hc i [] s3 σ3 H3 (fun _ _ => False) I3 (stat fr3) st3 go) fun r s4 ⟨u, hr, h4⟩ => ?_)
        subst hr
        refine wpAny_bind (thn h4 fun _ s5 ⟨x, H5, I5, r5, y5, st5, fr5⟩ => ?_)
        have I5' := I5.pinned (stat fr5) (T.obj _ _ st5)
        have again : ∀ {σ7 : St} {H7 : Hp} {s7 : Shared}, Inv (X.blk N' sc cl Hl.objs.size s2 H2 fp) ([] ++ pinsAt fp s5.heap) σ7 H7 s7 → N σ7 H7 →
            ∃ m, m < n ∧ ∃ i σ' H', Inv (X.blk N' sc cl Hl.objs.size s2 H2 fp) [] σ' H' s7 ∧ tn i s7.heap ∧ (∀ b ∈ fp, H' b = none) ∧ W i m σ' H' := fun {σ7 H7 s7} I7 n7 => by
          obtain ⟨m', hm, w7⟩ := hN σ7 H7 n7
          refine ⟨m', hm, i + 1, σ7, H7, I7.unpinned, T.keep _ _ _ st5 fun b hb o z => (I7.pin (b, o) (List.mem_append_right _ (List.mem_append_right _ (mem_pinsAt hb z)))).1, fun b hb => ?_, w7⟩
          obtain ⟨o, z, _⟩ := T.obj _ _ st5 b hb
          exact (I7.pin (b, o) (List.mem_append_right _ (List.mem_append_right _ (mem_pinsAt hb z)))).2.1
        refine wpAny_bind (thn (hg cl Hl.objs.size s2 H2 fp b4 _ s5 σ3 H5 x u _ I5' r5 (step x H5 y5)) fun _ s6 ⟨σ6, H6, I6, q6⟩ => ?_)
        refine wpAny_bind (thn (ht cl Hl.objs.size s2 H2 fp _ s6 σ6 H6 _ I6 q6) fun ok s7 ⟨H7, I7, q7⟩ => ?_)
        cases ok with
        | true =>
          rw [if_pos rfl] at q7 ⊢
          refine wpAny_bind (thn (he cl Hl.objs.size s2 H2 fp _ s7 σ6 H7 _ I7 q7) fun yv s8 ⟨y, H8, I8, r8, ys, hD, hz, n8⟩ => ?_)
          exact wpAny_bind <| thn (mt_append (X := X.blk N' sc cl Hl.objs.size s2 H2 fp) _ s8 σ6 H8 (.ref s2.heap.objs.size) [y] (.ref s2.heap.objs.size) [yv] (fun _ H' => N σ6 H') I8 rfl (.cons r8 .nil) ⟨_, ys, y, rfl, rfl, hD, hz, n8⟩)
            fun _ s9 ⟨_, H9, I9, _, n9⟩ => wpAny_pure (again I9 n9)
        | false =>
          rw [if_neg Bool.false_ne_true] at q7 ⊢
          exact wpAny_pure (again I7 q7)
    · obtain ⟨o, z, _⟩ := T.obj 0 _ st2 b hb
      rw [upd_ne (Nat.ne_of_lt (Heap.lt_size z))]
      exact (f2 b hb).1
  exact codeAny_compStart_list loop (T.self X.A 0 _ _ _ (T.keep 0 _ _ st2 (fun b _ o z => old b o z)) loop)
theorem pe_comp {X : Cx} {elt tg iter : Expr} {ifs : List Expr} {sc : Scope} {pos : Pos} {wi : TI} {g : TG} {tt : TT} {te : TE} (N' : List Str) (src : List (Option Nat))
    (hc : X.calm = true) (hk : sc.kind = .function) (hB : decide (BlkP X.N N' src X.env.scope sc) = true) (hi : PI X tg iter wi)
    (hg : ∀ cl C s2 H2 fp, N'.Nodup → PG (X.blk N' sc cl C s2 H2 fp) tg g)
    (ht : ∀ cl C s2 H2 fp, PIf (X.blk N' sc cl C s2 H2 fp) ifs tt)
    (he : ∀ cl C s2 H2 fp, PE (X.blk N' sc cl C s2 H2 fp) elt te)
    (hs : ∀ x, foldedSetIterable iter X.env x = pure x := by intro _; rfl) :
    PE X (.ListComp elt [⟨tg, iter, ifs, 0⟩] sc pos) (tComp src wi g tt te) := by
  intro pins s σ H Q I h
  have B := of_decide_eq_true hB
  obtain ⟨cl, hclos, hsub, hhas⟩ := GX.closure_ok (env := X.env) (sc := sc) fun y hy hf => I.ok.has y.1 (B.2.2.1 y hy hf)
  rw [eval_ListComp]
  refine wpAny_comprehension_free (use := none) rfl hs hclos hk B.2.1 (thn (hi pins s σ H _ I h) fun v s1 h1 => thn h1 fun itv s2 h2 => ?_)
  obtain ⟨it, fp, tn, J, H2, e, I2, T, st2, f2, q⟩ := h2
  subst e
  obtain ⟨W, ⟨m0, w0⟩, turn⟩ := q s2.heap.objs.size (I2.hok.fresh (Nat.le_refl _))
  refine comp_core (RR := fun acc C => compPost (model X.prog X.w) X.A X.xe none (EP X pins σ Q) acc C) (Qe := fun H' => Q (.ref s2.heap.objs.size) H') hc hk B hsub hhas hg ht he I2 T st2 f2 w0 turn fun C s4 σ3 H3 hC I4 qn => ?_
  obtain ⟨m, hn, _⟩ := I4.loc
  refine ⟨m, hn, fun h' sb => ⟨.ref s2.heap.objs.size, H3, ?_, rfl, qn⟩⟩
  exact I2.call' (s' := { s4 with heap := h' }) (ch := fp) I4.os (I4.base.but sb (Heap.get?_none_of_le hC)) (I4.hok.but sb I4.free) I4.bare fun b hb => ⟨(f2 b hb).2.2.2.1, (f2 b hb).2.1, (f2 b hb).2.2.2.2.1, (f2 b hb).2.2.2.2.2⟩
theorem comp_range {lo : Int} {n : Nat} {g : TG} {tt : TT} {te : TE} {σ : St} {H : Hp} {D : Addr} {Qe : Hp → Prop} (Pv : Nat → St → Hp → Prop) (h0 : Pv 0 σ H)
    (hs : ∀ i σ H, i < n → Pv i σ H → cTurn g tt te D (Pv (i + 1)) (.int (lo + i)) σ H) (hd : ∀ σ H, Pv n σ H → Qe H) :
    ∃ W : Nat → Nat → St → Hp → Prop, (∃ m, W 0 m σ H) ∧ ∀ i m σ' H', W i m σ' H' → ((Itr lo n).stop i H' ∧ Qe H') ∨ ((Itr lo n).go i H' ∧ ∃ N : St → Hp → Prop, (∀ σ2 H2, N σ2 H2 → ∃ m', m' < m ∧ W (i + 1) m' σ2 H2) ∧
      ∀ x H'', (Itr lo n).yld i H' x H'' → cTurn g tt te D N x σ' H'') := by
  refine ⟨fun i m σ H => m = n - i ∧ i ≤ n ∧ Pv i σ H, ⟨n, by simp, Nat.zero_le _, h0⟩, ?_⟩
  rintro i m σ H ⟨rfl, hi, p⟩
  by_cases hlt : i < n
  · refine .inr ⟨hlt, Pv (i + 1), fun σ' H' p' => ⟨n - (i + 1), by omega, rfl, hlt, p'⟩, fun x H' y => ?_⟩
    obtain ⟨e, y⟩ := y
    subst e y
    exact hs i σ _ hlt p
  · have e : i = n := by omega
    subst e
    exact .inl ⟨Nat.le_refl _, hd σ H p⟩
theorem comp_list {K : PySem.W.Frag} {a : Addr} {xs : List V} {g : TG} {tt : TT} {te : TE} {σ : St} {H : Hp} {D : Addr} {Qe : Hp → Prop} (Pv : Nat → St → Hp → Prop) (h0 : Pv 0 σ H) (hl : ∀ i σ H, i ≤ xs.length → Pv i σ H → SqL K H a xs)
    (hs : ∀ i x σ H, xs[i]? = some x → Pv i σ H → cTurn g tt te D (Pv (i + 1)) x σ H) (hd : ∀ σ H, Pv xs.length σ H → Qe H) :
    ∃ W : Nat → Nat → St → Hp → Prop, (∃ m, W 0 m σ H) ∧ ∀ i m σ' H', W i m σ' H' → ((Itl K a).stop i H' ∧ Qe H') ∨ ((Itl K a).go i H' ∧ ∃ N : St → Hp → Prop, (∀ σ2 H2, N σ2 H2 → ∃ m', m' < m ∧ W (i + 1) m' σ2 H2) ∧
      ∀ x H'', (Itl K a).yld i H' x H'' → cTurn g tt te D N x σ' H'') := by
  refine ⟨fun i m σ H => m = xs.length - i ∧ i ≤ xs.length ∧ Pv i σ H, ⟨xs.length, by simp, Nat.zero_le _, h0⟩, ?_⟩
  rintro i m σ H ⟨rfl, hi, p⟩
  have q := hl i σ H hi p
  by_cases hlt : i < xs.length
  · refine .inr ⟨⟨xs, xs[i], q, by simp [hlt]⟩, Pv (i + 1), fun σ' H' p' => ⟨xs.length - (i + 1), by omega, rfl, hlt, p'⟩, fun x H' y => ?_⟩
    obtain ⟨e, y⟩ := y
    subst e
    exact hs i x σ _ (y xs q) p
  · have e : i = xs.length := by omega
    subst e
    exact .inl ⟨⟨xs, q, Nat.le_refl _⟩, hd σ H p⟩
end L2
namespace L2
open PySem PySem.Spec PyProof.Rows
section
variable {X : Cx}
theorem call_isinst : CallR X (.builtin "isinstance") (fun xs H Q => ∃ (x : V) (t : Value) (T : String) (b : Bool), xs = [x, .ty T] ∧ TyOf X.K H x t ∧ PySem.W.kitOne X.K t (.type T) = some b ∧ Q (.bl b) H) := by
  intro pins s σ H xs us Q I r h
  obtain ⟨x, t, T, b, rfl, ty, e, q⟩ := h
  obtain ⟨u, w', rfl, r1, r2⟩ := vals2 r
  obtain rfl : w' = Value.type T := r2
  exact isinst_ok I r1 ty e fun tk => ⟨.bl b, H, I.tok tk, rfl, q⟩
theorem mt_bitlen : MtR X "int.bit_length" (fun x vs H Q => ∃ i, x = .int i ∧ vs = [] ∧ Q (.int (Builtin.Int.intBits i)) H) := by
  intro pins s σ H x xs v us Q I rx rv h
  obtain ⟨i, rfl, rfl, q⟩ := h
  obtain ⟨t, rfl⟩ := rx
  cases rv
  exact call_int_bit_length ⟨.int (Builtin.Int.intBits i), H, I.tok _, ⟨_, rfl⟩, q⟩
end
structure Cal (K : PySem.W.Frag) (mg : Str → Option Value) (x : Str) (f : Addr) (fd : FuncData) (ps : List Str) : Prop where
  mg : mg x = some (.ref f)
  kp : PySem.W.keepIn K (.ref f) = true
  bd : Binds K fd ps []
theorem pcall {X : Cx} {k : Nat} {f : Addr} {fd : FuncData} {ps : List Str} {sp : Sp} {x : Str} {e : Expr} {es : List Expr} {t : TA} {p pos : Pos} (F : FnOk X.prog X.w X.K X.mg X.base CX0 k f fd ps sp) (c : Cal X.K X.mg x f fd ps) (hr : Room k X.A) (ha : PA X (e :: es) t)
    (hg : Gl X x := by rfl) (hdb : (x == ("__debug__" : Str)) = false := by decide) (he : starEach (e :: es) X.env = (false, eval e X.env) :: starEach es X.env := by rfl) (hpl : (backTo pos (starEach es X.env)).any (·.1) = false := by rfl) :
    PE X (.Call (.Name x p) (e :: es) [] pos) (tCall sp [] E0 t) := pe_call F hr hg c.mg c.kp c.bd .nil pass0 ha hdb he hpl
theorem pe_type {X : Cx} {x : Str} {T : String} {pos : Pos} (hm : X.mg x = none) (hv : bootBuiltins x = some (.type T)) (hg : Gl X x := by rfl) (hn : x ≠ "__name__" := by decide) (hdb : (x == ("__debug__" : Str)) = false := by decide) : PE X (.Name x pos) (tC (.ty T)) :=
  pe_bltn hg hm hv rfl hn hdb
def tTru (K : PySem.W.Frag) (t : TE) : TT := fun σ H Q => t σ H fun x H' => ∃ k, TruV K x H' k ∧ Q k H'
theorem pt_callK {X : Cx} (K : PySem.W.Frag) {f : Expr} {es : List Expr} {kws : List Keyword} {pos : Pos} {t : TE} (hK : X.K = K) (h : PE X (.Call f es kws pos) t) : PT X (.Call f es kws pos) (tTru K t) := by
  subst hK
  exact pt_truth h fun _ => rfl
end L2
namespace L2
open PySem PySem.Spec PyProof.Rows
section
variable {X : Cx}
def SlR3 (X : Cx) (r : V → Option Int → Option Int → Option Int → Hp → VK → Prop) : Prop :=
  ∀ (pins : List (Addr × Obj)) (s : Shared) (σ : St) (H : Hp) (x : V) (v vl vu vt : Value) (lo hi st : Option Int) (sl : Addr) (Q : VK), Inv X pins σ H s → RelV x v → s.heap.IsSliceOf sl vl vu vt → IsPart vl lo → IsPart vu hi → IsPart vt st → r x lo hi st H Q →
    ∃ T id, typeLookup (.type T) "__getitem__" = pure (some (.builtin id)) ∧ s.TypeIs v T ∧ wpAny (model X.prog X.w) X.A (getItem v (.ref sl)) (EP X pins σ Q) X.xe s
def tSl3 (r : V → Option Int → Option Int → Option Int → Hp → VK → Prop) (te : TE) (tl th tk : TO) : TE := fun σ H Q => te σ H fun x H1 => tl σ H1 fun l H2 => th σ H2 fun u H3 => tk σ H3 fun k H4 => r x l u k H4 Q
theorem pe_slice3 {e est : Expr} {lo hi : Option Expr} {te : TE} {tl th tk : TO} {pos p2 : Pos} {r : V → Option Int → Option Int → Option Int → Hp → VK → Prop} (hr : SlR3 X r) (he : PE X e te) (hl : PO X lo tl) (hu : PO X hi th) (hk : PO X (some est) tk) :
    PE X (.Subscript e (.Slice lo hi (some est) p2) pos) (tSl3 r te tl th tk) := by
  intro pins s σ H Q I h
  refine Subscript_ (thn (he pins s σ H _ I h) fun v s1 ⟨x, H1, I1, r1, q1⟩ => ?_)
  refine wpAny_Slice (thn (hl pins s1 σ H1 _ I1 q1) fun vl s2 ⟨l, H2, I2, pl, q2⟩ => thn (hu pins s2 σ H2 _ I2 q2) fun vu s3 ⟨u, H3, I3, pu, q3⟩ => thn (hk pins s3 σ H3 _ I3 q3) fun vt s4 ⟨k, H4, I4, pt, q4⟩ => ?_)
  have I5 : Inv X pins σ H4 { s4 with heap := s4.heap.push { cls := .type "slice", data := .fields #[vl, vu, vt] } } := I4.kept (t' := s4.toks) fun b ob q => Heap.get?_push_of_some _ q
  obtain ⟨T, id, hT, ht, hg⟩ := hr pins { s4 with heap := s4.heap.push { cls := .type "slice", data := .fields #[vl, vu, vt] } } σ H4 x v vl vu vt l u k s4.heap.objs.size Q I5 r1 (Heap.IsSliceOf.new ..) pl pu pt q4
  show wpAny (model X.prog X.w) X.A (subscriptTail e (.Slice lo hi (some est) p2) v (.ref s4.heap.objs.size)) (EP X pins σ Q) X.xe { s4 with heap := s4.heap.push { cls := .type "slice", data := .fields #[vl, vu, vt] } }
  exact tail_any (ops := [v, .ref s4.heap.objs.size]) ht hT hg (by with_unfolding_all rfl)
theorem sl3_rev : SlR3 X (fun x lo hi st H Q => lo = none ∧ hi = none ∧ st = some (-1) ∧ ∃ a xs, x = .ref a ∧ SqL X.K H a xs ∧ ∀ p, H p = none → Q (.ref p) (upd H p (.lst xs.reverse))) := by
  intro pins s σ H x v vl vu vt lo hi st sl Q I rx hs pl pu pt h
  obtain ⟨rfl, rfl, rfl, a, xs, rfl, hx, q⟩ := h
  cases rx
  obtain ⟨its, r, ht, hz⟩ := I.list hx
  have hlen := r.length
  refine ⟨"list", _, slot_list_getitem.lookup, ht.isList.typeIs, ?_⟩
  refine wpAny_getItem_list_slice ht.isList hs pl pu pt (by decide) ?_ (by rw [List.size_toArray] <;> omega)
  rw [GX.pick_rev]
  refine ⟨.ref s.heap.objs.size, _, I.laid (t' := s.toks) (o := .lst xs.reverse) (fun b ob q => Heap.get?_push_of_some _ q) (Nat.le_refl _) ?_, rfl, q _ (I.hok.fresh (Nat.le_refl _))⟩
  exact ⟨by rw [List.length_reverse]; exact hz, its.reverse, 0, r.reverse, Heap.get?_push_size _ rfl⟩
end
end L2
namespace L2
open PySem PySem.Spec PyProof.Rows
def dI (m : List (Int × Int)) : List (Key × V) := m.map fun p => (Sum.inl p.1, V.int p.2)
def lkI : List (Int × Int) → Int → Option Int
  | [], _ => none
  | p :: m, k => if p.1 = k then some p.2 else lkI m k
def putI : List (Int × Int) → Int → Int → List (Int × Int)
  | [], k, v => [(k, v)]
  | p :: m, k, v => if p.1 = k then (p.1, v) :: m else p :: putI m k v
theorem put_keys : ∀ (m : List (Int × Int)) (k v x : Int), x ∈ (putI m k v).map (·.1) ↔ x = k ∨ x ∈ m.map (·.1)
  | [], k, v, x => by simp [putI]
  | p :: m, k, v, x => by
    show x ∈ (if p.1 = k then (p.1, v) :: m else p :: putI m k v).map (·.1) ↔ _
    by_cases e : p.1 = k
    · rw [if_pos e]
      simp only [List.map_cons, List.mem_cons]
      constructor
      · exact fun h => .inr h
      · rintro (h | h)
        · exact .inl (h.trans e.symm)
        · exact h
    · rw [if_neg e]
      simp only [List.map_cons, List.mem_cons]
      have := put_keys m k v x
      constructor
      · rintro (h | h)
        · exact .inr (.inl h)
        · rcases this.mp h with h | h
          · exact .inl h
          · exact .inr (.inr h)
      · rintro (h | h | h)
        · exact .inr (this.mpr (.inl h))
        · exact .inl h
        · exact .inr (this.mpr (.inr h))
theorem put_nd : ∀ (m : List (Int × Int)) (k v : Int), (m.map (·.1)).Nodup → ((putI m k v).map (·.1)).Nodup
  | [], k, v, _ => by simp [putI]
  | p :: m, k, v, h => by
    show ((if p.1 = k then (p.1, v) :: m else p :: putI m k v).map (·.1)).Nodup
    rw [List.map_cons, List.nodup_cons] at h
    by_cases e : p.1 = k
    · rw [if_pos e, List.map_cons, List.nodup_cons]
      exact h
    · rw [if_neg e, List.map_cons, List.nodup_cons]
      refine ⟨fun z => ?_, put_nd m k v h.2⟩
      rcases (put_keys m k v p.1).mp z with z | z
      · exact e z
      · exact h.1 z
theorem put_vals : ∀ (m : List (Int × Int)) (k v : Int) (p : Int × Int), p ∈ putI m k v → p = (k, v) ∨ p ∈ m
  | [], k, v, p, h => .inl (by simpa [putI] using h)
  | q :: m, k, v, p, h => by
    have h' : p ∈ (if q.1 = k then (q.1, v) :: m else q :: putI m k v) := h
    by_cases e : q.1 = k
    · rw [if_pos e] at h'
      rcases List.mem_cons.mp h' with z | z
      · exact .inl (by rw [z, e])
      · exact .inr (List.mem_cons_of_mem _ z)
    · rw [if_neg e] at h'
      rcases List.mem_cons.mp h' with z | z
      · exact .inr (by rw [z]; exact List.mem_cons_self)
      · rcases put_vals m k v p z with z | z
        · exact .inl z
        · exact .inr (List.mem_cons_of_mem _ z)
theorem lk_mem : ∀ {m : List (Int × Int)} {k v : Int}, lkI m k = some v → (k, v) ∈ m
  | [], _, _, h => by cases h
  | p :: m, k, v, h => by
    have h' : (if p.1 = k then some p.2 else lkI m k) = some v := h
    by_cases e : p.1 = k
    · rw [if_pos e] at h'
      have : p = (k, v) := by rw [← e, ← Option.some.inj h']
      rw [this]
      exact List.mem_cons_self
    · rw [if_neg e] at h'
      exact List.mem_cons_of_mem _ (lk_mem h')
theorem lk_of : ∀ {m : List (Int × Int)} {k v : Int}, (m.map (·.1)).Nodup → (k, v) ∈ m → lkI m k = some v
  | [], _, _, _, h => by cases h
  | p :: m, k, v, nd, h => by
    rw [List.map_cons, List.nodup_cons] at nd
    show (if p.1 = k then some p.2 else lkI m k) = some v
    rcases List.mem_cons.mp h with z | z
    · rw [← z, if_pos rfl]
    · rw [if_neg (fun e => nd.1 (by rw [e]; exact List.mem_map_of_mem (f := (·.1)) z)), lk_of nd.2 z]
theorem lk_none {m : List (Int × Int)} {k : Int} (h : k ∉ m.map (·.1)) : lkI m k = none := by
  cases e : lkI m k with
  | none => rfl
  | some v => exact absurd (List.mem_map_of_mem (f := (·.1)) (lk_mem e)) h
theorem lk_some {m : List (Int × Int)} {k : Int} (h : k ∈ m.map (·.1)) : ∃ v, lkI m k = some v := by
  cases e : lkI m k with
  | some v => exact ⟨v, rfl⟩
  | none =>
    exfalso
    induction m with
    | nil => cases h
    | cons p m ih =>
      have e' : (if p.1 = k then some p.2 else lkI m k) = none := e
      by_cases z : p.1 = k
      · rw [if_pos z] at e'; cases e'
      · rw [if_neg z] at e'
        rw [List.map_cons] at h
        rcases List.mem_cons.mp h with q | q
        · exact z q.symm
        · exact ih q e'
def ct (m : List (Int × Int)) (k : Int) : Int := (lkI m k).getD 0
section
variable {X : Cx}
def Pr (H : Hp) (x : V) (p : Int × Int) : Prop := ∃ a, x = .ref a ∧ H a = some (.tup [.int p.1, .int p.2])
abbrev Prs (H : Hp) : List V → List (Int × Int) → Prop := Paired (Pr H)
theorem Prs.get {H : Hp} : ∀ {xs : List V} {ps : List (Int × Int)} {i : Nat} {x : V}, Prs H xs ps → xs[i]? = some x → ∃ p, ps[i]? = some p ∧ Pr H x p
  | _, _, _, _, .nil, e => by simp at e
  | _, _, 0, _, .cons r _, e => by simp at e; subst e; exact ⟨_, rfl, r⟩
  | _, _, i + 1, x, .cons _ t, e => by
    obtain ⟨p, h1, h2⟩ := Prs.get (i := i) (x := x) t (by simpa using e)
    exact ⟨p, by simpa using h1, h2⟩
theorem Prs.at {H : Hp} : ∀ {xs : List V} {ps : List (Int × Int)} {i : Nat} {p : Int × Int}, Prs H xs ps → ps[i]? = some p → ∃ x, xs[i]? = some x ∧ Pr H x p
  | _, _, _, _, .nil, e => by simp at e
  | _, _, 0, _, .cons r _, e => by simp at e; subst e; exact ⟨_, rfl, r⟩
  | _, _, i + 1, p, .cons _ t, e => by
    obtain ⟨x, h1, h2⟩ := Prs.at (i := i) (p := p) t (by simpa using e)
    exact ⟨x, by simpa using h1, h2⟩
theorem Prs.len {H : Hp} {xs : List V} {ps : List (Int × Int)} (r : Prs H xs ps) : xs.length = ps.length := Paired.length r
end
end L2
namespace L2
open PySem PySem.Spec PyProof.Rows
section
variable {X : Cx}
end
theorem comp_tup {K : PySem.W.Frag} {a : Addr} {xs : List V} {g : TG} {tt : TT} {te : TE} {σ : St} {H : Hp} {D : Addr} {Qe : Hp → Prop} (Pv : Nat → St → Hp → Prop) (h0 : Pv 0 σ H) (hl : ∀ i σ H, i ≤ xs.length → Pv i σ H → SqT K H a xs)
    (hs : ∀ i x σ H, xs[i]? = some x → Pv i σ H → cTurn g tt te D (Pv (i + 1)) x σ H) (hd : ∀ σ H, Pv xs.length σ H → Qe H) :
    ∃ W : Nat → Nat → St → Hp → Prop, (∃ m, W 0 m σ H) ∧ ∀ i m σ' H', W i m σ' H' → ((Itt K a).stop i H' ∧ Qe H') ∨ ((Itt K a).go i H' ∧ ∃ N : St → Hp → Prop, (∀ σ2 H2, N σ2 H2 → ∃ m', m' < m ∧ W (i + 1) m' σ2 H2) ∧
      ∀ x H'', (Itt K a).yld i H' x H'' → cTurn g tt te D N x σ' H'') := by
  refine ⟨fun i m σ H => m = xs.length - i ∧ i ≤ xs.length ∧ Pv i σ H, ⟨xs.length, by simp, Nat.zero_le _, h0⟩, ?_⟩
  rintro i m σ H ⟨rfl, hi, p⟩
  have q := hl i σ H hi p
  by_cases hlt : i < xs.length
  · refine .inr ⟨⟨xs, xs[i], q, by simp [hlt]⟩, Pv (i + 1), fun σ' H' p' => ⟨xs.length - (i + 1), by omega, rfl, hlt, p'⟩, fun x H' y => ?_⟩
    obtain ⟨e, y⟩ := y
    subst e
    exact hs i x σ _ (y xs q) p
  · have e : i = xs.length := by omega
    subst e
    exact .inl ⟨⟨xs, q, Nat.le_refl _⟩, hd σ H p⟩
theorem KV.get {kvs : List (Key × V)} {vs : List (Key × Value)} : ∀ {i : Nat} {k : Key} {v : V}, KV kvs vs → kvs[i]? = some (k, v) → ∃ u, vs[i]? = some (k, u) ∧ RelV v u := by
  intro i k v r
  induction r generalizing i with
  | nil => intro e; simp at e
  | cons r1 r2 ih =>
    rename_i p q _ _
    intro e
    cases i with
    | zero =>
      have e' : p = (k, v) := Option.some.inj e
      subst e'
      obtain ⟨k', u⟩ := q
      have ek : k = k' := r1.1
      subst ek
      exact ⟨u, rfl, r1.2⟩
    | succ i => exact ih e
section
variable {X : Cx}
end
end L2
set_option Elab.async false
set_option linter.all false
set_option maxRecDepth 100000
namespace GX
open PySem PyProof.Rows
def Ris (xs : Array Nat) : Prop := xs.toList.Pairwise (· < ·)
theorem Ris.at {xs : Array Nat} (h : Ris xs) {i j : Nat} (hi : i < j) (hj : j < xs.size) : xs.getD i 0 < xs.getD j 0 := by
  have := List.pairwise_iff_getElem.mp h i j (by simp; omega) (by simpa using hj) hi
  simp only [Array.getElem_toList] at this
  rw [Array.getD_eq_getD_getElem?, Array.getD_eq_getD_getElem?, Array.getElem?_eq_getElem (by omega), Array.getElem?_eq_getElem hj]
  exact this
theorem getD_any {xs : Array Nat} {i : Nat} (h : i < xs.size) (a b : Nat) : xs.getD i a = xs.getD i b := by
  rw [Array.getD_eq_getD_getElem?, Array.getD_eq_getD_getElem?, Array.getElem?_eq_getElem h]
  rfl
theorem below_go {xs : Array Nat} (hr : Ris xs) (j : Nat) : ∀ (fuel lo hi : Nat), lo ≤ hi → hi ≤ xs.size → hi - lo ≤ fuel → (∀ i, i < lo → xs.getD i 0 < j) → (∀ i, hi ≤ i → i < xs.size → j ≤ xs.getD i 0) →
    SetTable.below.go xs j fuel lo hi ≤ xs.size ∧ (∀ i, i < SetTable.below.go xs j fuel lo hi → xs.getD i 0 < j) ∧ (∀ i, SetTable.below.go xs j fuel lo hi ≤ i → i < xs.size → j ≤ xs.getD i 0)
  | 0, lo, hi, h1, h2, h3, h4, h5 => by
    have e : lo = hi := by omega
    subst e
    unfold SetTable.below.go
    exact ⟨h2, h4, h5⟩
  | fuel + 1, lo, hi, h1, h2, h3, h4, h5 => by
    unfold SetTable.below.go
    by_cases h : lo < hi
    · rw [if_pos h]
      have hm : (lo + hi) / 2 < xs.size := by omega
      show (if xs.getD ((lo + hi) / 2) j < j then SetTable.below.go xs j fuel ((lo + hi) / 2 + 1) hi else SetTable.below.go xs j fuel lo ((lo + hi) / 2)) ≤ _ ∧ _
      by_cases hc : xs.getD ((lo + hi) / 2) j < j
      · simp only [if_pos hc]
        rw [getD_any hm j 0] at hc
        refine below_go hr j fuel _ hi (by omega) h2 (by omega) (fun i hi' => ?_) h5
        rcases Nat.lt_or_ge i ((lo + hi) / 2) with z | z
        · have := hr.at z hm
          omega
        · have : i = (lo + hi) / 2 := by omega
          rw [this]
          exact hc
      · simp only [if_neg hc]
        rw [getD_any hm j 0] at hc
        refine below_go hr j fuel lo _ (by omega) (by omega) (by omega) h4 (fun i hi' hs => ?_)
        rcases Nat.lt_or_ge ((lo + hi) / 2) i with z | z
        · have := hr.at z hs
          omega
        · have : i = (lo + hi) / 2 := by omega
          rw [this]
          omega
    · rw [if_neg h]
      have e : lo = hi := by omega
      subst e
      exact ⟨h2, h4, h5⟩
theorem below_ok {xs : Array Nat} (hr : Ris xs) (j : Nat) : SetTable.below xs j ≤ xs.size ∧ (∀ i, i < SetTable.below xs j → xs.getD i 0 < j) ∧ (∀ i, SetTable.below xs j ≤ i → i < xs.size → j ≤ xs.getD i 0) := by
  unfold SetTable.below
  exact below_go hr j _ 0 _ (Nat.zero_le _) (Nat.le_refl _) (by omega) (fun i h => by omega) (fun i h1 h2 => by omega)
def Off (xs : Array Nat) (d : Nat) : Prop := xs[SetTable.below xs d]? ≠ some d
theorem Off.no {xs : Array Nat} (hr : Ris xs) {d : Nat} (h : Off xs d) : ∀ i, i < xs.size → xs.getD i 0 ≠ d := by
  intro i hi e
  obtain ⟨h1, h2, h3⟩ := below_ok hr d
  have b1 : SetTable.below xs d ≤ i := by
    rcases Nat.lt_or_ge i (SetTable.below xs d) with z | z
    · have := h2 i z
      omega
    · exact z
  have b2 : SetTable.below xs d = i := by
    rcases Nat.lt_or_ge (SetTable.below xs d) i with z | z
    · have := hr.at z hi
      have := h3 (SetTable.below xs d) (Nat.le_refl _) (by omega)
      omega
    · omega
  apply h
  rw [b2, Array.getElem?_eq_getElem hi]
  rw [Array.getD_eq_getD_getElem?, Array.getElem?_eq_getElem hi] at e
  exact congrArg some e
theorem slot_off {t : SetTable} {j : Nat} (h : ∀ i, t.slot j ≠ .live i) : Off t.place j := by
  intro z
  apply h (SetTable.below t.place j)
  unfold SetTable.slot
  simp only [z, beq_self_eq_true, if_true]
theorem adv_dummy (t : SetTable) (p : SetTable.Probe) : (t.advance p).dummy = p.dummy := by
  unfold SetTable.advance
  split <;> rfl
theorem probe_off {t : SetTable} {f : Nat → Int} {h : Int} : ∀ (fuel : Nat) (p : SetTable.Probe) (j : Nat) (dm : Option Nat), (∀ d, p.dummy = some d → Off t.place d) → SetTable.probe.go t f h fuel p = some (.empty j dm) → Off t.place j ∧ ∀ d, dm = some d → Off t.place d
  | 0, p, j, dm, hp, e => by
    unfold SetTable.probe.go at e
    cases e
  | fuel + 1, p, j, dm, hp, e => by
    unfold SetTable.probe.go at e
    cases hs : t.slot p.j with
    | empty =>
      rw [hs] at e
      dsimp only at e
      cases e
      exact ⟨slot_off (fun i z => by rw [hs] at z; cases z), hp⟩
    | dummy =>
      rw [hs] at e
      dsimp only at e
      refine probe_off fuel _ j dm (fun d hd => ?_) e
      rw [adv_dummy] at hd
      cases hd
      exact slot_off (fun i z => by rw [hs] at z; cases z)
    | live i =>
      rw [hs] at e
      dsimp only at e
      split at e
      · cases e
      · exact probe_off fuel _ j dm (fun d hd => hp d (by rw [adv_dummy] at hd; exact hd)) e
theorem free_off {t : SetTable} {h : Int} {sl : Nat} {b : Bool} (e : t.freeSlot h = some (sl, b)) : Off t.place sl := by
  unfold SetTable.freeSlot SetTable.probe at e
  generalize hg : SetTable.probe.go t (fun _ => h + 1) h (10 * SetTable.turns t.mask) (t.probeStart h) = g at e
  cases g with
  | none => cases e
  | some m =>
    cases m with
    | candidate j i n => cases e
    | empty j dm =>
      obtain ⟨h1, h2⟩ := probe_off _ _ j dm (fun d hd => by cases hd) hg
      dsimp only at e
      have e' := Option.some.inj e
      cases dm with
      | none =>
        have : j = sl := congrArg Prod.fst e'
        rw [← this]
        exact h1
      | some d =>
        have : d = sl := congrArg Prod.fst e'
        rw [← this]
        exact h2 d rfl
theorem mem_getD {xs : Array Nat} {x : Nat} {p : Nat} (h : x ∈ xs.toList.take p) : ∃ i, i < p ∧ i < xs.size ∧ xs.getD i 0 = x := by
  obtain ⟨i, hi, e⟩ := List.getElem_of_mem h
  rw [List.length_take, Array.length_toList] at hi
  refine ⟨i, by omega, by omega, ?_⟩
  rw [List.getElem_take, Array.getElem_toList] at e
  rw [Array.getD_eq_getD_getElem?, Array.getElem?_eq_getElem (by omega)]
  exact e
theorem mem_getD' {xs : Array Nat} {x : Nat} {p : Nat} (h : x ∈ xs.toList.drop p) : ∃ i, p ≤ i ∧ i < xs.size ∧ xs.getD i 0 = x := by
  obtain ⟨i, hi, e⟩ := List.getElem_of_mem h
  rw [List.length_drop, Array.length_toList] at hi
  refine ⟨p + i, by omega, by omega, ?_⟩
  rw [List.getElem_drop, Array.getElem_toList] at e
  rw [Array.getD_eq_getD_getElem?, Array.getElem?_eq_getElem (by omega)]
  exact e
theorem put_ris {t : SetTable} {sl : Nat} (hr : Ris t.place) (ho : Off t.place sl) : Ris (t.put sl).1.place := by
  obtain ⟨h1, h2, h3⟩ := below_ok hr sl
  show (SetTable.insertAt t.place (SetTable.below t.place sl) sl).toList.Pairwise (· < ·)
  rw [SetTable.toList_insertAt, List.pairwise_append]
  refine ⟨hr.sublist (List.take_sublist _ _), ?_, ?_⟩
  · rw [List.pairwise_cons]
    refine ⟨fun x hx => ?_, hr.sublist (List.drop_sublist _ _)⟩
    obtain ⟨i, a, b, c⟩ := mem_getD' hx
    have q1 := h3 i a b
    have q2 := ho.no hr i b
    omega
  · intro x hx y hy
    obtain ⟨i, a, b, c⟩ := mem_getD hx
    have q1 := h2 i a
    rcases List.mem_cons.mp hy with z | z
    · omega
    · obtain ⟨i', a', b', c'⟩ := mem_getD' z
      have q2 := h3 i' a' b'
      omega
theorem stand_ris (t : SetTable) (n : Nat) : Ris (t.standIn n).place := by
  show (Array.range n).toList.Pairwise (· < ·)
  rw [Array.toList_range]
  exact List.pairwise_lt_range
def Tb (b : Bool) (t : SetTable) : Prop := Ris t.place ∧ t.led = b
theorem lay_tb {b : Bool} {t : SetTable} (h : Tb b t) (es : Array (Int × Value)) (k : Int) (x : Value) : Tb b (layNew t es k x).2.1 := by
  unfold layNew
  split
  · rename_i sl wd e
    dsimp only
    unfold SetTable.orStandIn
    split
    · exact ⟨put_ris h.1 (free_off e), h.2⟩
    · exact ⟨stand_ris _ _, h.2⟩
  · exact ⟨stand_ris _ _, h.2⟩
end GX
set_option Elab.async false
set_option linter.all false
set_option maxRecDepth 100000
namespace GX
open PySem PyProof.Rows
abbrev byT (w : World) : Bool := w.params.followText "set-order"
section
variable {prog : Program} {w : World} {A : Around} {E : Value → Shared → Prop} {s : Shared}
def SetI (prog : Program) (w : World) (h : Heap) (a : Addr) (S : Int → Bool) (n : Nat) : Prop :=
  ∃ o es ep t, h.get? a = some o ∧ o.ExactSet ∧ o.data = .set es ep t ∧ ElemsOf (intKind prog w) es.toList ∧ (∀ k, S k = true ↔ ∃ e ∈ es.toList, (intKind prog w).is k e.2 = true) ∧ es.size < scanBound ∧ t.fits es.size = true ∧ es.size = n ∧ Tb (!byT w) t
theorem SetI.at {h h' : Heap} {a : Addr} {S : Int → Bool} {n : Nat} (x : SetI prog w h a S n) (k : ∀ o, h.get? a = some o → h'.get? a = some o) : SetI prog w h' a S n := by
  obtain ⟨o, es, ep, t, ho, r⟩ := x
  exact ⟨o, es, ep, t, k o ho, r⟩
theorem SetI.congr {h : Heap} {a : Addr} {S S' : Int → Bool} {n n' : Nat} (x : SetI prog w h a S n) (e : ∀ k, S k = S' k) (en : n = n') : SetI prog w h a S' n' := by
  have z : S = S' := funext e
  rw [← z, ← en]
  exact x
def GoodS (prog : Program) (w : World) (es : Array (Int × Value)) (t : SetTable) (S : Int → Bool) (n : Nat) : Prop :=
  ElemsOf (intKind prog w) es.toList ∧ (∀ k, S k = true ↔ ∃ e ∈ es.toList, (intKind prog w).is k e.2 = true) ∧ es.size < scanBound ∧ t.fits es.size = true ∧ es.size = n ∧ Tb (!byT w) t
def RawS (h : Heap) (a : Addr) (es : Array (Int × Value)) (t : SetTable) : Prop := ∃ o ep, h.get? a = some o ∧ o.ExactSet ∧ o.data = .set es ep t
theorem RawS.put {a : Addr} {es es' : Array (Int × Value)} {t t' : SetTable} {Q : Unit → Shared → Prop} (r : RawS s.heap a es t) (hz : es'.size < scanBound) (h : ∀ h', Heap.SameBut a s.heap h' → RawS h' a es' t' → Q () { s with heap := h' }) :
    wpAny (model prog w) A (storeSet a es' t') Q E s := by
  obtain ⟨⟨c, d, b, sl⟩, ep, ho, hx, hd⟩ := r
  cases hd
  exact wpAny_storeSet_of ho rfl (h _ (Heap.SameBut.update ..) ⟨_, ep + 1, Heap.get?_update_self _ ho rfl, hx, rfl⟩) (fits_of_scanBound hz)
theorem GoodS.more {es : Array (Int × Value)} {t : SetTable} {S : Int → Bool} {n : Nat} {k : Int} {x : Value} (g : GoodS prog w es t S n) (hk : (intKind prog w).is k x = true) (hx : x.scannable = true) (room : n + 1 < scanBound) :
    GoodS prog w (layNew t es ((intKind prog w).hash k) x).1 (layNew t es ((intKind prog w).hash k) x).2.1 (fun k' => S k' || decide (k' = k)) (n + 1) := by
  obtain ⟨g1, g2, g3, _, g5, g6⟩ := g
  have p : List.Perm _ (es.push ((intKind prog w).hash k, x)).toList := layNew_perm t es ((intKind prog w).hash k) x
  rw [Array.toList_push] at p
  have z : (layNew t es ((intKind prog w).hash k) x).1.size = n + 1 := by simpa [g5] using p.length_eq
  exact ⟨(g1.push hk hx).perm p, mem_push_iff hk g2 p, z ▸ room, layNew_fits t es _ x, z, lay_tb g6 es _ x⟩
end
end GX
set_option Elab.async false
set_option linter.all false
set_option maxRecDepth 100000
namespace GX
open PySem PyProof.Rows
section
variable {prog : Program} {w : World} {A : Around} {E : Value → Shared → Prop} {s : Shared} {I : Addr} {fp wr : List Addr} {N : Nat} {P : Nat → Value → Prop} {St : Nat → Heap → Prop}
end
end GX
namespace L2
open PySem PySem.Spec PyProof.Rows
section
variable {X : Cx}
abbrev Dcs (H : Hp) : List V → List (List (Int × Int)) → Prop := Paired fun x m => ∃ d, x = .ref d ∧ Rd H d (.dK (dI m))
theorem Dcs.get {H : Hp} : ∀ {xs : List V} {ms : List (List (Int × Int))} {i : Nat} {x : V}, Dcs H xs ms → xs[i]? = some x → ∃ m, ms[i]? = some m ∧ ∃ d, x = .ref d ∧ Rd H d (.dK (dI m))
  | _, _, _, _, .nil, e => by simp at e
  | _, _, 0, _, .cons r _, e => by simp at e; subst e; exact ⟨_, rfl, r⟩
  | _, _, i + 1, x, .cons _ t, e => by
    obtain ⟨p, h1, h2⟩ := Dcs.get (i := i) (x := x) t (by simpa using e)
    exact ⟨p, by simpa using h1, h2⟩
end
end L2
set_option Elab.async false
set_option linter.all false
set_option maxRecDepth 100000
namespace L2
open PySem PySem.Spec PyProof.Rows
mutual
inductive Dp (K : PySem.W.Frag) (H : Hp) : V → PyData → Prop
  | none : Dp K H .non .none
  | bool (b : Bool) : Dp K H (.bl b) (.bool b)
  | int (i : Int) : Dp K H (.int i) (.int i)
  | str (x : Str) : Dp K H (.str x) (.str x)
  | tup {a : Addr} {xs : List V} {ds : List PyData} : SqT K H a xs → Dps K H xs ds → Dp K H (.ref a) (.tuple ds)
inductive Dps (K : PySem.W.Frag) (H : Hp) : List V → List PyData → Prop
  | nil : Dps K H [] []
  | cons {x : V} {xs : List V} {d : PyData} {ds : List PyData} : Dp K H x d → Dps K H xs ds → Dps K H (x :: xs) (d :: ds)
end
def SmT (K : PySem.W.Frag) (H H' : Hp) : Prop := ∀ a xs, SqT K H a xs → SqT K H' a xs
theorem SmT.trans {K : PySem.W.Frag} {H1 H2 H3 : Hp} (a : SmT K H1 H2) (b : SmT K H2 H3) : SmT K H1 H3 := fun _ _ h => b _ _ (a _ _ h)
theorem SmT.upd {K : PySem.W.Frag} {H : Hp} {l : Addr} {o : HO} (h1 : ∀ xs, H l ≠ some (.tup xs)) (h2 : ∀ z xs, H l ≠ some (.frz z (.tup xs))) : SmT K H (upd H l o) := by
  rintro a xs ((h | ⟨z, h⟩) | h)
  · have : a ≠ l := fun e => h1 xs (e ▸ h)
    exact .inl (.inl (by rw [upd_ne this]; exact h))
  · have : a ≠ l := fun e => h2 z xs (e ▸ h)
    exact .inl (.inr ⟨z, by rw [upd_ne this]; exact h⟩)
  · exact .inr h
theorem SmT.lst {K : PySem.W.Frag} {H : Hp} {l : Addr} {o : HO} {ys : List V} (h : H l = some (.lst ys)) : SmT K H (L2.upd H l o) := .upd (fun _ z => by rw [h] at z; cases z) (fun _ _ z => by rw [h] at z; cases z)
theorem Dps.len {K : PySem.W.Frag} {H : Hp} : ∀ {xs : List V} {ds : List PyData}, Dps K H xs ds → xs.length = ds.length
  | _, _, .nil => rfl
  | _, _, .cons _ t => by rw [List.length_cons, List.length_cons, t.len]
theorem Dps.get {K : PySem.W.Frag} {H : Hp} : ∀ {xs : List V} {ds : List PyData} {i : Nat} {x : V}, Dps K H xs ds → xs[i]? = some x → ∃ d, ds[i]? = some d ∧ Dp K H x d
  | _, _, _, _, .nil, e => by simp at e
  | _, _, 0, _, .cons r _, e => by simp at e; subst e; exact ⟨_, rfl, r⟩
  | _, _, i + 1, x, .cons _ t, e => by
    obtain ⟨p, h1, h2⟩ := Dps.get (i := i) (x := x) t (by simpa using e)
    exact ⟨p, by simpa using h1, h2⟩
theorem Dps.at {K : PySem.W.Frag} {H : Hp} : ∀ {xs : List V} {ds : List PyData} {i : Nat} {d : PyData}, Dps K H xs ds → ds[i]? = some d → ∃ x, xs[i]? = some x ∧ Dp K H x d
  | _, _, _, _, .nil, e => by simp at e
  | _, _, 0, _, .cons r _, e => by simp at e; subst e; exact ⟨_, rfl, r⟩
  | _, _, i + 1, x, .cons _ t, e => by
    obtain ⟨p, h1, h2⟩ := Dps.at (i := i) t (by simpa using e)
    exact ⟨p, by simpa using h1, h2⟩
section
variable {X : Cx} {pins : List (Addr × Obj)} {σ : St} {H : Hp} {s : Shared}
mutual
theorem Dp.reads (I : Inv X pins σ H s) : ∀ {x : V} {d : PyData} {u : Value}, Dp X.K H x d → RelV x u → ∃ as, Reads s.heap u d as
  | _, _, _, .none, r => by cases r; exact ⟨_, .none⟩
  | _, _, _, .bool b, r => by cases r; exact ⟨_, .bool b⟩
  | _, _, _, .int i, r => by obtain ⟨t, rfl⟩ := r; exact ⟨_, .int i t⟩
  | _, _, _, .str z, r => by obtain ⟨t, rfl⟩ := r; exact ⟨_, .str z t⟩
  | _, _, _, .tup h t, r => by
    cases r
    obtain ⟨its, rv, ⟨o, e, c, n, dd⟩, _⟩ := I.tuple h
    obtain ⟨as, q⟩ := Dps.reads I t rv
    exact ⟨_, .tuple e c dd (by simpa using q)⟩
theorem Dps.reads (I : Inv X pins σ H s) : ∀ {xs : List V} {ds : List PyData} {us : List Value}, Dps X.K H xs ds → Vals xs us → ∃ as, ReadsAll s.heap us ds as
  | _, _, _, .nil, r => by cases r; exact ⟨_, .nil⟩
  | _, _, _, .cons h t, r => by
    cases r with
    | cons r1 r2 =>
      obtain ⟨as, q⟩ := Dp.reads I h r1
      obtain ⟨bs, q2⟩ := Dps.reads I t r2
      exact ⟨_, .cons q q2⟩
end
def Dl (K : PySem.W.Frag) (H : Hp) (x : V) (d : PyData) : Prop := Dp K H x d ∨ ∃ a xs ds, x = .ref a ∧ d = .list ds ∧ SqL K H a xs ∧ Dps K H xs ds
theorem Dl.reads (I : Inv X pins σ H s) {x : V} {d : PyData} {u : Value} (h : Dl X.K H x d) (r : RelV x u) : ∃ as, Reads s.heap u d as := by
  rcases h with h | ⟨a, xs, ds, rfl, rfl, h, t⟩
  · exact Dp.reads I h r
  · cases r
    obtain ⟨its, rv, ⟨o, n, e, c, _, dd⟩, _⟩ := I.list h
    obtain ⟨as, q⟩ := Dps.reads I t rv
    exact ⟨_, .list e c dd (by simpa using q)⟩
def rEqP (K : PySem.W.Frag) : R2 := fun x y H Q => ∃ d e, Dl K H x d ∧ Dl K H y e ∧ d.canLay0 = true ∧ e.canLay0 = true ∧ min d.depth e.depth ≤ 60 ∧ Q (.bl (d.eqv e)) H
def rNeP (K : PySem.W.Frag) : R2 := fun x y H Q => ∃ d e, Dl K H x d ∧ Dl K H y e ∧ d.canLay0 = true ∧ e.canLay0 = true ∧ min d.depth e.depth ≤ 60 ∧ Q (.bl (!d.eqv e)) H
theorem op_eqDl (hu : X.A.units + 64 < cLine) : OpR X (compareOp .Eq) (rEqP X.K) := by
  intro pins s σ H x y v u Q I rx ry h
  obtain ⟨d, e, h1, h2, c1, c2, dp, q⟩ := h
  obtain ⟨as, r1⟩ := h1.reads I rx
  obtain ⟨bs, r2⟩ := h2.reads I ry
  exact SeqAt.compareEq_reads r1 r2 c1 c2 (by omega) ⟨.bl _, H, I, rfl, q⟩
theorem op_neDl (hu : X.A.units + 64 < cLine) : OpR X (compareOp .NotEq) (rNeP X.K) := by
  intro pins s σ H x y v u Q I rx ry h
  obtain ⟨d, e, h1, h2, c1, c2, dp, q⟩ := h
  obtain ⟨as, r1⟩ := h1.reads I rx
  obtain ⟨bs, r2⟩ := h2.reads I ry
  exact SeqAt.compareNe_reads r1 r2 c1 c2 (by omega) ⟨.bl _, H, I, rfl, q⟩
def rInP (K : PySem.W.Frag) (neg : Bool) : R2 := fun x y H Q => ∃ a xs ds d, y = .ref a ∧ (SqL K H a xs ∨ SqT K H a xs) ∧ Dps K H xs ds ∧ Dp K H x d ∧ PyData.canLayAll0 ds = true ∧ d.canLay0 = true ∧ d.depth ≤ 60 ∧ Q (.bl (if neg then !(ds.any fun z => z.eqv d) else ds.any fun z => z.eqv d)) H
theorem op_inP (hu : X.A.units + 64 < cLine) : OpR X (compareOp .In) (rInP X.K false) := by
  intro pins s σ H x y v u Q I rx ry h
  obtain ⟨a, xs, ds, d, rfl, hs, hd, hx, c1, c2, dp, q⟩ := h
  obtain ⟨bs, r2⟩ := hx.reads I rx
  cases ry
  rcases hs with hs | hs
  · obtain ⟨as, r1⟩ := Dl.reads I (x := .ref a) (u := .ref a) (.inr ⟨a, xs, ds, rfl, rfl, hs, hd⟩) rfl
    exact SeqAt.in_list_reads r1 r2 c1 c2 (by omega) ⟨.bl _, H, I, rfl, q⟩
  · obtain ⟨as, r1⟩ := Dp.reads I (x := .ref a) (u := .ref a) (.tup hs hd) rfl
    exact SeqAt.in_tuple_reads r1 r2 c1 c2 (by omega) ⟨.bl _, H, I, rfl, q⟩
theorem op_notinP (hu : X.A.units + 64 < cLine) : OpR X (compareOp .NotIn) (rInP X.K true) := by
  intro pins s σ H x y v u Q I rx ry h
  obtain ⟨a, xs, ds, d, rfl, hs, hd, hx, c1, c2, dp, q⟩ := h
  obtain ⟨bs, r2⟩ := hx.reads I rx
  cases ry
  rcases hs with hs | hs
  · obtain ⟨as, r1⟩ := Dl.reads I (x := .ref a) (u := .ref a) (.inr ⟨a, xs, ds, rfl, rfl, hs, hd⟩) rfl
    exact SeqAt.notIn_list_reads r1 r2 c1 c2 (by omega) ⟨.bl _, H, I, rfl, q⟩
  · obtain ⟨as, r1⟩ := Dp.reads I (x := .ref a) (u := .ref a) (.tup hs hd) rfl
    exact SeqAt.notIn_tuple_reads r1 r2 c1 c2 (by omega) ⟨.bl _, H, I, rfl, q⟩
end
theorem rEqP_refl {K : PySem.W.Frag} {x y : V} {H : Hp} {Q : VK} {d : PyData} (h1 : Dl K H x d) (h2 : Dl K H y d) (c : d.canLay0 = true) (dp : d.depth ≤ 60) (q : Q (.bl true) H) : rEqP K x y H Q :=
  ⟨d, d, h1, h2, c, c, by omega, by rw [SeqAt.eqv_refl d c]; exact q⟩
end L2
set_option Elab.async false
set_option linter.all false
set_option maxRecDepth 100000
namespace L2
open PySem PySem.Spec PyProof.Rows
theorem same_upd {H : Hp} {l : Addr} {o : HO} (h : H l = none) : Same H (upd H l o) := fun b u e => by rw [upd_ne (ne_of_none e h)]; exact e
def But (d : Addr) (H H' : Hp) : Prop := ∀ b, b ≠ d → H' b = H b
theorem But.upd {d : Addr} {H : Hp} {o : HO} : But d H (L2.upd H d o) := fun b h => upd_ne h
theorem But.same {d : Addr} {B H H' : Hp} (e : But d H H') (s : Same B H) (h : B d = none) : Same B H' := fun b o hb => by rw [e b (ne_of_none hb h)]; exact s b o hb
theorem But.at {d b : Addr} {H H' : Hp} {o : Option HO} (e : But d H H') (n : b ≠ d) (h : H b = o) : H' b = o := by rw [e b n]; exact h
theorem But.of {d b : Addr} {H H' : Hp} {o u : HO} (e : But d H H') (hd : H d = some u) (h : H b = some o) (n : o ≠ u) : H' b = some o := e.at (ne_of h hd n) h
def nwT (xs : List V) (H : Hp) (Q : VK) : Prop := xs.length ≤ sizeLine ∧ ∀ p, H p = none → Q (.ref p) (upd H p (.tup xs))
def nwL (xs : List V) (H : Hp) (Q : VK) : Prop := xs.length ≤ sizeLine ∧ ∀ p, H p = none → Q (.ref p) (upd H p (.lst xs))
section
variable {D : Ends} {σ : St} {H : Hp} {Q : VK} {K : PySem.W.Frag}
theorem x_seq {t u : TS} (h : t { D with nx := u D } σ H) : tSeq t u D σ H := h
theorem x_seqA {te : TE} {g : TG} {u : TS} (h : te σ H fun x H1 => g x σ H1 (u D)) : tSeq (tAsg te g) u D σ H := h
theorem x_seqD {te : TE} {u : TS} (h : te σ H fun _ H1 => u D σ H1) : tSeq (tDrop te) u D σ H := h
theorem x_seqF {wi : TI} {g : TG} {tb u : TS} (h : tFor wi g tb { D with nx := u D } σ H) : tSeq (tFor wi g tb) u D σ H := h
theorem x_seqM {ta tv : TE} {f : Str} {u : TS} (h : sFld K ta tv f { D with nx := u D } σ H) : tSeq (sFld K ta tv f) u D σ H := h
theorem x_seqG {c : TT} {te : TE} {u : TS} (h : c σ H fun b H1 => if b = true then te σ H1 D.rt else u D σ H1) : tSeq (tIfS c (tRet te) tNext) u D σ H := h
theorem x_cut (I : St → Hp → Prop) {t u : TS} (h2 : ∀ σ' H', I σ' H' → u D σ' H') (h : ∀ N : St → Hp → Prop, (∀ σ' H', I σ' H' → N σ' H') → t { D with nx := N } σ H) : tSeq t u D σ H := h _ h2
theorem x_next (h : D.nx σ H) : tNext D σ H := h
theorem x_ret {te : TE} (h : te σ H D.rt) : tRet te D σ H := h
theorem x_drop {te : TE} (h : te σ H fun _ H1 => D.nx σ H1) : tDrop te D σ H := h
theorem x_asg {te : TE} {g : TG} (h : te σ H fun x H1 => g x σ H1 D.nx) : tAsg te g D σ H := h
theorem x_ifs {c : TT} {t u : TS} (h : c σ H fun b H1 => if b = true then t D σ H1 else u D σ H1) : tIfS c t u D σ H := h
theorem x_name {i : Nat} {v : V} {R : St → Hp → Prop} (h : R (σ.set i (some v)) H) : gName i v σ H R := h
theorem x_gnil {R : St → Hp → Prop} (h : R σ H) : gNil [] σ H R := ⟨rfl, h⟩
theorem x_gcons {t : TG} {u : TGs} {v : V} {r : List V} {R : St → Hp → Prop} (h : t v σ H fun σ' H' => u r σ' H' R) : gCons t u (v :: r) σ H R := ⟨v, r, rfl, h⟩
theorem x_gtup {n : Nat} {t : TGs} {a : Addr} {xs : List V} {R : St → Hp → Prop} (h1 : SqT K H a xs) (h2 : xs.length = n) (h : t xs σ H R) : gTup K n t (.ref a) σ H R := ⟨a, xs, rfl, h1, h2, h⟩
theorem x_var {i : Nat} {v : V} (h1 : σ[i]? = some (some v)) (h : Q v H) : tVar i σ H Q := ⟨v, h1, h⟩
theorem x_c {v : V} (h : Q v H) : tC v σ H Q := h
theorem x_op {r : R2} {ta tb : TE} (h : ta σ H fun x H1 => tb σ H1 fun y H2 => r x y H2 Q) : tOp r ta tb σ H Q := h
theorem x_un {r : V → Hp → VK → Prop} {ta : TE} (h : ta σ H fun x H1 => r x H1 Q) : tUn r ta σ H Q := h
theorem x_I0 {g : Int → Int → V} {i j : Int} (h : Q (g i j) H) : rI0 g (.int i) (.int j) H Q := ⟨i, j, rfl, rfl, h⟩
theorem x_I {C : Int → Int → Prop} {g : Int → Int → V} {i j : Int} (hc : C i j) (h : Q (g i j) H) : rI C g (.int i) (.int j) H Q := ⟨i, j, rfl, rfl, hc, h⟩
theorem x_U {g : Int → V} {i : Int} (h : Q (g i) H) : rU g (.int i) H Q := ⟨i, rfl, h⟩
theorem decI (i j : Int) : decide (V.int i = V.int j) = decide (i = j) := by
  by_cases h : i = j
  · subst h; rw [decide_eq_true rfl, decide_eq_true rfl]
  · rw [decide_eq_false h, decide_eq_false (fun e => h (V.int.inj e))]
theorem x_eqI {i j : Int} (h : Q (.bl (decide (i = j))) H) : rEq (.int i) (.int j) H Q := ⟨rfl, by rw [decI]; exact h⟩
theorem x_neI {i j : Int} (h : Q (.bl (!decide (i = j))) H) : rNe (.int i) (.int j) H Q := ⟨rfl, by rw [decI]; exact h⟩
theorem x_test {t : TE} {R : Bool → Hp → Prop} (h : t σ H fun x H' => ∃ k, x = .bl k ∧ R k H') : tTest t σ H R := h
theorem x_tru {t : TE} {R : Bool → Hp → Prop} (h : t σ H fun x H' => ∃ k, TruV K x H' k ∧ R k H') : tTru K t σ H R := h
theorem x_exbl {c : Bool} {P : Bool → Prop} (h : P c) : ∃ k, V.bl c = .bl k ∧ P k := ⟨c, rfl, h⟩
theorem x_extru {c : Bool} {P : Bool → Prop} (h : P c) : ∃ k, TruV K (.bl c) H k ∧ P k := ⟨c, rfl, h⟩
theorem x_and {t u : TT} {R : Bool → Hp → Prop} (h : t σ H fun c H1 => if c = true then u σ H1 R else R false H1) : tAnd t u σ H R := h
theorem x_or {t u : TT} {R : Bool → Hp → Prop} (h : t σ H fun c H1 => if c = true then R true H1 else u σ H1 R) : tOr t u σ H R := h
theorem x_not {t : TT} {R : Bool → Hp → Prop} (h : t σ H fun c H1 => R (!c) H1) : tNot t σ H R := h
theorem x_andV {ta tb : TE} (h : ta σ H fun x H1 => ∃ c, x = .bl c ∧ if c = true then tb σ H1 Q else Q (.bl false) H1) : tAndV ta tb σ H Q := h
theorem x_orV {ta tb : TE} (h : ta σ H fun x H1 => ∃ c, x = .bl c ∧ if c = true then Q (.bl true) H1 else tb σ H1 Q) : tOrV ta tb σ H Q := h
theorem x_ife {t : TT} {ta tb : TE} (h : t σ H fun c H1 => if c = true then ta σ H1 Q else tb σ H1 Q) : tIf t ta tb σ H Q := h
theorem x_nil {R : List V → Hp → Prop} (h : R [] H) : tNil σ H R := h
theorem x_cons {ta : TE} {tr : TA} {R : List V → Hp → Prop} (h : ta σ H fun x H1 => tr σ H1 fun xs H2 => R (x :: xs) H2) : tCons ta tr σ H R := h
theorem x_tup {t : TA} (h : t σ H fun xs H1 => nwT xs H1 Q) : tTup t σ H Q := h
theorem x_lst {t : TA} (h : t σ H fun xs H1 => nwL xs H1 Q) : tLst t σ H Q := h
theorem x_nwT {xs : List V} (hl : xs.length ≤ sizeLine) (h : ∀ p H', H p = none → Same H H' → H' p = some (.tup xs) → Q (.ref p) H') : nwT xs H Q := ⟨hl, fun p hp => h p _ hp (same_upd hp) upd_same⟩
theorem x_nwL {xs : List V} (hl : xs.length ≤ sizeLine) (h : ∀ p H', H p = none → Same H H' → H' p = some (.lst xs) → Q (.ref p) H') : nwL xs H Q := ⟨hl, fun p hp => h p _ hp (same_upd hp) upd_same⟩
theorem x_dnew (h : ∀ p H', H p = none → Same H H' → H' p = some (.dK (dI [])) → Q (.ref p) H') : tDNewK σ H Q := fun p hp => h p _ hp (same_upd hp) upd_same
theorem x_call {sp : Sp} {dvs : List V} {E : XK} {t : TA} (h : t σ H fun vs H1 => sp (vs ++ dvs) H1 Q E) : tCall sp dvs E t σ H Q := h
theorem x_cb {r : List V → Hp → VK → Prop} {t : TA} (h : t σ H fun vs H1 => r vs H1 Q) : tCB r t σ H Q := h
theorem x_sl {r : V → Option Int → Option Int → Hp → VK → Prop} {te : TE} {tl th : TO} (h : te σ H fun x H1 => tl σ H1 fun l H2 => th σ H2 fun u H3 => r x l u H3 Q) : tSl r te tl th σ H Q := h
theorem x_nopart {R : Option Int → Hp → Prop} (h : R none H) : tNoPart σ H R := h
theorem x_part {t : TE} {R : Option Int → Hp → Prop} (h : t σ H fun x H1 => ∃ i, x = .int i ∧ R (some i) H1) : tPart t σ H R := h
theorem x_exint {c : Int} {P : Int → Prop} (h : P c) : ∃ k, V.int c = .int k ∧ P k := ⟨c, rfl, h⟩
theorem x_slL {a : Addr} {xs : List V} {lo hi : Option Int} (h1 : SqL K H a xs) (h : ∀ p H', H p = none → Same H H' → H' p = some (.lst (cutV xs lo hi)) → Q (.ref p) H') : rSlL K (.ref a) lo hi H Q := ⟨a, xs, rfl, h1, fun p hp => h p _ hp (same_upd hp) upd_same⟩
theorem x_ixL {a : Addr} {xs : List V} {i : Int} {v : V} (h1 : SqL K H a xs) (h2 : atI xs i = some v) (h : Q v H) : rIxL K (.ref a) (.int i) H Q := ⟨a, xs, i, v, rfl, rfl, h1, h2, h⟩
theorem x_ixT {a : Addr} {xs : List V} {i : Int} {v : V} (h1 : SqT K H a xs) (h2 : atI xs i = some v) (h : Q v H) : rIxT K (.ref a) (.int i) H Q := ⟨a, xs, i, v, rfl, rfl, h1, h2, h⟩
theorem x_dput {td ty tv : TE} (h : tv σ H fun v H1 => td σ H1 fun x H2 => ty σ H2 fun y H3 => ∃ a H4, x = .ref a ∧ DPut H3 a y v H4 ∧ D.nx σ H4) : sDPut td ty tv D σ H := h
theorem x_for {wi : TI} {g : TG} {tb : TS} (h : wi σ H fun J H1 => ∃ W : Nat → Nat → St → Hp → Prop, (∃ m, W 0 m σ H1) ∧ ∀ i m σ H, W i m σ H →
  (J.stop i H ∧ D.nx σ H) ∨ (J.go i H ∧ ∃ N : St → Hp → Prop, (∀ σ' H', N σ' H' → ∃ m', m' < m ∧ W (i + 1) m' σ' H') ∧ ∀ x H', J.yld i H x H' → g x σ H' fun σ2 H2 => tb { D with nx := N, ct := N, bk := D.nx } σ2 H2)) : tFor wi g tb D σ H := h
theorem x_ilist {tl : TE} {R : It → Hp → Prop} (h : tl σ H fun x H1 => ∃ a, x = .ref a ∧ (∃ xs, SqL K H1 a xs) ∧ R (Itl K a) H1) : iList K tl σ H R := h
theorem x_exil {a : Addr} {xs : List V} {P : Addr → Prop} (hd : SqL K H a xs) (h : P a) : ∃ b, V.ref a = .ref b ∧ (∃ xs, SqL K H b xs) ∧ P b := ⟨a, rfl, ⟨xs, hd⟩, h⟩
theorem x_itup {tl : TE} {R : It → Hp → Prop} (h : tl σ H fun x H1 => ∃ a, x = .ref a ∧ (∃ xs, SqT K H1 a xs) ∧ R (Itt K a) H1) : iTup K tl σ H R := h
theorem x_exit {a : Addr} {xs : List V} {P : Addr → Prop} (hd : SqT K H a xs) (h : P a) : ∃ b, V.ref a = .ref b ∧ (∃ xs, SqT K H b xs) ∧ P b := ⟨a, rfl, ⟨xs, hd⟩, h⟩
theorem x_ir1 {ta : TA} {R : It → Hp → Prop} (h : ta σ H fun vs H1 => ∃ j : Int, vs = [.int j] ∧ -(2 ^ 62) ≤ j ∧ j < 2 ^ 62 ∧ R (Itr 0 j.toNat) H1) : iRng1 ta σ H R := h
theorem x_bm {T : String} {r : V → List V → Hp → VK → Prop} {to : TE} {t : TA} (h : to σ H fun x H1 => tyV K T x H1 ∧ t σ H1 fun xs H2 => r x xs H2 Q) : tBM K T r to t σ H Q := h
theorem x_tyl {a : Addr} {xs : List V} {P : Prop} (hd : H a = some (.lst xs)) (h : P) : tyV K "list" (.ref a) H ∧ P := ⟨.inl ⟨rfl, _, SqL.of hd⟩, h⟩
theorem x_append {a : Addr} {xs : List V} {y : V} (hd : H a = some (.lst xs)) (hl : xs.length < sizeLine) (h : ∀ H2, But a H H2 → H2 a = some (.lst (xs ++ [y])) → Q .non H2) : rAppend (.ref a) [y] H Q := ⟨a, xs, y, rfl, rfl, hd, hl, h _ .upd upd_same⟩
theorem x_comp {src : List (Option Nat)} {wi : TI} {g : TG} {tt : TT} {te : TE} (h : wi σ H fun J H1 => ∀ D, H1 D = none → ∃ W : Nat → Nat → St → Hp → Prop, (∃ m, W 0 m (blkSt src σ) (upd H1 D (.lst []))) ∧
  ∀ i m σ' H', W i m σ' H' → (J.stop i H' ∧ Q (.ref D) H') ∨ (J.go i H' ∧ ∃ N : St → Hp → Prop, (∀ σ2 H2, N σ2 H2 → ∃ m', m' < m ∧ W (i + 1) m' σ2 H2) ∧
    ∀ x H'', J.yld i H' x H'' → cTurn g tt te D N x σ' H'')) : tComp src wi g tt te σ H Q := h
end
theorem iteNT {A B : Prop} (h : B) : if (!true) = true then A else B := h
theorem iteNF {A B : Prop} (h : A) : if (!false) = true then A else B := h
end L2
set_option Elab.async false
set_option linter.all false
set_option maxRecDepth 100000
namespace L2
open PySem PySem.Spec PyProof.Rows
section
variable {X : Cx} {K : PySem.W.Frag}
theorem ix_tupK (hK : X.K = K) : IxR X (rIxT K) := by subst hK; exact ix_tup
theorem ix_listK (hK : X.K = K) : IxR X (rIxL K) := by subst hK; exact ix_list
theorem sl_listK (hK : X.K = K) : SlR X (rSlL K) := by subst hK; exact sl_list
theorem op_eqK (hK : X.K = K) (hu : X.A.units + 64 < cLine) : OpR X (compareOp .Eq) (rEqP K) := by subst hK; exact op_eqDl hu
theorem op_neK (hK : X.K = K) (hu : X.A.units + 64 < cLine) : OpR X (compareOp .NotEq) (rNeP K) := by subst hK; exact op_neDl hu
theorem op_ninK (hK : X.K = K) (hu : X.A.units + 64 < cLine) : OpR X (compareOp .NotIn) (rInP K true) := by subst hK; exact op_notinP hu
def rLen (K : PySem.W.Frag) : List V → Hp → VK → Prop := fun xs H Q => ∃ p ys, xs = [.ref p] ∧ (SqL K H p ys ∨ SqT K H p ys) ∧ Q (.int ys.length) H
theorem call_lenK (hK : X.K = K) : CallR X (.builtin "len") (rLen K) := by subst hK; exact call_len_seq
def rTupleOf (K : PySem.W.Frag) : List V → Hp → VK → Prop := fun xs H Q => ∃ p ys, xs = [.ref p] ∧ ((SqL K H p ys ∧ ∀ l, H l = none → Q (.ref l) (upd H l (.tup ys))) ∨ (SqT K H p ys ∧ Q (.ref p) H))
theorem call_tupleK (hK : X.K = K) : CallR X (.type "tuple") (rTupleOf K) := by subst hK; exact call_tuple_of
def rIsI (K : PySem.W.Frag) : List V → Hp → VK → Prop := fun xs H Q => ∃ (x : V) (t : Value) (T : String) (b : Bool), xs = [x, .ty T] ∧ TyOf K H x t ∧ PySem.W.kitOne K t (.type T) = some b ∧ Q (.bl b) H
theorem call_isiK (hK : X.K = K) : CallR X (.builtin "isinstance") (rIsI K) := by subst hK; exact call_isinst
theorem pg_tupK {es : List Expr} {k : Nat} {t : TGs} {n : Nat} {pos : Pos} (hK : X.K = K) (hc : X.calm = true) (h : PGs X es t) (hn : (assignEach es X.env).length = n := by rfl) (hst : (assignEach es X.env).findIdx? (·.1) = none := by rfl) : PG X (.Tuple es k pos) (gTup K n t) := by subst hK; exact pg_tup hc h hn hst
theorem pi_listK {tg l : Expr} {tl : TE} (hK : X.K = K) (hl : PE X l tl) : PI X tg l (iList K tl) := by subst hK; exact pi_list hl
theorem pi_tupK {tg l : Expr} {tl : TE} (hK : X.K = K) (hl : PE X l tl) : PI X tg l (iTup K tl) := by subst hK; exact pi_tup hl
theorem pe_appendK {o e : Expr} {to : TE} {t : TA} {apos cpos : Pos} (hK : X.K = K) (h : PE X (.Call (.Attribute o "append" apos) [e] [] cpos) (tBM X.K "list" rAppend to t)) : PE X (.Call (.Attribute o "append" apos) [e] [] cpos) (tBM K "list" rAppend to t) := by subst hK; exact h
end
section
variable {σ : St} {H : Hp} {Q : VK} {K : PySem.W.Frag}
theorem x_rtupL {a : Addr} {xs : List V} (hd : SqL K H a xs) (h : ∀ p H', H p = none → Same H H' → H' p = some (.tup xs) → Q (.ref p) H') : rTupleOf K [.ref a] H Q := ⟨a, xs, rfl, .inl ⟨hd, fun p hp => h p _ hp (same_upd hp) upd_same⟩⟩
end
end L2
set_option Elab.async false
set_option linter.all false
set_option maxRecDepth 100000
namespace L2
open PySem PySem.Spec PyProof.Rows
theorem cut_ints (ns : List Int) (lo hi : Option Int) : ∃ ms : List Int, cutV (ns.map V.int) lo hi = ms.map V.int ∧ ms.length ≤ ns.length := by
  refine ⟨(ns.drop (HT.sIx (ns.map V.int).length 0 lo)).take (HT.sIx (ns.map V.int).length (ns.map V.int).length hi - HT.sIx (ns.map V.int).length 0 lo), ?_, ?_⟩
  · unfold cutV
    rw [List.map_take, List.map_drop]
  · rw [List.length_take, List.length_drop]
    omega
theorem take_get {α : Type} {ls : List α} {i : Nat} {n : α} (h : ls[i]? = some n) : ls.take (i + 1) = ls.take i ++ [n] := by
  rw [List.take_succ, h]
  rfl
theorem int_get {ms : List Int} {i : Nat} {x : V} (h : (ms.map V.int)[i]? = some x) : ∃ n : Int, ms[i]? = some n ∧ x = .int n := by
  rw [List.getElem?_map] at h
  cases e : ms[i]? with
  | none => rw [e] at h; cases h
  | some n => rw [e] at h; exact ⟨n, rfl, (Option.some.inj h).symm⟩
theorem atI_int {α : Type} {xs : List α} {i : Int} {v : α} (h0 : 0 ≤ i) (h : xs[i.toNat]? = some v) : atI xs i = some v := by
  obtain ⟨n, rfl⟩ := Int.eq_ofNat_of_zero_le h0
  exact atI_nat h
abbrev Nm := Int × Int × Int
def nmD (p : Nm) : PyData := .tuple [.int p.1, .int p.2.1, .int p.2.2]
def NmAt (H : Hp) (x : V) (p : Nm) : Prop := ∃ a, x = .ref a ∧ H a = some (.tup [.int p.1, .int p.2.1, .int p.2.2])
abbrev Nms (H : Hp) : List V → List Nm → Prop := Paired (NmAt H)
def SmH (H H' : Hp) : Prop := ∀ a xs, H a = some (.tup xs) → H' a = some (.tup xs)
theorem SmH.trans {H1 H2 H3 : Hp} (a : SmH H1 H2) (b : SmH H2 H3) : SmH H1 H3 := fun _ _ h => b _ _ (a _ _ h)
theorem SmH.same {H H' : Hp} (e : Same H H') : SmH H H' := fun _ _ h => e _ _ h
theorem SmH.upd {H : Hp} {l : Addr} {o : HO} (h1 : ∀ xs, H l ≠ some (.tup xs)) : SmH H (upd H l o) := fun a xs h => by
  have : a ≠ l := fun e => h1 xs (e ▸ h)
  rw [upd_ne this]; exact h
theorem SmH.lst {H : Hp} {l : Addr} {o : HO} {ys : List V} (h : H l = some (.lst ys)) : SmH H (L2.upd H l o) := .upd (fun _ z => by rw [h] at z; cases z)
theorem SmH.but {H H' : Hp} {l : Addr} {o : HO} (e : But l H H') (h : H l = some o) (n : ∀ xs, o ≠ .tup xs) : SmH H H' := fun a xs z => e.of h z (Ne.symm (n xs))
theorem Nms.get {H : Hp} : ∀ {xs : List V} {ns : List Nm} {i : Nat} {x : V}, Nms H xs ns → xs[i]? = some x → ∃ p, ns[i]? = some p ∧ NmAt H x p
  | _, _, _, _, .nil, e => by simp at e
  | _, _, 0, _, .cons r _, e => by simp at e; subst e; exact ⟨_, rfl, r⟩
  | _, _, i + 1, x, .cons _ t, e => by
    obtain ⟨p, h1, h2⟩ := Nms.get (i := i) (x := x) t (by simpa using e)
    exact ⟨p, by simpa using h1, h2⟩
theorem Nms.len {H : Hp} {xs : List V} {ns : List Nm} (h : Nms H xs ns) : xs.length = ns.length := Paired.length h
theorem Nms.at {H : Hp} {xs : List V} {ns : List Nm} {i : Nat} (h : Nms H xs ns) (hi : i < ns.length) : ∃ x, xs[i]? = some x ∧ NmAt H x ns[i] := by
  have hx : i < xs.length := by rw [h.len]; exact hi
  obtain ⟨p, e, r⟩ := h.get (List.getElem?_eq_getElem hx)
  rw [List.getElem?_eq_getElem hi] at e
  cases e
  exact ⟨_, List.getElem?_eq_getElem hx, r⟩
theorem NmAt.dp {K : PySem.W.Frag} {H : Hp} {x : V} {p : Nm} (h : NmAt H x p) : Dp K H x (nmD p) := by
  obtain ⟨a, rfl, h⟩ := h
  exact .tup (SqT.of h) (.cons (.int _) (.cons (.int _) (.cons (.int _) .nil)))
section
variable {σ : St} {H : Hp} {Q : VK} {K : PySem.W.Frag} {X : Cx}
theorem x_rlenQ {a : Addr} {xs : List V} (hd : SqL K H a xs ∨ SqT K H a xs) (h : Q (.int xs.length) H) : rLen K [.ref a] H Q := ⟨a, xs, rfl, hd, h⟩
end
theorem x_nonand {P : Prop} (h : P) : V.non = V.non ∧ P := ⟨rfl, h⟩
end L2
set_option Elab.async false
set_option linter.all false
set_option maxRecDepth 100000
namespace L2
open PySem PySem.Spec PyProof.Rows
section
variable {X : Cx} {CX : CXT} {k : Nat} {f C : Addr} {fd : FuncData} {ps : List Str} {sp : Sp} {dvs : List V} {ds : List Value} {E : XK} {x m : Str} {p pos apos : Pos} {e o : Expr} {es : List Expr} {ta : TE} {t : TA}
structure ClsFn (K : PySem.W.Frag) (C : Addr) (m : Str) (f : Addr) : Prop where
  ga : PySem.W.specialIn K (.ref C) "__getattribute__" = some (some (.builtin "type.__getattribute__"))
  rd : PySem.W.readsIn K C (.type "type") = true
  at_ : PySem.W.findCls K (.ref C) (.type "type") m = some (.val (.ref f))
  hd : PySem.W.handedIn (.ref f) = true
  kp : PySem.W.keepIn K (.ref f) = true
theorem pe_clsfn {pl : Sem Bool} (hg : Gl X x) (hm : X.mg x = some (.ref C)) (c : ClsFn X.K C m f) (F : FnOk X.prog X.w X.K X.mg X.base CX0 k f fd ps sp) (hb : Binds X.K fd ps []) (hr : Room k X.A) (ha : PA X (e :: es) t)
    (hdb : (x == ("__debug__" : Str)) = false := by decide)
    (hst : starEach (e :: es) X.env = (false, eval e X.env) :: starEach es X.env := by rfl) (hpl : (backTo pos (starEach es X.env)).any (·.1) = false := by rfl)
    (ht : eval (.Call (.Attribute (.Name x p) m apos) (e :: es) [] pos) X.env = (do
      let ov ← eval (.Name x p) X.env
      standAt apos.atName
      let (f, first) ← holding [ov] (getMethod ov m pl)
      callWith pos f first (backTo pos (starEach (e :: es) X.env)) (backToKw pos (keywordEach [] X.env))) := by rfl) :
    PE X (.Call (.Attribute (.Name x p) m apos) (e :: es) [] pos) (tCall sp [] E0 t) := by
  intro pins s σ H Q I h
  refine PySem.W.methodCall_KW (pl := pl) (thn (pe_glob (v := .ref C) hg hm rfl hdb pins s σ H (fun v H1 => v = .ref C ∧ t σ H1 fun vs H2 => sp (vs ++ []) H2 Q E0) I ⟨rfl, h⟩) fun u s1 ⟨x, H1, I1, rx, ex, q⟩ => ?_) ht
  subst ex
  obtain rfl : u = Value.ref C := rx
  refine PySem.W.method_cls I1.kIn c.ga (PySem.W.cls_value I1.kIn c.rd c.at_ c.hd ?_)
  refine PySem.W.callWith_K (first := []) (h₀ := X.base) I.ok.mod.kin c.kp (thn (ha pos pins _ σ H1 _ (I1.tok _) q) fun us s2 ⟨vs, H2, I2, r, q2⟩ => ⟨I2.kIn, ?_⟩) hst hpl
  exact run_fn (us := us) (vs := vs) F hr hb .nil pass0 I2 r q2
def MOk (P : Program) (w : World) (K : PySem.W.Frag) (mg : Str → Option Value) (base : Heap) (k : Nat) (m : Str) (ms : List (Addr × Sp)) : Prop :=
  ∀ cs ∈ ms, ∃ f fd ps, Cls K cs.1 ∧ Meth K cs.1 m f ∧ FnOk P w K mg base CX0 k f fd ps cs.2 ∧ Binds K fd ps []
theorem MOk.nil {P : Program} {w : World} {K : PySem.W.Frag} {mg : Str → Option Value} {base : Heap} : MOk P w K mg base k m [] := fun _ h => nomatch h
theorem MOk.cons {P : Program} {w : World} {K : PySem.W.Frag} {mg : Str → Option Value} {base : Heap} {ms : List (Addr × Sp)} (c : Cls K C) (hm : Meth K C m f) (F : FnOk P w K mg base CX0 k f fd ps sp) (hb : Binds K fd ps []) (r : MOk P w K mg base k m ms) : MOk P w K mg base k m ((C, sp) :: ms) := by
  intro cs h
  rcases List.mem_cons.mp h with rfl | h
  · exact ⟨f, fd, ps, c, hm, F, hb⟩
  · exact r cs h
def mtS (ms : List (Addr × Sp)) (m : Str) (t : TA) (σ : St) (x : V) (H : Hp) (Q : VK) : Prop :=
  ∃ cs ∈ ms, ∃ a dx fs, x = .ref a ∧ H a = some (.ins cs.1 dx fs) ∧ fs.lookup m = none ∧ t σ H fun vs H2 => cs.2 (x :: (vs ++ [])) H2 Q E0
def tMethS (ms : List (Addr × Sp)) (m : Str) (ta : TE) (t : TA) : TE := fun σ H Q => ta σ H fun x H1 => mtS ms m t σ x H1 Q
theorem pe_methS {pl : Sem Bool} {ms : List (Addr × Sp)} (M : MOk X.prog X.w X.K X.mg X.base k m ms) (he : PE X o ta) (hr : Room k X.A) (ha : PA X (e :: es) t)
    (hst : starEach (e :: es) X.env = (false, eval e X.env) :: starEach es X.env := by rfl) (hpl : (backTo pos (starEach es X.env)).any (·.1) = false := by rfl)
    (ht : eval (.Call (.Attribute o m apos) (e :: es) [] pos) X.env = (do
      let ov ← eval o X.env
      standAt apos.atName
      let (f, first) ← holding [ov] (getMethod ov m pl)
      callWith pos f first (backTo pos (starEach (e :: es) X.env)) (backToKw pos (keywordEach [] X.env))) := by rfl) :
    PE X (.Call (.Attribute o m apos) (e :: es) [] pos) (tMethS ms m ta t) := by
  intro pins s σ H Q I h
  refine PySem.W.methodCall_KW (pl := pl) (thn (he pins s σ H _ I h) fun u s1 ⟨x, H1, I1, rx, cs, hcs, a, dx, fs, ex, ea, l, q⟩ => ?_) ht
  subst ex
  obtain rfl : u = Value.ref a := rx
  obtain ⟨f, fd, ps, c, hm, F, hb⟩ := M cs hcs
  refine getmeth_ok I1 ea c hm l ?_
  refine PySem.W.callWith_K (first := [.ref a]) (h₀ := X.base) I.ok.mod.kin hm.kp (thn (ha pos pins s1 σ H1 _ I1 q) fun us s2 ⟨vs, H2, I2, r, q2⟩ => ⟨I2.kIn, ?_⟩) hst hpl
  exact run_fn (us := .ref a :: us) (vs := .ref a :: vs) F hr hb .nil pass0 I2 (.cons rfl r) q2
theorem pe_methS0 {pl : Sem Bool} {ms : List (Addr × Sp)} (M : MOk X.prog X.w X.K X.mg X.base k m ms) (he : PE X o ta) (hr : Room k X.A)
    (ht : eval (.Call (.Attribute o m apos) [] [] pos) X.env = (do
      let ov ← eval o X.env
      standAt apos.atName
      let (f, first) ← holding [ov] (getMethod ov m pl)
      callWith pos f first (backTo pos (starEach [] X.env)) (backToKw pos (keywordEach [] X.env))) := by rfl) :
    PE X (.Call (.Attribute o m apos) [] [] pos) (tMethS ms m ta tNil) := by
  intro pins s σ H Q I h
  refine PySem.W.methodCall_KW (pl := pl) (thn (he pins s σ H _ I h) fun u s1 ⟨x, H1, I1, rx, cs, hcs, a, dx, fs, ex, ea, l, q⟩ => ?_) ht
  subst ex
  obtain rfl : u = Value.ref a := rx
  obtain ⟨f, fd, ps, c, hm, F, hb⟩ := M cs hcs
  refine getmeth_ok I1 ea c hm l ?_
  exact PySem.W.callWith_K0 (first := [.ref a]) I1.kIn hm.kp (run_fn (us := [.ref a]) (vs := [.ref a]) F hr hb .nil pass0 I1 (.cons rfl .nil) q)
end
section
variable {X : Cx} {K : PySem.W.Frag}
theorem pe_fldK {e : Expr} {ta : TE} {f : Str} {pos : Pos} (hK : X.K = K) (he : PE X e ta) (hb : attributeBase e f X.env (eval e X.env) = eval e X.env) : PE X (.Attribute e f pos) (tFld K ta f) := by subst hK; exact pe_fld he hb
theorem ps_fldK {o value : Expr} {ta tv : TE} {f : Str} {pos pos' : Pos} (hK : X.K = K) (ha : PE X o ta) (hv : PE X value tv) (hs : swapsWith value (some (.Attribute o f pos')) pos.line X.env = pure false) : PS X (.Assign [.Attribute o f pos'] value pos) (sFld K ta tv f) := by subst hK; exact ps_fld ha hv hs
end
section
variable {D : Ends} {σ : St} {H : Hp} {Q : VK} {K : PySem.W.Frag}
def fldK (K : PySem.W.Frag) (f : Str) (x : V) (H : Hp) (Q : VK) : Prop := ∃ a C dx fs v, x = .ref a ∧ H a = some (.ins C dx fs) ∧ Cls K C ∧ NoAttr K C f ∧ fs.lookup f = some v ∧ Q v H
theorem x_fld {ta : TE} {f : Str} (h : ta σ H fun x H1 => fldK K f x H1 Q) : tFld K ta f σ H Q := h
theorem x_fldk {f : Str} {a C dx : Addr} {fs : List (Str × V)} {v : V} (e : H a = some (.ins C dx fs)) (c : Cls K C) (n : NoAttr K C f) (l : fs.lookup f = some v) (h : Q v H) : fldK K f (.ref a) H Q := ⟨a, C, dx, fs, v, rfl, e, c, n, l, h⟩
def sfK (K : PySem.W.Frag) (f : Str) (y x : V) (H : Hp) (R : Hp → Prop) : Prop := ∃ a C dx fs, x = .ref a ∧ H a = some (.ins C dx fs) ∧ Cls K C ∧ NoAttr K C f ∧ fs.length < 1000 ∧ R (upd H a (.ins C dx (putF f y fs)))
theorem x_sfld {ta tv : TE} {f : Str} (h : tv σ H fun y H1 => ta σ H1 fun x H2 => sfK K f y x H2 fun H3 => D.nx σ H3) : sFld K ta tv f D σ H := h
theorem x_sfk {f : Str} {y : V} {a C dx : Addr} {fs : List (Str × V)} {R : Hp → Prop} (e : H a = some (.ins C dx fs)) (c : Cls K C) (n : NoAttr K C f) (hl : fs.length < 1000) (h : ∀ H2, But a H H2 → H2 a = some (.ins C dx (putF f y fs)) → R H2) : sfK K f y (.ref a) H R := ⟨a, C, dx, fs, rfl, e, c, n, hl, h _ .upd upd_same⟩
theorem x_methS {ms : List (Addr × Sp)} {m : Str} {ta : TE} {t : TA} (h : ta σ H fun x H1 => mtS ms m t σ x H1 Q) : tMethS ms m ta t σ H Q := h
theorem x_mtS0 {ms : List (Addr × Sp)} {m : Str} {t : TA} {C a dx : Addr} {sp : Sp} {fs : List (Str × V)} (e : H a = some (.ins C dx fs)) (l : fs.lookup m = none) (h : t σ H fun vs H2 => sp (.ref a :: (vs ++ [])) H2 Q E0) : mtS ((C, sp) :: ms) m t σ (.ref a) H Q :=
  ⟨(C, sp), List.mem_cons_self, a, dx, fs, rfl, e, l, h⟩
def mkK (C : Addr) (sp : Sp) (vs : List V) (H : Hp) (Q : VK) : Prop := ∀ x dx, H x = none → H dx = none → dx ≠ x → sp (.ref x :: (vs ++ [])) (upd (upd H dx (.own x)) x (.ins C dx [])) (fun v H2 => v = .non ∧ Q (.ref x) H2) E0
theorem x_make {C : Addr} {sp : Sp} {t : TA} (h : t σ H fun vs H1 => mkK C sp vs H1 Q) : tMake C sp [] E0 t σ H Q := h
theorem x_mk {C : Addr} {sp : Sp} {vs : List V} (h : ∀ x dx H', H x = none → Same H H' → H' x = some (.ins C dx []) → sp (.ref x :: (vs ++ [])) H' (fun v H2 => v = .non ∧ Q (.ref x) H2) E0) : mkK C sp vs H Q := by
  intro x dx nx ndx nex
  refine h x dx _ nx (fun b o e => ?_) upd_same
  rw [upd_ne (ne_of_none e nx), upd_ne (ne_of_none e ndx)]
  exact e
end
theorem x_nx {f b c : St → Hp → Prop} {r : VK} {σ : St} {H : Hp} (h : f σ H) : Ends.nx ⟨f, r, b, c⟩ σ H := h
theorem x_yes {σ : St} {H : Hp} {R : Bool → Hp → Prop} (h : R true H) : tYes σ H R := h
theorem x_turn {g : TG} {tt : TT} {te : TE} {D : Addr} {N : St → Hp → Prop} {x : V} {σ : St} {H : Hp} (h : g x σ H fun σ2 H2 => tt σ2 H2 fun b H3 => if b = true then te σ2 H3 fun y H4 => ∃ ys, H4 D = some (.lst ys) ∧ ys.length < sizeLine ∧ N σ2 (upd H4 D (.lst (ys ++ [y]))) else N σ2 H3) : cTurn g tt te D N x σ H := h
theorem x_seqN {D : Ends} {σ : St} {H : Hp} {c : TT} {u : TS} (h : c σ H fun b H1 => if b = true then False else u D σ H1) : tSeq (tIfS c tNever tNext) u D σ H := h
end L2
set_option Elab.async false
set_option linter.all false
set_option maxRecDepth 100000
namespace L2
open PySem PySem.Spec PyProof.Rows
structure Ck (m : List (Int × Int)) : Prop where
  nd : (m.map (·.1)).Nodup
  nn : ∀ p ∈ m, 0 ≤ p.2
  rg : ∀ p ∈ m, 0 ≤ p.1 ∧ p.1 < 63
def hs63 : List Int := (List.range 63).map fun (h : Nat) => (h : Int)
theorem mem_hs {k : Int} : k ∈ hs63 ↔ 0 ≤ k ∧ k < 63 := by
  unfold hs63
  rw [List.mem_map]
  constructor
  · rintro ⟨n, hn, rfl⟩
    have := List.mem_range.mp hn
    omega
  · rintro ⟨h0, h1⟩
    exact ⟨k.toNat, List.mem_range.mpr (by omega), by omega⟩
theorem nd_len {α : Type} [DecidableEq α] : ∀ {l m : List α}, l.Nodup → (∀ x ∈ l, x ∈ m) → l.length ≤ m.length
  | [], m, _, _ => Nat.zero_le _
  | x :: l, m, nd, sub => by
    rw [List.nodup_cons] at nd
    have hx := sub x List.mem_cons_self
    have pm := List.perm_cons_erase hx
    have := nd_len (l := l) (m := m.erase x) nd.2 fun y hy => (List.mem_erase_of_ne (show y ≠ x from fun z => nd.1 (z ▸ hy))).mpr (sub y (List.mem_cons_of_mem _ hy))
    have q := pm.length_eq
    rw [List.length_cons] at q ⊢
    omega
theorem hs_len {l : List Int} (nd : l.Nodup) (h : ∀ k ∈ l, 0 ≤ k ∧ k < 63) : l.length < 64 := by
  have := nd_len nd (m := hs63) fun k hk => mem_hs.mpr (h k hk)
  unfold hs63 at this
  rw [List.length_map, List.length_range] at this
  omega
theorem Ck.keys {m : List (Int × Int)} (c : Ck m) : ∀ k ∈ m.map (·.1), 0 ≤ k ∧ k < 63 := fun k hk => by
  obtain ⟨p, hp, e⟩ := List.mem_map.mp hk
  rw [← e]
  exact c.rg p hp
theorem Ck.len {m : List (Int × Int)} (c : Ck m) : m.length < 64 := by
  have := hs_len c.nd c.keys
  rw [List.length_map] at this
  exact this
theorem Ck.nil : Ck [] := ⟨List.nodup_nil, (fun p hp => nomatch hp), (fun p hp => nomatch hp)⟩
theorem Ck.ct {m : List (Int × Int)} (c : Ck m) (k : Int) : 0 ≤ ct m k := by
  unfold L2.ct
  cases e : lkI m k with
  | none => exact Int.le_refl _
  | some v => exact c.nn _ (lk_mem e)
theorem ct_out {m : List (Int × Int)} {k : Int} (h : k ∉ m.map (·.1)) : ct m k = 0 := by
  unfold ct
  rw [lk_none h]
  rfl
theorem ct_in {m : List (Int × Int)} {k : Int} (h : ct m k ≠ 0) : k ∈ m.map (·.1) := by
  by_cases z : k ∈ m.map (·.1)
  · exact z
  · exact absurd (ct_out z) h
theorem lk_ct {m : List (Int × Int)} {k : Int} (h : k ∈ m.map (·.1)) : lkI m k = some (ct m k) := by
  obtain ⟨v, e⟩ := lk_some h
  unfold ct
  rw [e]
  rfl
theorem ct_of {m : List (Int × Int)} (nd : (m.map (·.1)).Nodup) {p : Int × Int} (h : p ∈ m) : ct m p.1 = p.2 := by
  unfold ct
  rw [lk_of (k := p.1) (v := p.2) nd h]
  rfl
theorem Ck.put {m : List (Int × Int)} (c : Ck m) {k v : Int} (h0 : 0 ≤ k) (h1 : k < 63) (hv : 0 ≤ v) : Ck (putI m k v) :=
  ⟨put_nd m k v c.nd, fun p hp => by
    rcases put_vals m k v p hp with z | z
    · rw [z]; exact hv
    · exact c.nn p z, fun p hp => by
    rcases put_vals m k v p hp with z | z
    · rw [z]; exact ⟨h0, h1⟩
    · exact c.rg p z⟩
structure Td (m : List (Int × Int)) : Prop extends Ck m where
  ps : ∀ p ∈ m, 0 < p.2
theorem Td.nil : Td [] := ⟨Ck.nil, (fun p hp => nomatch hp)⟩
theorem Td.pos {m : List (Int × Int)} (t : Td m) {k : Int} (h : k ∈ m.map (·.1)) : 0 < L2.ct m k := by
  obtain ⟨p, hp, e⟩ := List.mem_map.mp h
  rw [← e, ct_of t.nd hp]
  exact t.ps p hp
theorem Td.sub {j m : List (Int × Int)} (tj : Td j) (h : ∀ k, 0 ≤ k → k < 63 → L2.ct j k = L2.ct m k) : ∀ p ∈ j, lkI m p.1 = some p.2 := by
  intro p hp
  have hr := tj.rg p hp
  have e := h p.1 hr.1 hr.2
  rw [ct_of tj.nd hp] at e
  have hk : p.1 ∈ m.map (·.1) := ct_in (by rw [← e]; have := tj.ps p hp; omega)
  rw [lk_ct hk, ← e]
def cov (m n : List (Int × Int)) : Bool := (List.range 63).all fun (h : Nat) => decide (ct n h ≤ ct m h)
theorem x_neNil {K : PySem.W.Frag} {H : Hp} {Q : VK} {a b : Addr} {xs : List V} {ds : List PyData} (ha : SqL K H a xs) (hx : Dps K H xs ds) (hl : PyData.canLayAll0 ds = true) (hb : SqL K H b []) (q : Q (.bl (!decide (ds = []))) H) : rNeP K (.ref a) (.ref b) H Q := by
  refine ⟨.list ds, .list [], .inr ⟨_, _, _, rfl, rfl, ha, hx⟩, .inr ⟨_, _, _, rfl, rfl, hb, .nil⟩, by rw [PyData.canLay0.eq_5]; exact hl, rfl, by have : (PyData.list []).depth = 1 := rfl; omega, ?_⟩
  have e : (PyData.list ds).eqv (.list []) = decide (ds = []) := by
    cases ds with
    | nil => rfl
    | cons d ds => rw [decide_eq_false (by intro z; cases z)]; rfl
  rw [e]
  exact q
theorem x_cat {H : Hp} {Q : VK} {a b : Addr} {xs zs : List V} (h1 : H a = some (.lst xs)) (h2 : H b = some (.lst zs)) (hl : xs.length + zs.length ≤ 1000) (h : ∀ p H', H p = none → Same H H' → H' p = some (.lst (xs ++ zs)) → Q (.ref p) H') : rCat (.ref a) (.ref b) H Q := ⟨a, b, xs, zs, rfl, rfl, h1, h2, Nat.le_of_lt (small1000 hl), fun p hp => h p _ hp (same_upd hp) upd_same⟩
end L2
set_option Elab.async false
set_option linter.all false
set_option maxRecDepth 100000
namespace L2
open PySem PySem.Spec PyProof.Rows
def lkG : List (Int × V) → Int → Option V
  | [], _ => none
  | p :: m, k => if p.1 = k then some p.2 else lkG m k
section
variable {X : Cx}
theorem preSum_list : ∀ (ns : List Int) (n : Nat), n ≤ ns.length → preSum (fun i => ns.getD i 0) n = (ns.take n).sum := by
  intro ns n
  induction n with
  | zero => intro _; rfl
  | succ n ih =>
    intro h
    show preSum _ n + ns.getD n 0 = _
    rw [ih (by omega), List.take_succ, List.sum_append]
    have : n < ns.length := h
    rw [List.getD_eq_getElem?_getD, List.getElem?_eq_getElem this]
    simp
theorem call_sumI (hc : X.calm = true) : CallR X (.builtin "sum") (fun xs H Q => ∃ (p : Addr) (ns : List Int), xs = [.ref p] ∧ SqL X.K H p (ns.map V.int) ∧ Q (.int ns.sum) H) := by
  intro pins s σ H xs us Q I r h
  obtain ⟨p, ns, rfl, hq, q⟩ := h
  obtain ⟨u, rfl, rx⟩ := vals1 r
  cases rx
  obtain ⟨its, rv, pl, hz⟩ := I.list hq
  have hl : its.toArray.size = ns.length := by rw [List.size_toArray, ← rv.length, List.length_map]
  have hp : p < s.heap.objs.size := let ⟨_, z, _⟩ := pl.isList; Heap.lt_size z
  refine call_sum_walkG (wpAny_pyIter_list pl.isList ?_)
  refine ⟨s.heap.objs.size, [s.heap.objs.size, p], [s.heap.objs.size], its.toArray.size, _, _, fun i => ns.getD i 0, rfl, Walks.list (A := X.A.in1) (I.ok.hd hc) _ p (Nat.ne_of_lt hp) its.toArray,
    ⟨⟨_, Heap.get?_push_size _ rfl, rfl, rfl⟩, pl.isList.push _⟩, fun b hb => ?_, fun i v hP => ?_, fun h' tk t' kp => ?_⟩
  · rw [Heap.size_push]
    rcases List.mem_cons.mp hb with z | z
    · rw [z]; exact Nat.lt_succ_self _
    · rw [List.mem_singleton.mp z]; exact Nat.lt_succ_of_lt hp
  · have hv : its[i]? = some v := by simpa using hP
    have hb : i < ns.length := by
      have := (List.getElem?_eq_some_iff.mp hv).1
      rw [← hl, List.size_toArray]
      exact this
    obtain ⟨u, hu, ru⟩ := rv.get (i := i) (x := V.int ns[i]) (by rw [List.getElem?_map, List.getElem?_eq_getElem hb]; rfl)
    rw [hv] at hu
    cases hu
    obtain ⟨t, rfl⟩ := ru
    refine ⟨t, ?_⟩
    show Value.int ns[i] t = Value.int (ns.getD i 0) t
    rw [List.getD_eq_getElem?_getD, List.getElem?_eq_getElem hb, Option.getD_some]
  · refine ⟨.int ns.sum, H, I.kept (t' := tk) fun b o e => kp b o ?_ (Heap.get?_push_of_some _ e), ⟨t', ?_⟩, q⟩
    · intro z
      have z' : b = s.heap.objs.size := by simpa using z
      exact absurd (Heap.lt_size e) (by rw [z']; exact Nat.lt_irrefl _)
    · rw [hl, preSum_list ns ns.length (Nat.le_refl _), List.take_length]
end
section
variable {D : Ends} {σ : St} {H : Hp} {Q : VK}
end
end L2
set_option Elab.async false
set_option linter.all false
set_option maxRecDepth 100000
namespace L2
open PySem PySem.Spec PyProof.Rows
theorem and_test {n h : Int} (h0 : 0 ≤ n) (h1 : 0 ≤ h) : (!decide (V.int (Builtin.bitAnd n (2 ^ h.toNat)) = V.int 0)) = n.toNat.testBit h.toNat := by
  have e1 : (0 : Int) ≤ 2 ^ h.toNat := two_pow_nn _
  have e2 : ((2 : Int) ^ h.toNat).toNat = 2 ^ h.toNat := by
    have : ((2 : Int) ^ h.toNat) = ((2 ^ h.toNat : Nat) : Int) := by push_cast; rfl
    rw [this, Int.toNat_natCast]
  rw [PyProof.Rows.bitAnd_pp h0 e1, e2]
  cases q : n.toNat.testBit h.toNat with
  | false =>
    rw [(GB.and_pow _ _).mpr q]
    rfl
  | true =>
    have z : ¬ (n.toNat &&& 2 ^ h.toNat = 0) := fun z => by rw [(GB.and_pow _ _).mp z] at q; cases q
    have z' : ¬ V.int ((n.toNat &&& 2 ^ h.toNat : Nat) : Int) = V.int 0 := fun e => z (by injection e with e; omega)
    rw [decide_eq_false z']
    rfl
def preH (n : Int) (i : Nat) : List Int := ((List.range i).filter fun h => n.toNat.testBit h).map (fun (h : Nat) => (h : Int))
theorem preH_len (n : Int) (i : Nat) : (preH n i).length ≤ i := by
  unfold preH
  rw [List.length_map]
  have := List.length_filter_le (fun h => n.toNat.testBit h) (List.range i)
  rw [List.length_range] at this
  exact this
theorem preH_yes {n : Int} {i : Nat} (h : n.toNat.testBit i = true) : preH n (i + 1) = preH n i ++ [(i : Int)] := by
  unfold preH
  rw [List.range_succ, List.filter_append, List.map_append, List.filter_cons, h]
  rfl
theorem preH_no {n : Int} {i : Nat} (h : n.toNat.testBit i = false) : preH n (i + 1) = preH n i := by
  unfold preH
  rw [List.range_succ, List.filter_append, List.map_append, List.filter_cons, h]
  exact List.append_nil _
theorem preH_bits {n : Int} (h0 : 0 ≤ n) (h1 : n < 9223372036854775808) : Builtin.Int.intBits n ≤ 63 ∧ preH n (Builtin.Int.intBits n) = GB.hl n := by
  have a : n.natAbs = n.toNat := by omega
  have l : n.toNat < 2 ^ 63 := by
    have : (2 : Nat) ^ 63 = 9223372036854775808 := by decide
    omega
  have b : Builtin.Int.intBits n ≤ 63 := PyProof.Rows.intBits_le (by rw [a]; exact l)
  refine ⟨b, ?_⟩
  unfold preH GB.hl
  rw [GB.hnds_eq b]
  unfold Builtin.Int.intBits
  by_cases z : n = 0
  · subst z; decide
  · have z' : (n == 0) = false := by simpa using z
    rw [z', a]
    exact Nat.lt_log2_self
theorem sorted_ext : ∀ {l m : List Nat}, l.Pairwise (· < ·) → m.Pairwise (· < ·) → (∀ x, x ∈ l ↔ x ∈ m) → l = m
  | [], [], _, _, _ => rfl
  | [], y :: m, _, _, h => absurd ((h y).mpr List.mem_cons_self) (by simp)
  | x :: l, [], _, _, h => absurd ((h x).mp List.mem_cons_self) (by simp)
  | x :: l, y :: m, hl, hm, h => by
    rw [List.pairwise_cons] at hl hm
    have e : x = y := by
      rcases List.mem_cons.mp ((h x).mp List.mem_cons_self) with z | z
      · exact z
      · rcases List.mem_cons.mp ((h y).mpr List.mem_cons_self) with w | w
        · exact w.symm
        · have := hm.1 x z
          have := hl.1 y w
          omega
    subst e
    rw [sorted_ext hl.2 hm.2 fun z => ?_]
    constructor
    · intro hz
      rcases List.mem_cons.mp ((h z).mp (List.mem_cons_of_mem _ hz)) with w | w
      · subst w; exact absurd (hl.1 _ hz) (Nat.lt_irrefl _)
      · exact w
    · intro hz
      rcases List.mem_cons.mp ((h z).mpr (List.mem_cons_of_mem _ hz)) with w | w
      · subst w; exact absurd (hm.1 _ hz) (Nat.lt_irrefl _)
      · exact w
theorem snoc_ind {α : Type} {P : List α → Prop} (h0 : P []) (h1 : ∀ l a, P l → P (l ++ [a])) (l : List α) : P l := by
  have key : ∀ r : List α, P r.reverse := by
    intro r
    induction r with
    | nil => exact h0
    | cons a r ih => rw [List.reverse_cons]; exact h1 _ _ ih
  have := key l.reverse
  rw [List.reverse_reverse] at this
  exact this
theorem sum_lt : ∀ (l : List Nat) (b : Nat), l.Pairwise (· < ·) → (∀ x ∈ l, x < b) → (l.map fun h => 2 ^ h).sum < 2 ^ b := by
  refine snoc_ind ?_ ?_
  · intro b _ _; exact Nat.two_pow_pos b
  · intro l h ih b hp hb
    rw [List.pairwise_append] at hp
    have h1 := ih h hp.1 fun x hx => hp.2.2 x hx h (by simp)
    have h2 : h < b := hb h (by simp)
    rw [List.map_append, List.sum_append]
    have h3 : 2 ^ (h + 1) ≤ 2 ^ b := Nat.pow_le_pow_right (by decide) h2
    rw [Nat.pow_succ] at h3
    simp only [List.map_cons, List.map_nil, List.sum_cons, List.sum_nil]
    omega
theorem sum_set : ∀ (l : List Nat), l.Pairwise (· < ·) → (l.map fun h => 2 ^ h).sum = GB.setN l := by
  refine snoc_ind ?_ ?_
  · intro _; rfl
  · intro l h ih hp
    rw [List.pairwise_append] at hp
    have h1 := sum_lt l h hp.1 fun x hx => hp.2.2 x hx h (by simp)
    have e := ih hp.1
    rw [List.map_append, List.sum_append]
    unfold GB.setN at e ⊢
    rw [List.foldl_append, ← e]
    simp only [List.map_cons, List.map_nil, List.sum_cons, List.sum_nil, List.foldl_cons, List.foldl_nil]
    have := Nat.two_pow_add_eq_or_of_lt h1 1
    rw [Nat.mul_one] at this
    rw [Nat.add_zero, Nat.add_comm, this, Nat.or_comm]
structure Hs (hs : List Int) : Prop where
  up : hs.Pairwise (· < ·)
  rg : ∀ h ∈ hs, 0 ≤ h ∧ h < 63
theorem Hs.nat {hs : List Int} (c : Hs hs) : ∃ l : List Nat, hs = l.map (fun (h : Nat) => (h : Int)) ∧ l.Pairwise (· < ·) ∧ ∀ x ∈ l, x < 63 := by
  refine ⟨hs.map Int.toNat, ?_, ?_, ?_⟩
  · rw [List.map_map]
    conv => lhs; rw [← List.map_id hs]
    refine List.map_congr_left fun h hh => ?_
    have := (c.rg h hh).1
    show h = ((h.toNat : Nat) : Int)
    omega
  · rw [List.pairwise_map]
    refine c.up.imp_of_mem fun {a b} ha hb h => ?_
    have := (c.rg a ha).1
    omega
  · intro x hx
    obtain ⟨h, hh, rfl⟩ := List.mem_map.mp hx
    have := c.rg h hh
    omega
theorem isum_nat : ∀ l : List Nat, (l.map fun (h : Nat) => (h : Int)).sum = ((l.sum : Nat) : Int)
  | [] => rfl
  | x :: l => by rw [List.map_cons, List.sum_cons, List.sum_cons, isum_nat l]; omega
theorem Hs.set {hs : List Int} (c : Hs hs) : 0 ≤ (hs.map fun h => 1 * (2 : Int) ^ h.toNat).sum ∧ (hs.map fun h => 1 * (2 : Int) ^ h.toNat).sum < 9223372036854775808 ∧ GB.hl (hs.map fun h => 1 * (2 : Int) ^ h.toNat).sum = hs := by
  obtain ⟨l, rfl, up, rg⟩ := c.nat
  have e : ((l.map fun (h : Nat) => (h : Int)).map fun h => 1 * (2 : Int) ^ h.toNat).sum = ((GB.setN l : Nat) : Int) := by
    rw [← sum_set l up, ← isum_nat, List.map_map, List.map_map]
    congr 1
    refine List.map_congr_left fun h _ => ?_
    show 1 * (2 : Int) ^ ((h : Int)).toNat = ((2 ^ h : Nat) : Int)
    rw [Int.toNat_natCast, Int.one_mul]
    push_cast
    rfl
  have lt : GB.setN l < 2 ^ 63 := GB.setN_lt rg
  have p63 : (2 : Nat) ^ 63 = 9223372036854775808 := by decide
  rw [e]
  refine ⟨by omega, by omega, ?_⟩
  unfold GB.hl
  rw [Int.toNat_natCast]
  congr 1
  refine sorted_ext (GB.hnds_sorted _) up fun x => ?_
  rw [GB.mem_hnds, GB.setN_bit]
  constructor
  · rintro ⟨_, h⟩; exact of_decide_eq_true h
  · intro h; exact ⟨rg x h, decide_eq_true h⟩
abbrev Rws (H : Hp) : List (Int × V) → List (Int × List (Int × Int)) → Prop := Paired fun q e => q.1 = e.1 ∧ ∃ r, q.2 = .ref r ∧ H r = some (.dK (dI e.2))
theorem Rws.keys {H : Hp} : ∀ {rs : List (Int × V)} {tb : List (Int × List (Int × Int))}, Rws H rs tb → rs.map (·.1) = tb.map (·.1)
  | _, _, .nil => rfl
  | _, _, .cons h t => by rw [List.map_cons, List.map_cons, h.1, Rws.keys t]
def tbl : List (Int × List (Int × Int)) → Int → Option (List (Int × Int))
  | [], _ => none
  | e :: tb, h => if e.1 = h then some e.2 else tbl tb h
theorem Rws.lk {H : Hp} : ∀ {rs : List (Int × V)} {tb : List (Int × List (Int × Int))} (h : Int), Rws H rs tb → (lkG rs h = none ∧ tbl tb h = none) ∨ ∃ r m, lkG rs h = some (.ref r) ∧ tbl tb h = some m ∧ H r = some (.dK (dI m))
  | _, _, h, .nil => .inl ⟨rfl, rfl⟩
  | q :: rs, e :: tb, h, .cons ⟨e1, r, e2, e3⟩ t => by
    unfold lkG tbl
    by_cases z : e.1 = h
    · rw [if_pos (e1.trans z), if_pos z]
      exact .inr ⟨r, e.2, by rw [e2], rfl, e3⟩
    · rw [if_neg (fun w => z (e1.symm.trans w)), if_neg z]
      exact Rws.lk h t
end L2
set_option Elab.async false
set_option linter.all false
set_option maxRecDepth 100000
namespace L2
open PySem PySem.Spec PyProof.Rows
section
variable {X : Cx}
end
theorem x_sl3 {r : V → Option Int → Option Int → Option Int → Hp → VK → Prop} {te : TE} {tl th tk : TO} {σ : St} {H : Hp} {Q : VK} (h : te σ H fun x H1 => tl σ H1 fun l H2 => th σ H2 fun u H3 => tk σ H3 fun k H4 => r x l u k H4 Q) : tSl3 r te tl th tk σ H Q := h
section
variable {X : Cx}
end
end L2
set_option Elab.async false
set_option linter.all false
set_option maxRecDepth 100000
namespace GX
open PySem
section
variable {prog : Program} {w : World} {A : Around} {E : Value → Shared → Prop} {s : Shared} {K : Type} [DecidableEq K] {knd : KeyKind prog w K}
end
end GX
namespace L2
open PySem PySem.Spec PyProof.Rows
section
variable {X : Cx}
end
theorem x_gsub {to ti : TE} {t : TSet} {v : V} {σ : St} {H : Hp} {Q : St → Hp → Prop} (h : to σ H fun o H1 => ti σ H1 fun i H2 => t o i v H2 fun H3 => Q σ H3) : gSub to ti t v σ H Q := h
theorem x_setL {p : Addr} {xs : List V} {k : Int} {j : Nat} {v : V} {H : Hp} {Q : Hp → Prop} (hp : H p = some (.lst xs)) (hk : ixN xs.length k = some j) (h : ∀ H', But p H H' → H' p = some (.lst (xs.set j v)) → Q H') : rSetL (.ref p) (.int k) v H Q :=
  ⟨p, xs, k, j, rfl, rfl, hp, hk, h _ .upd upd_same⟩
end L2
set_option Elab.async false
set_option linter.all false
set_option maxRecDepth 100000
namespace HT
open PySem PyProof.Rows
theorem rcGt_int (A : Around) (s : Shared) (a : Int) (t : Tok) (c : Int) (u : Tok) (prog : Program) (w : World) (E : Value → Shared → Prop) (Q : Value → Shared → Prop) (h : Q (.bool (decide (c < a))) s) :
    wpAny (model prog w) A (richCompare .Gt (.int a t) (.int c u)) Q E s :=
  (PyProof.Rows.gt_int h : wpAny (model prog w) A (compareOp .Gt (.int a t) (.int c u)) Q E s)
section
open PySem.SeqAt
open PySem.AutoSeq1 (wpAny_loadPart')
open PySem.MeetsSeq PySem.MeetsSeq2 PySem.MeetsSeq3
theorem tuple_gt_ints (l b : Addr) (items items2 : Array Value) (n n2 : Nat) (dd dd2 : Option Addr) (sl sl2 : Array (Option Value)) (ns ms : List Int) (hi : IntsAre items.toList ns) (hj : IntsAre items2.toList ms) :
    Meets (Builtin.«tuple.__gt__» ⟨[.ref l, .ref b], []⟩)
      (fun _ R s => s.heap.get? l = some { cls := .type "tuple", dict := dd, data := .seq items n, slots := sl } ∧ s.heap.get? b = some { cls := .type "tuple", dict := dd2, data := .seq items2 n2, slots := sl2 } ∧
        R (.ok (.ret (.bool (lexLt ms ns)))) s) :=
  .of_wp fun prog w A R s h => by
    obtain ⟨hp, g, d, tk, os⟩ := s; obtain ⟨hl, hb, h⟩ := h
    have f2 := AutoSeq1.sub_tuple_tuple
    have z1 : items.size = ns.length := by rw [← hi.length]; simp
    have z2 : items2.size = ms.length := by rw [← hj.length]; simp
    wp_walk using wpAny_loadPart' hl, wpAny_loadPart' hb, wpAny_forIn_list _ (fun rest b s' => b.1 = none ∧ s' = ⟨hp, g, d, tk, os⟩ ∧ ∃ (vs ws : List Value) (ns' ms' : List Int), rest = vs.zip ws ∧
      IntsAre vs ns' ∧ IntsAre ws ms' ∧ ns'.length + items2.size = ms'.length + items.size ∧ R (.ok (.ret (.bool (lexLt ms' ns')))) ⟨hp, g, d, tk, os⟩) _
    case turn =>
      rintro ⟨y, x⟩ rest b s' ⟨hb', rfl, vs, ws, ns', ms', hz, hvi, hwi, hlen, hR⟩
      cases hvi with
      | nil => rw [List.zip_nil_left] at hz; cases hz
      | cons a t hvi' =>
        cases hwi with
        | nil => rw [List.zip_nil_right] at hz; cases hz
        | cons c u hwi' =>
          rw [List.zip_cons_cons] at hz
          injection hz with hyx hrest
          injection hyx with hy hx
          subst hy hx
          rw [lexLt_cons] at hR
          simp only [List.length_cons] at hlen
          obtain ⟨e, he, hiff⟩ := eqAt_int A.in1 ⟨hp, g, d, tk, os⟩ a t c u
          refine wpAny_bind (he prog w _ _ ?_)
          cases e with
          | true =>
            rw [if_pos (hiff.mp rfl).symm] at hR
            wp_walk
            exact ⟨rfl, rfl, _, _, _, _, hrest, hvi', hwi', by omega, hR⟩
          | false =>
            rw [if_neg (fun q => absurd (hiff.mpr q.symm) Bool.false_ne_true)] at hR
            have hri := rcGt_int A.in1 ⟨hp, g, d, tk, os⟩ a t c u prog w
            wp_walk using hri
            exact ⟨_, rfl, by simpa using hR⟩
    case fin =>
      rintro ⟨b1, b2⟩ s' ⟨hb', rfl, vs, ws, ns', ms', hz, hvi, hwi, hlen, hR⟩
      simp only at hb'
      subst hb'
      have hv : lexLt ms' ns' = decide (items2.size < items.size) := by
        cases hvi with
        | nil =>
          cases hwi with
          | nil =>
            simp only [List.length_nil] at hlen
            rw [lexLt_nil_nil]
            exact (decide_eq_false (by omega)).symm
          | cons c u hw =>
            simp only [List.length_nil, List.length_cons] at hlen
            rw [lexLt_cons_nil]
            exact (decide_eq_false (by omega)).symm
        | cons a t hv =>
          cases hwi with
          | nil =>
            simp only [List.length_nil, List.length_cons] at hlen
            rw [lexLt_nil_cons]
            exact (decide_eq_true (by omega)).symm
          | cons c u hw =>
            rw [List.zip_cons_cons] at hz
            cases hz
      rw [hv] at hR
      wp_walk
      exact ⟨_, rfl, by simpa [Builtin.Tuple.tupleCompareSizes] using hR⟩
    case h =>
      exact ⟨rfl, rfl, items.toList, items2.toList, ns, ms, rfl, hi, hj, by omega, h⟩
end
section
variable {prog : Program} {w : World} {A : Around} {E : Value → Shared → Prop} {s : Shared}
theorem gt_tupInts {l b : Addr} {items items2 : Array Value} {ns ms : List Int} {Q : Value → Shared → Prop} (hl : IsTup s.heap l items) (hb : IsTup s.heap b items2) (hi : IntsAre items.toList ns) (hj : IntsAre items2.toList ms)
    (hu : A.units < cLine) (h : Q (.bool (lexLt ms ns)) s) : wpAny (model prog w) A (compareOp .Gt (.ref l) (.ref b)) Q E s := by
  obtain ⟨⟨cls, dd, data, sl⟩, ho, hc, n, hd⟩ := id hl
  obtain ⟨⟨cls2, dd2, data2, sl2⟩, ho2, hc2, n2, hd2⟩ := id hb
  simp only at hc hd hc2 hd2
  subst hc hd hc2 hd2
  exact richCompare_meets_room (op := .Gt) ⟨_, ho, rfl⟩ ⟨_, ho2, rfl⟩ PySem.F.slot_tuple_gt PySem.F.entry_tuple_gt (PySem.F.args_tuple_gt_2 _ _) (tuple_gt_ints l b items items2 n n2 dd dd2 sl sl2 ns ms hi hj)
    ⟨ho, ho2, show Value.bool (lexLt ms ns) ≠ Value.notImplemented ∧ Q (.bool (lexLt ms ns)) s from ⟨(fun x => nomatch x), h⟩⟩ hu
end
end HT
namespace L2
open PySem PySem.Spec PyProof.Rows
section
variable {X : Cx}
def rGtT (K : PySem.W.Frag) : R2 := fun x y H Q => ∃ a b ns ms, x = .ref a ∧ y = .ref b ∧ SqT K H a (ns.map V.int) ∧ SqT K H b (ms.map V.int) ∧ Q (.bl (HT.lexLt ms ns)) H
theorem op_gtT {K : PySem.W.Frag} (hK : X.K = K) (hu : X.A.units < cLine) : OpR X (compareOp .Gt) (rGtT K) := by
  subst hK
  intro pins s σ H x y v u Q I rx ry h
  obtain ⟨a, b, ns, ms, rfl, rfl, ha, hb, q⟩ := h
  cases rx
  cases ry
  obtain ⟨its, r1, p1, _⟩ := I.tuple ha
  obtain ⟨its2, r2, p2, _⟩ := I.tuple hb
  have i1 : IntsAre its.toArray.toList ns := intsAre_of r1
  have i2 : IntsAre its2.toArray.toList ms := intsAre_of r2
  exact HT.gt_tupInts p1 p2 i1 i2 hu ⟨.bl (HT.lexLt ms ns), H, I, rfl, q⟩
end
def chf (me hd ba ye vo re ag : V) : List (Str × V) := [("me", me), ("hands", hd), ("ballot", ba), ("yes", ye), ("votes", vo), ("reports", re), ("agreed", ag)]
structure TChange (K : PySem.W.Frag) (C : Addr) : Prop where
  cl : Cls K C
  n1 : NoAttr K C "me"
  n2 : NoAttr K C "hands"
  n3 : NoAttr K C "ballot"
  n4 : NoAttr K C "yes"
  n5 : NoAttr K C "votes"
  n6 : NoAttr K C "reports"
  n7 : NoAttr K C "agreed"
section
variable {me hd ba ye vo re ag v : V}
theorem chf_put : putF "agreed" ag (putF "reports" re (putF "votes" vo (putF "yes" ye (putF "ballot" ba (putF "hands" hd (putF "me" me [])))))) = chf me hd ba ye vo re ag := by kernel_rfl
theorem chf_pba : putF "ballot" v (chf me hd ba ye vo re ag) = chf me hd v ye vo re ag := by kernel_rfl
theorem chf_pre : putF "reports" v (chf me hd ba ye vo re ag) = chf me hd ba ye vo v ag := by kernel_rfl
theorem chf_me : (chf me hd ba ye vo re ag).lookup ("me" : Str) = some me := by kernel_rfl
theorem chf_hands : (chf me hd ba ye vo re ag).lookup ("hands" : Str) = some hd := by kernel_rfl
theorem chf_ballot : (chf me hd ba ye vo re ag).lookup ("ballot" : Str) = some ba := by kernel_rfl
theorem chf_yes : (chf me hd ba ye vo re ag).lookup ("yes" : Str) = some ye := by kernel_rfl
theorem chf_votes : (chf me hd ba ye vo re ag).lookup ("votes" : Str) = some vo := by kernel_rfl
theorem chf_reports : (chf me hd ba ye vo re ag).lookup ("reports" : Str) = some re := by kernel_rfl
theorem chf_agreed : (chf me hd ba ye vo re ag).lookup ("agreed" : Str) = some ag := by kernel_rfl
theorem chf_begin : (chf me hd ba ye vo re ag).lookup ("begin" : Str) = none := by kernel_rfl
theorem chf_message : (chf me hd ba ye vo re ag).lookup ("message" : Str) = none := by kernel_rfl
theorem chf_receive : (chf me hd ba ye vo re ag).lookup ("receive" : Str) = none := by kernel_rfl
theorem chf_see_ballot : (chf me hd ba ye vo re ag).lookup ("see_ballot" : Str) = none := by kernel_rfl
theorem chf_see_yes : (chf me hd ba ye vo re ag).lookup ("see_yes" : Str) = none := by kernel_rfl
theorem chf_see_votes : (chf me hd ba ye vo re ag).lookup ("see_votes" : Str) = none := by kernel_rfl
theorem chf_gathers : (chf me hd ba ye vo re ag).lookup ("gathers" : Str) = none := by kernel_rfl
theorem chf_settled : (chf me hd ba ye vo re ag).lookup ("settled" : Str) = none := by kernel_rfl
theorem chf_len : (chf me hd ba ye vo re ag).length < 1000 := by show 7 < 1000; decide
end
theorem x_disp1 {tk tv : TE} {σ : St} {H : Hp} {Q : VK} (h : ∀ p, H p = none → tk σ (upd H p (.dK [])) fun x H1 => tv σ H1 fun y H2 => H2 p = some (.dK []) ∧ ∃ kvs : List (Key × V), [(x, y)] = kvs.map (fun kv => (kV kv.1, kv.2)) ∧ kvs.length ≤ 15 ∧ Q (.ref p) (upd H2 p (.dK (mergeK [] kvs)))) : tDisp [(tk, tv)] σ H Q := h
end L2
set_option Elab.async false
set_option linter.all false
set_option maxRecDepth 100000
namespace L2
open PySem PySem.Spec PyProof.Rows
def Prn (n : Nat) (p : Array Nat) : Prop := p.toList.Perm (List.range n)
section
variable {n : Nat} (hn : 0 < n)
include hn
end
section
variable {prog : Program} {w : World} {A : Around} {E : Value → Shared → Prop} {s : Shared}
end
section
variable {X : Cx}
end
end L2
set_option Elab.async false
set_option linter.all false
set_option maxRecDepth 100000
namespace GX
open PySem PySem.Spec PyProof.Rows
abbrev dictO (es : Array DictEntry) (ep : Nat) : Obj := { cls := .type "dict", data := .dict es ep }
abbrev valO (d : Addr) (i n ep : Nat) : Obj := { cls := .type "dict_valueiterator", data := .fields #[.ref d, .int i 0, .int n 0, .int ep 0] }
def RawD (h : Heap) (d : Addr) (es : Array DictEntry) (ep : Nat) : Prop := h.get? d = some (dictO es ep)
def ValAt (h : Heap) (it d : Addr) (i n ep : Nat) : Prop := h.get? it = some (valO d i n ep)
theorem RawD.of {h : Heap} {d : Addr} {o : Obj} {es : Array DictEntry} {ep : Nat} (e : h.get? d = some o) (x : o.ExactDict) (dt : o.data = .dict es ep) : RawD h d es ep := by
  obtain ⟨c, di, dat, sl⟩ := o
  obtain ⟨rfl, rfl, rfl⟩ := x
  cases dt
  exact e
theorem RawD.at {h g : Heap} {d : Addr} {es : Array DictEntry} {ep : Nat} (x : RawD h d es ep) (k : ∀ o, h.get? d = some o → g.get? d = some o) : RawD g d es ep := k _ x
theorem RawD.lt {h : Heap} {d : Addr} {es : Array DictEntry} {ep : Nat} (x : RawD h d es ep) : d < h.objs.size := Heap.lt_size x
theorem ValAt.is {h : Heap} {it d : Addr} {i n ep : Nat} (x : ValAt h it d i n ep) : h.IsValIter it d i n ep := ⟨_, x, rfl, rfl⟩
section
variable {prog : Program} {w : World} {A : Around} {s : Shared} {E : Value → Shared → Prop} {it v d : Addr} {es : Array DictEntry} {i ep : Nat}
end
end GX
set_option Elab.async false
set_option linter.all false
set_option maxRecDepth 100000
namespace L2
open PySem PySem.Spec PyProof.Rows
section
variable (ky : Nat → Int)
variable {ky} {n : Nat} (hn : 0 < n)
include hn
end
def ltF (f : Bool) : List Int → List Int → Bool
  | x :: r, y :: q => if x = y then ltF f r q else decide (x < y)
  | _, _ => f
def ltL (a b : List Int) : Bool := ltF (decide (a.length < b.length)) a b
theorem range_getD {α : Type} (l : List α) (d : α) : ((List.toArray (List.range l.length)).toList.map fun i => l.getD i d) = l := by
  refine List.ext_getElem (by simp) fun i h1 h2 => ?_
  simp at h1 ⊢
  simp [h1]
def OrdP (ks : List (List Int)) (n : Nat) (p : Array Nat) : Prop := (∃ g : Nat → Int, ∀ i j, i < n → j < n → ltL (ks.getD i []) (ks.getD j []) = decide (g i < g j)) → ∀ i j, i ≤ j → j < n → ltL (ks.getD (p.getD j 0) []) (ks.getD (p.getD i 0) []) = false
def OrdW (ks : List (List Int)) (xs ws : List V) : Prop := ∃ p : Array Nat, Prn xs.length p ∧ ws = (p.toList.map fun i => xs.getD i V.non) ∧ OrdP ks xs.length p
section
variable {prog : Program} {w : World} {A : Around} {E : Value → Shared → Prop} {s : Shared}
end
theorem OrdW.perm {ks : List (List Int)} {xs ws : List V} (h : OrdW ks xs ws) : ws.Perm xs := by
  obtain ⟨p, hp, rfl, _⟩ := h
  have := hp.map fun i => xs.getD i V.non
  have e := range_getD xs V.non
  rw [show (List.toArray (List.range xs.length)).toList = List.range xs.length from rfl] at e
  rw [e] at this
  exact this
section
variable {X : Cx} {pins : List (Addr × Obj)} {σ : St} {H : Hp} {s : Shared} {D f : Addr} {xs : List V} {its : List Value} {ks : List (List Int)} {k : Nat} {fd : FuncData} {ps : List Str} {sp : Sp}
end
section
variable {X : Cx}
end
end L2
set_option Elab.async false
set_option linter.all false
set_option maxRecDepth 100000
namespace L2
open PySem PySem.Spec PyProof.Rows
abbrev CelO (c : Addr) (v : V) : HO := .ext fun h => ∃ u, RelV v u ∧ h.IsCell c (some u)
def Lent (H : Hp) (c : Addr) (v : V) : Prop := ∃ o, H c = some (.frz o (CelO c v))
section
variable {P : Program} {w : World} {H H' : Hp} {h h' : Heap} {cs fs : List Addr}
end
section
variable {CX : CXT} {P : Program} {w : World} {K : PySem.W.Frag} {mg : Str → Option Value} {base : Heap} {N ps : List Str} {qual : Str} {scope : Scope} {f : Addr} {cd : Value} {cl : List (Str × Addr)} {A : Around} {outer : List Env} {s : Shared} {H : Hp} {E : XK} {us : List Value} {vs vals : List V}
def LentAll (H : Hp) (cl : List (Str × Addr)) (vals : List V) : Prop := cl.length = vals.length ∧ ∀ (i : Nat) x c v, cl[i]? = some (x, c) → vals[i]? = some v → Lent H c v
theorem LentAll.frz (l : LentAll H cl vals) : ∀ c ∈ cl.map (·.2), ∃ o φ, H c = some (.frz o (.ext φ)) := fun c hc => by
  obtain ⟨p, hp, rfl⟩ := List.mem_map.mp hc
  obtain ⟨i, hi⟩ := List.getElem?_of_mem hp
  have il := (List.getElem?_eq_some_iff.mp hi).1
  have iv : i < vals.length := by have := l.1; omega
  obtain ⟨o, e⟩ := l.2 i p.1 p.2 vals[i] hi (List.getElem?_eq_getElem iv)
  exact ⟨o, _, e⟩
theorem LentAll.cell {h : Heap} (l : LentAll H cl vals) (ok : HOk P w H h) {i : Nat} {x : Str} {c : Addr} {v : V} (e1 : cl[i]? = some (x, c)) (e2 : vals[i]? = some v) : ∃ u, RelV v u ∧ h.IsCell c (some u) := by
  obtain ⟨o, e⟩ := l.2 i x c v e1 e2
  exact (show h.get? c = some o ∧ ((∃ u, RelV v u ∧ h.IsCell c (some u)) ∧ _) from ok c _ e).2.1
end
end L2
set_option Elab.async false
set_option linter.all false
set_option maxRecDepth 100000
namespace L2
open PySem PySem.Spec PyProof.Rows
structure FunC (K : PySem.W.Frag) (x qual : Str) (st : Stmt) (f : Addr) (fd : FuncData) (c : Addr) : Prop where
  ex : ∃ (oc : Value) (od : Option Addr) (kV doc pm : Value) (an : Option Addr) (ct : Value) (osl : Array (Option Value)),
    fd = PySem.W.fnOf x qual (defArgs st) (defBody st) (defScope st) .none kV doc pm an (.ref c) ct ∧ K.lookup f = some ⟨oc, od, .func fd, osl⟩ ∧ PySem.W.codeIn K (.ref c) qual = true
section
variable {P : Program} {w : World} {K : PySem.W.Frag} {mg : Str → Option Value} {base : Heap}
theorem FunC.ok {x qual : Str} {st : Stmt} {f c : Addr} {fd : FuncData} {N ps : List Str} {k : Nat} {sp : Sp} (F : FunC K x qual st f fd c) (S : FnScope N ps (defScope st)) (len : ∀ vs H Q E, sp vs H Q E → vs.length = ps.length)
    (hbody : ∀ (A : Around) (outer : List Env) (s : Shared) (H : Hp) (vs : List V) (Q : VK) (E : XK), Room k (A.deeper (envOfC qual (defScope st) s.heap.objs.size f (.ref c))) → sp vs H Q E →
      ∃ t, PSs (cxOf CX0 P w K mg base N qual (defScope st) f (.ref c) A outer s H E).nox (defBody st) t ∧ t { nx := fun _ H' => Q .non H', rt := Q } (start N vs) H) : FnOk P w K mg base CX0 (k + 1) f fd ps sp := by
  obtain ⟨oc, od, kV, doc, pm, an, ct, osl, rfl, lk, hcd⟩ := F.ex
  refine fn_of lk hcd S len fun A outer s H vs Q E hr hsp => ?_
  obtain ⟨t, h, q⟩ := hbody A outer s H vs Q E hr hsp
  exact ⟨t, h.nox, q⟩
end
end L2
local macro_rules | `(tactic| sizeOf_list_dec) => `(tactic| first | assumption | decide | exact ⟨by decide, by decide⟩ | exact ⟨by decide, by decide, by decide⟩ | exact Nat.le_of_ble_eq_true rfl | exact L2.small1000 (by omega) | exact L2.pow18p | exact L2.pow60p | omega | fail)
local macro_rules | `(tactic| decreasing_trivial_pre_omega) => `(tactic| first | assumption | (apply L2.SqL.of; assumption) | (apply L2.SqT.of; assumption) | (refine Or.inl ?_; assumption) | (refine Or.inl ?_; apply L2.SqL.of; assumption) | (refine Or.inr ?_; apply L2.SqT.of; assumption))
local macro_rules | `(tactic| bv_omega) => `(tactic| first | assumption | exact L2.atI_nat (j := 0) rfl | exact L2.atI_nat (j := 1) rfl | exact L2.atI_nat (j := 2) rfl | exact L2.atI_nat (j := 3) rfl | exact L2.atI_nat (j := 4) rfl | exact L2.atI_nat (j := 5) rfl)
local macro_rules | `(tactic| array_get_dec) => `(tactic| array_mem_dec)
local macro_rules | `(tactic| array_get_dec) => `(tactic| with_reducible first
  | refine L2.x_seqA ?_ | refine L2.x_seqD ?_ | refine L2.x_seqP ?_ | refine L2.x_seqF ?_ | refine L2.x_seqW ?_ | refine L2.x_seqM ?_ | refine L2.x_seqG ?_ | refine L2.x_asg ?_ | refine L2.x_op ?_ | refine L2.x_c ?_ | refine L2.x_ret ?_ | refine L2.x_ifs ?_ | refine L2.x_name ?_
  | refine L2.x_cons ?_ | refine L2.x_nil ?_ | refine L2.x_call ?_ | refine L2.x_cb ?_ | refine L2.x_I0 ?_ | refine L2.x_test ?_ | refine L2.x_tru ?_ | refine L2.x_b ?_ | refine L2.x_exbl ?_ | refine L2.x_extru ?_
  | refine L2.x_and ?_ | refine L2.x_or ?_ | refine L2.x_not ?_ | refine L2.x_andV ?_ | refine L2.x_orV ?_ | refine L2.x_notV ?_ | refine L2.x_ife ?_
  | refine L2.x_next ?_ | refine L2.x_drop ?_ | refine L2.x_un ?_ | refine L2.x_U ?_ | refine L2.x_eqI ?_ | refine L2.x_neI ?_ | refine L2.x_eqS ?_ | refine L2.x_neS ?_ | refine L2.x_eqB ?_ | refine L2.x_neB ?_
  | refine L2.x_tup ?_ | refine L2.x_lst ?_ | refine L2.x_dnew ?_ | refine L2.x_sl ?_ | refine L2.x_nopart ?_ | refine L2.x_part ?_ | refine L2.x_exint ?_
  | refine L2.x_dget ?_ | refine L2.x_dget2 ?_ | refine L2.x_din ?_ | refine L2.x_dnotin ?_ | refine L2.x_dput ?_ | refine L2.x_for ?_ | refine L2.x_ilist ?_ | refine L2.x_itup ?_ | refine L2.x_ir1 ?_ | refine L2.x_bm ?_ | refine L2.x_bm0 ?_ | refine L2.x_comp ?_
  | refine L2.x_gcons ?_ | refine L2.x_gnil ?_ | refine L2.x_retN ?_ | refine L2.x_brk ?_ | refine L2.x_cont ?_ | refine L2.iteT ?_ | refine L2.iteF ?_ | refine L2.iteNT ?_ | refine L2.iteNF ?_)
local macro_rules | `(tactic| array_mem_dec) => `(tactic| ((with_reducible apply L2.x_gtup); (focus decreasing_trivial_pre_omega); (focus rfl)))
local macro_rules | `(tactic| array_mem_dec) => `(tactic| ((with_reducible apply L2.x_var); (focus exact rfl)))
local macro_rules | `(tactic| array_mem_dec) => `(tactic| ((with_reducible apply L2.x_I); (focus sizeOf_list_dec)))
local macro_rules | `(tactic| array_mem_dec) => `(tactic| ((with_reducible apply L2.x_ixT); (focus decreasing_trivial_pre_omega); (focus bv_omega)))
local macro_rules | `(tactic| array_mem_dec) => `(tactic| ((with_reducible apply L2.x_ixL); (focus decreasing_trivial_pre_omega); (focus bv_omega)))
local macro_rules | `(tactic| array_mem_dec) => `(tactic| ((with_reducible apply L2.x_slL); (focus decreasing_trivial_pre_omega)))
local macro_rules | `(tactic| array_mem_dec) => `(tactic| ((with_reducible apply L2.x_exisd); (focus decreasing_trivial_pre_omega)))
local macro_rules | `(tactic| array_mem_dec) => `(tactic| ((with_reducible apply L2.x_exil); (focus decreasing_trivial_pre_omega)))
local macro_rules | `(tactic| array_mem_dec) => `(tactic| ((with_reducible apply L2.x_exit); (focus decreasing_trivial_pre_omega)))
local macro_rules | `(tactic| array_mem_dec) => `(tactic| ((with_reducible apply L2.x_exdo); (focus decreasing_trivial_pre_omega); (first | rw [L2.getDmap] | rw [L2.isSomemap] | skip)))
local macro_rules | `(tactic| array_mem_dec) => `(tactic| ((with_reducible apply L2.x_exdin); (focus decreasing_trivial_pre_omega); (first | rw [L2.getDmap] | rw [L2.isSomemap] | skip)))
local macro_rules | `(tactic| array_mem_dec) => `(tactic| ((with_reducible apply L2.x_exdg); (focus decreasing_trivial_pre_omega); (focus decreasing_trivial_pre_omega)))
local macro_rules | `(tactic| array_mem_dec) => `(tactic| ((with_reducible apply L2.x_tyl); (focus decreasing_trivial_pre_omega)))
local macro_rules | `(tactic| array_mem_dec) => `(tactic| ((with_reducible apply L2.x_lenL); (focus decreasing_trivial_pre_omega)))
local macro_rules | `(tactic| array_mem_dec) => `(tactic| ((with_reducible apply L2.x_lenT); (focus decreasing_trivial_pre_omega)))
local macro_rules | `(tactic| array_mem_dec) => `(tactic| ((with_reducible apply L2.x_lenD); (focus decreasing_trivial_pre_omega)))
local macro_rules | `(tactic| array_mem_dec) => `(tactic| ((with_reducible apply L2.x_nwT); (focus sizeOf_list_dec)))
local macro_rules | `(tactic| array_mem_dec) => `(tactic| ((with_reducible apply L2.x_nwL); (focus sizeOf_list_dec)))
local macro_rules | `(tactic| array_mem_dec) => `(tactic| ((with_reducible apply L2.x_append); (focus assumption); (focus sizeOf_list_dec)))
local macro_rules | `(tactic| array_mem_dec) => `(tactic| ((with_reducible apply L2.x_exdput); (focus assumption); (focus assumption); (focus sizeOf_list_dec)))
local macro_rules | `(tactic| clean_wf) => `(tactic| repeat' (first | array_get_dec | fail))
local macro_rules | `(tactic| array_mem_dec) => `(tactic| ((with_reducible apply L2.x_rlenL); (focus decreasing_trivial_pre_omega)))
local macro_rules | `(tactic| array_mem_dec) => `(tactic| ((with_reducible apply L2.x_rlenT); (focus decreasing_trivial_pre_omega)))
local macro_rules | `(tactic| array_mem_dec) => `(tactic| ((with_reducible apply L2.x_rlistL); (focus decreasing_trivial_pre_omega)))
local macro_rules | `(tactic| array_mem_dec) => `(tactic| ((with_reducible apply L2.x_rlistT); (focus decreasing_trivial_pre_omega)))
local macro_rules | `(tactic| array_mem_dec) => `(tactic| ((with_reducible apply L2.x_rtupL); (focus decreasing_trivial_pre_omega)))
local macro_rules | `(tactic| array_mem_dec) => `(tactic| ((with_reducible apply L2.x_rdict); (focus decreasing_trivial_pre_omega)))
local macro_rules | `(tactic| array_mem_dec) => `(tactic| (with_reducible refine L2.x_nonand ?_))
local macro_rules | `(tactic| array_mem_dec) => `(tactic| ((with_reducible apply L2.x_rlenQ); (focus decreasing_trivial_pre_omega)))
local macro_rules | `(tactic| array_mem_dec) => `(tactic| ((with_reducible apply L2.x_ixQ); (focus decreasing_trivial_pre_omega); (focus bv_omega)))
local macro_rules | `(tactic| array_mem_dec) => `(tactic| (with_reducible first | refine L2.x_nx ?_ | refine L2.x_yes ?_ | refine L2.x_turn ?_ | refine L2.x_seqN ?_ | refine L2.x_fld ?_ | refine L2.x_sfld ?_ | refine L2.x_methS ?_ | refine L2.x_make ?_ | refine L2.x_mk ?_))
local macro_rules | `(tactic| array_mem_dec) => `(tactic| ((with_reducible refine L2.x_mtS1 ?_); (with_reducible refine L2.x_mtS1 ?_); (with_reducible apply L2.x_mtS0); (focus assumption); (focus sizeOf_list_dec)))
local macro_rules | `(tactic| array_mem_dec) => `(tactic| ((with_reducible refine L2.x_mtS1 ?_); (with_reducible apply L2.x_mtS0); (focus assumption); (focus sizeOf_list_dec)))
local macro_rules | `(tactic| array_mem_dec) => `(tactic| ((with_reducible apply L2.x_mtS0); (focus assumption); (focus sizeOf_list_dec)))
local macro_rules | `(tactic| array_mem_dec) => `(tactic| ((with_reducible apply L2.x_fldk); (focus assumption); (focus sizeOf_list_dec); (focus sizeOf_list_dec); (focus sizeOf_list_dec)))
local macro_rules | `(tactic| array_mem_dec) => `(tactic| ((with_reducible apply L2.x_sfk); (focus assumption); (focus sizeOf_list_dec); (focus sizeOf_list_dec); (focus sizeOf_list_dec)))
local macro_rules | `(tactic| sizeOf_list_dec) => `(tactic| with_reducible first | exact L2.cfl_number | exact L2.cfl_caller | exact L2.cfl_count | exact L2.cfl_word | exact L2.cfl_causes | exact L2.cfl_free | exact L2.cfl_in_turn | exact L2.cfl_asks_place | exact L2.cfl_kind | exact L2.cfl_name | exact L2.cfl_rank | exact L2.cfl_told | exact L2.cfl_shown | fail)
local macro_rules | `(tactic| array_mem_dec) => `(tactic| ((with_reducible apply L2.x_gisd); (focus decreasing_trivial_pre_omega)))
local macro_rules | `(tactic| array_mem_dec) => `(tactic| ((with_reducible apply L2.x_gdg); (focus decreasing_trivial_pre_omega); (focus assumption)))
local macro_rules | `(tactic| array_mem_dec) => `(tactic| ((with_reducible apply L2.x_gdo); (focus decreasing_trivial_pre_omega)))
local macro_rules | `(tactic| array_mem_dec) => `(tactic| ((with_reducible apply L2.x_gdin); (focus decreasing_trivial_pre_omega)))
local macro_rules | `(tactic| array_mem_dec) => `(tactic| ((with_reducible apply L2.x_gdput); (focus assumption); (focus assumption); (focus sizeOf_list_dec)))
local macro_rules | `(tactic| sizeOf_list_dec) => `(tactic| with_reducible first | exact L2.kf_learnt | exact L2.kf_learn | exact L2.kf_row_of | exact L2.kf_floor | exact L2.kf_reach | exact L2.kf_sure | fail)
local macro_rules | `(tactic| array_mem_dec) => `(tactic| ((with_reducible apply L2.x_rdictG); (focus decreasing_trivial_pre_omega)))
local macro_rules | `(tactic| array_mem_dec) => `(tactic| (with_reducible first | refine L2.x_ivals ?_ | refine L2.x_ikeys ?_ | refine L2.x_iseq ?_ | refine L2.x_sl3 ?_))
local macro_rules | `(tactic| array_mem_dec) => `(tactic| ((with_reducible apply L2.x_tyd); (focus assumption)))
local macro_rules | `(tactic| array_mem_dec) => `(tactic| (with_reducible first | refine L2.x_iitems ?_))
local macro_rules | `(tactic| array_mem_dec) => `(tactic| ((with_reducible apply L2.x_neE); (focus decreasing_trivial_pre_omega); (focus decreasing_trivial_pre_omega)))
local macro_rules | `(tactic| sizeOf_list_dec) => `(tactic| with_reducible first | exact L2.kf_listed | exact L2.kf_merge | fail)
local macro_rules | `(tactic| array_mem_dec) => `(tactic| (with_reducible first | refine L2.x_gsub ?_))
local macro_rules | `(tactic| array_mem_dec) => `(tactic| (with_reducible first | refine L2.x_maxl ?_))
local macro_rules | `(tactic| sizeOf_list_dec) => `(tactic| with_reducible first | exact L2.chf_me | exact L2.chf_hands | exact L2.chf_ballot | exact L2.chf_yes | exact L2.chf_votes | exact L2.chf_reports | exact L2.chf_agreed | exact L2.chf_begin | exact L2.chf_message | exact L2.chf_receive | exact L2.chf_see_ballot | exact L2.chf_see_yes | exact L2.chf_see_votes | exact L2.chf_gathers | exact L2.chf_settled | exact L2.chf_len | fail)
namespace K61
open PySem L2
def top (i : Nat) : Stmt := PySem.Challenge.pw_groupcall_k61_ballots.main.body.getD i (.Pass ⟨0, 0, 0, 0⟩)
abbrev s_bit_of : Stmt := top 2
abbrev s_has : Stmt := top 3
abbrev s_hands_of : Stmt := top 4
abbrev s_own_copy : Stmt := top 10
abbrev s_is_greater : Stmt := top 8
abbrev s_ballot_of : Stmt := top 9
abbrev s_many : Stmt := top 5
abbrev s_more_than_half : Stmt := top 6
section
variable {P : Program} {w : World} {K : PySem.W.Frag} {mg : Str → Option Value} {base : Heap}
def sp_bit_of (K : PySem.W.Frag) : Sp := fun vs H Q _ => ∃ h : Int, vs = [.int h] ∧ 0 ≤ h ∧ h ≤ 1000 ∧ Q (.int (2 ^ h.toNat)) H
def sp_has (K : PySem.W.Frag) : Sp := fun vs H Q _ => ∃ n h : Int, vs = [.int n, .int h] ∧ 0 ≤ n ∧ 0 ≤ h ∧ h ≤ 1000 ∧ Q (.bl (n.toNat.testBit h.toNat)) H
def sp_hands_of (K : PySem.W.Frag) : Sp := fun vs H Q _ => ∃ n : Int, vs = [.int n] ∧ 0 ≤ n ∧ n < 9223372036854775808 ∧ ∀ H' l, H l = none → Same H H' → H' l = some (.lst ((GB.hl n).map V.int)) → Q (.ref l) H'
theorem sc_bit_of : FnScope ["hand"] ["hand"] (defScope s_bit_of) := ⟨rfl, rfl, rfl, by decide +kernel, rfl, by decide +kernel, by decide +kernel⟩
theorem ok_bit_of {f  : Addr} {fd  : FuncData} (F : Fun K "bit_of" "bit_of" s_bit_of f fd) : FnOk P w K mg base CX0 1 f fd ["hand"] (sp_bit_of K) := by
  refine F.ok sc_bit_of (fun vs H Q E h => ?_) (fun cdv A outer s H vs Q E hr h => ?_)
  · obtain ⟨x, rfl, _⟩ := h
    rfl
  obtain ⟨x, rfl, h⟩ := h
  have hu64 := hr.units
  have hu0 := hr.units0
  have hu := hu_of hr
  refine ⟨_, (pss_one (ps_ret (pe_ifExp (pt_cmpR op_ge (pv 0) pe_int (nomark _)) (pe_op op_shl pe_int (pv 0)) pe_int))), ?_⟩
  obtain ⟨h0, h1, k⟩ := h
  refine ⟨_, rfl, _, _, rfl, rfl, _, rfl, ?_⟩
  rw [decide_eq_true (show (0 : Int) ≤ x from h0)]
  refine iteT ⟨_, rfl, _, _, rfl, rfl, ⟨h0, by omega, by decide⟩, ?_⟩
  show Q (.int (1 * 2 ^ x.toNat)) H
  rw [Int.one_mul]
  exact k
theorem sc_has : FnScope ["hands", "hand"] ["hands", "hand"] (defScope s_has) := ⟨rfl, rfl, rfl, by decide +kernel, rfl, by decide +kernel, by decide +kernel⟩
theorem ok_has {f f_bit_of : Addr} {fd fd_bit_of : FuncData} (F : Fun K "has" "has" s_has f fd)
    (G_bit_of : FnOk P w K mg base CX0 1 f_bit_of fd_bit_of ["hand"] (sp_bit_of K)) (C_bit_of : Cal K mg "bit_of" f_bit_of fd_bit_of ["hand"]) : FnOk P w K mg base CX0 2 f fd ["hands", "hand"] (sp_has K) := by
  refine F.ok sc_has (fun vs H Q E h => ?_) (fun cdv A outer s H vs Q E hr h => ?_)
  · obtain ⟨n, x, rfl, _⟩ := h
    rfl
  obtain ⟨n, x, rfl, h⟩ := h
  have hu64 := hr.units
  have hu0 := hr.units0
  have hu := hu_of hr
  refine ⟨_, (pss_one (ps_ret (pe_cmpR op_ne (pe_op op_and (pv 0) (pcall G_bit_of C_bit_of hr (pa_cons (pv 1) pa_nil))) pe_int (nomark _)))), ?_⟩
  obtain ⟨hn, h0, h1, k⟩ := h
  refine ⟨_, rfl, _, rfl, x, rfl, h0, h1, _, _, rfl, rfl, rfl, ?_⟩
  show Q (.bl (!decide (V.int (Builtin.bitAnd n (2 ^ x.toNat)) = V.int 0))) H
  rw [and_test hn h0]
  exact k
theorem sc_hands_of : FnScope ["hands"] ["hands"] (defScope s_hands_of) := ⟨rfl, rfl, rfl, by decide +kernel, rfl, by decide +kernel, by decide +kernel⟩
theorem ok_hands_of {f f_has : Addr} {fd fd_has : FuncData} (F : Fun K "hands_of" "hands_of" s_hands_of f fd)
    (G_has : FnOk P w K mg base CX0 2 f_has fd_has ["hands", "hand"] (sp_has K)) (C_has : Cal K mg "has" f_has fd_has ["hands", "hand"]) (h_range : mg "range" = none) : FnOk P w K mg base CX0 3 f fd ["hands"] (sp_hands_of K) := by
  refine F.ok sc_hands_of (fun vs H Q E h => ?_) (fun cdv A outer s H vs Q E hr h => ?_)
  · obtain ⟨n, rfl, _⟩ := h
    rfl
  obtain ⟨n, rfl, h⟩ := h
  have hu64 := hr.units
  have hu0 := hr.units0
  have hu := hu_of hr
  refine ⟨_, (pss_one (ps_ret (pe_comp ["hands", "hand"] [some 0, none] rfl rfl (by kernel_rfl) (pi_range1 rfl h_range (pa_cons (pe_bm0 PySem.F.plainAttrs_int PySem.F.slot_int_bit_length PySem.F.type_int_bit_length mt_bitlen (pv 0)) pa_nil)) (fun _ _ _ _ _ nd => pg_name (i := 1) nd rfl (Or.inl rfl)) (fun _ _ _ _ _ => (pif_one (pt_callK K rfl (pcall G_has C_has hr (pa_cons (pv 0) (pa_cons (pv 1) pa_nil)))))) (fun _ _ _ _ _ => (pv 1))))), ?_⟩
  obtain ⟨h0, h1, k⟩ := h
  obtain ⟨b1, b2⟩ := preH_bits h0 h1
  refine ⟨_, rfl, rfl, n, rfl, rfl, _, rfl, by omega, by omega, fun D hD => ?_⟩
  refine comp_range (fun i σ H' => ∃ v, σ = [some (.int n), v] ∧ H' = upd H D (.lst ((preH n i).map V.int))) ⟨none, rfl, rfl⟩ ?_ ?_
  · rintro i σ H' hi ⟨v, rfl, rfl⟩
    have hi' : i < Builtin.Int.intBits n := by simpa using hi
    refine ⟨_, rfl, _, rfl, n, _, rfl, h0, (by omega), (by omega), _, rfl, ?_⟩
    have ei : (0 + (i : Int)).toNat = i := by omega
    rw [ei]
    cases e : n.toNat.testBit i with
    | true =>
      refine iteT ⟨_, rfl, _, upd_same, ?_, _, rfl, ?_⟩
      · rw [List.length_map]
        have := preH_len n i
        exact small1000 (by omega)
      · rw [upd_upd, preH_yes e, List.map_append, Int.zero_add]
        rfl
    | false =>
      refine iteF ⟨_, rfl, ?_⟩
      rw [preH_no e]
  · rintro σ H' ⟨v, rfl, rfl⟩
    have e : ((Builtin.Int.intBits n : Nat) : Int).toNat = Builtin.Int.intBits n := Int.toNat_natCast _
    rw [e, b2]
    exact k _ D hD (same_upd hD) upd_same
mutual

inductive Pl (H : Hp) : Nat → V → PyData → Prop
  | non {n : Nat} : Pl H n .non .none
  | int {n : Nat} (i : Int) : Pl H n (.int i) (.int i)
  | tup {n : Nat} {a : Addr} {xs : List V} {ds : List PyData} : H a = some (.tup xs) → xs.length ≤ 10 → Pls H n xs ds → Pl H (n + 1) (.ref a) (.tuple ds)
inductive Pls (H : Hp) : Nat → List V → List PyData → Prop
  | nil {n : Nat} : Pls H n [] []
  | cons {n : Nat} {x : V} {xs : List V} {d : PyData} {ds : List PyData} : Pl H n x d → Pls H n xs ds → Pls H n (x :: xs) (d :: ds)
end
mutual
theorem Pl.up {H H' : Hp} (s : SmH H H') : ∀ {n : Nat} {x : V} {d : PyData}, Pl H n x d → Pl H' n x d
  | _, _, _, .non => .non
  | _, _, _, .int i => .int i
  | _, _, _, .tup e l h => .tup (s _ _ e) l (Pls.up s h)
theorem Pls.up {H H' : Hp} (s : SmH H H') : ∀ {n : Nat} {xs : List V} {ds : List PyData}, Pls H n xs ds → Pls H' n xs ds
  | _, _, _, .nil => .nil
  | _, _, _, .cons h t => .cons (Pl.up s h) (Pls.up s t)
end
theorem pls_at {H : Hp} {n : Nat} : ∀ {xs : List V} {ds : List PyData} {i : Nat} {x : V}, Pls H n xs ds → xs[i]? = some x → ∃ d, ds[i]? = some d ∧ Pl H n x d
  | _, _, _, _, .nil, e => by simp at e
  | _, _, 0, _, .cons h _, e => by simp at e; subst e; exact ⟨_, rfl, h⟩
  | _, _, i + 1, x, .cons _ t, e => by
    obtain ⟨b, h1, h2⟩ := pls_at (i := i) t (by simpa using e)
    exact ⟨b, by simpa using h1, h2⟩
theorem pls_snoc {H : Hp} {n : Nat} : ∀ {xs : List V} {ds : List PyData} {x : V} {d : PyData}, Pls H n xs ds → Pl H n x d → Pls H n (xs ++ [x]) (ds ++ [d])
  | _, _, _, _, .nil, h => .cons h .nil
  | _, _, _, _, .cons r t, h => .cons r (pls_snoc t h)
theorem pls_len {H : Hp} {n : Nat} : ∀ {xs : List V} {ds : List PyData}, Pls H n xs ds → xs.length = ds.length
  | _, _, .nil => rfl
  | _, _, .cons _ t => congrArg (· + 1) (pls_len t)
def spr_own_copy (K : PySem.W.Frag) : Nat → Sp
  | 0 => fun _ _ _ _ => False
  | n + 1 => fun vs H Q _ => ∃ x, vs = [x] ∧ ∃ d, Pl H n x d ∧ ∀ H' x', Same H H' → Pl H' n x' d → Q x' H'
theorem sc_own_copy : FnScope ["value"] ["value"] (defScope s_own_copy) := ⟨rfl, rfl, rfl, by decide +kernel, rfl, by decide +kernel, by decide +kernel⟩
set_option maxHeartbeats 1000000 in
theorem okr_own_copy {f  : Addr} {fd  : FuncData} (F : Fun K "own_copy" "own_copy" s_own_copy f fd)
    (n k : Nat) (G_own_copy : FnOk P w K mg base CX0 k f fd ["value"] (spr_own_copy K n)) (C_own_copy : Cal K mg "own_copy" f fd ["value"]) (h_dict : mg "dict" = none) (h_isinstance : mg "isinstance" = none) (h_list : mg "list" = none) (h_tuple : mg "tuple" = none) : FnOk P w K mg base CX0 (k + 1) f fd ["value"] (spr_own_copy K (n + 1)) := by
  refine F.ok sc_own_copy (fun vs H Q E h => ?_) (fun cdv A outer s H vs Q E hr h => ?_)
  · obtain ⟨x, rfl, _⟩ := h
    rfl
  obtain ⟨x, rfl, h⟩ := h
  have hu64 := hr.units
  have hu0 := hr.units0
  have hu := hu_of hr
  refine ⟨_, (pss_cons (ps_if (pt_callK K rfl (pe_callB (call_isiK (K := K) rfl) (by rfl) h_isinstance PyProof.Rows.boot_isinstance (pa_cons (pv 0) (pa_cons (pe_type h_list PyProof.Rows.boot_list) pa_nil)))) (pss_one ps_never) pss_nil)
      (pss_cons (ps_if (pt_callK K rfl (pe_callB (call_isiK (K := K) rfl) (by rfl) h_isinstance PyProof.Rows.boot_isinstance (pa_cons (pv 0) (pa_cons (pe_type h_tuple PyProof.Rows.boot_tuple) pa_nil)))) (pss_one (ps_ret (pe_callTy (call_tupleK (K := K) rfl) (by rfl) h_tuple PyProof.Rows.boot_tuple (pa_cons (pe_comp ["part"] [none] rfl rfl (by kernel_rfl) (pi_tupK (K := K) rfl (pv 0)) (fun _ _ _ _ _ nd => pg_name (i := 0) nd rfl (Or.inl rfl)) (fun _ _ _ _ _ => pif_nil) (fun _ _ _ _ _ => (pcall G_own_copy C_own_copy hr (pa_cons (pv 0) pa_nil)))) pa_nil)))) pss_nil)
      (pss_cons (ps_if (pt_callK K rfl (pe_callB (call_isiK (K := K) rfl) (by rfl) h_isinstance PyProof.Rows.boot_isinstance (pa_cons (pv 0) (pa_cons (pe_type h_dict PyProof.Rows.boot_dict) pa_nil)))) (pss_one ps_never) pss_nil)
      (pss_one (ps_ret (pv 0)))))), ?_⟩
  obtain ⟨d, hp, kk⟩ := h
  cases hp with
  | non =>
    clean_wf
    refine ⟨_, _, _, false, rfl, .non, (by kernel_rfl), ?_⟩
    clean_wf
    refine ⟨_, _, _, false, rfl, .non, (by kernel_rfl), ?_⟩
    clean_wf
    refine ⟨_, _, _, false, rfl, .non, (by kernel_rfl), ?_⟩
    clean_wf
    exact kk H _ (.refl _) .non
  | int i =>
    clean_wf
    refine ⟨_, _, _, false, rfl, .int _, (by kernel_rfl), ?_⟩
    clean_wf
    refine ⟨_, _, _, false, rfl, .int _, (by kernel_rfl), ?_⟩
    clean_wf
    refine ⟨_, _, _, false, rfl, .int _, (by kernel_rfl), ?_⟩
    clean_wf
    exact kk H _ (.refl _) (.int i)
  | @tup m a xs ds e hl hs =>
    clean_wf
    refine ⟨_, _, _, false, rfl, .tup e, (by kernel_rfl), ?_⟩
    clean_wf
    refine ⟨_, _, _, true, rfl, .tup e, (by kernel_rfl), ?_⟩
    have st := SqT.of (K := K) e
    clean_wf
    intro E hE
    refine comp_tup (K := K) (a := a) (xs := xs) (fun i σ A => ∃ v zs, σ = [v] ∧ Same H A ∧ A E = some (.lst zs) ∧ zs.length = i ∧ Pls A m zs (ds.take i)) ⟨none, [], rfl, same_upd hE, upd_same, rfl, .nil⟩ ?_ ?_ ?_
    · rintro i σ A _ ⟨_, _, _, z, _⟩
      exact SqT.of (z _ _ e)
    · rintro i x σ A hx ⟨v, zs, rfl, sA, hEx, lz, pz⟩
      obtain ⟨d', hd', hpl⟩ := pls_at hs hx
      have hi := (List.getElem?_eq_some_iff.mp hx).1
      clean_wf
      refine ⟨x, rfl, d', hpl.up (.same sA), fun A1 x' s1 p1 => ?_⟩
      have hE1 := s1 _ _ hEx
      have kp : SmH A1 (upd A1 E (.lst (zs ++ [x']))) := SmH.lst hE1
      refine ⟨zs, hE1, small1000 (by omega), _, zs ++ [x'], rfl, fun b o z => ?_, upd_same, by rw [List.length_append, lz]; rfl, ?_⟩
      · rw [upd_ne (ne_of_none z hE)]
        exact s1 _ _ (sA b o z)
      · rw [take_get hd']
        exact pls_snoc (pz.up fun a xs z => kp _ _ (s1 _ _ z)) (p1.up kp)
    rintro σ A ⟨v, zs, rfl, sA, hEx, lz, pz⟩
    rw [pls_len hs, List.take_length] at pz
    clean_wf
    intro t A1 ht s1 g1
    exact kk A1 _ (sA.trans s1) (.tup g1 (by omega) (pz.up (.same s1)))
def sp_own_copy (K : PySem.W.Frag) : Sp := spr_own_copy K 4
theorem ok_own_copy {f : Addr} {fd : FuncData} (F : Fun K "own_copy" "own_copy" s_own_copy f fd) (C : Cal K mg "own_copy" f fd ["value"]) (h_dict : mg "dict" = none) (h_isinstance : mg "isinstance" = none) (h_list : mg "list" = none) (h_tuple : mg "tuple" = none) : FnOk P w K mg base CX0 4 f fd ["value"] (sp_own_copy K) :=
  okr_own_copy F 3 3 (okr_own_copy F 2 2 (okr_own_copy F 1 1 (okr_own_copy F 0 0 ⟨fun _ _ _ _ h => h.elim, fun _ _ _ _ _ _ _ _ _ _ _ _ _ h => h.elim⟩ C h_dict h_isinstance h_list h_tuple) C h_dict h_isinstance h_list h_tuple) C h_dict h_isinstance h_list h_tuple) C h_dict h_isinstance h_list h_tuple

def BaV (H : Hp) (v : V) : Option (Int × Int) → Prop
  | none => v = .non
  | some q => ∃ t, v = .ref t ∧ H t = some (.tup [.int q.1, .int q.2])
theorem BaV.up {H H' : Hp} (s : SmH H H') {v : V} {b : Option (Int × Int)} (h : BaV H v b) : BaV H' v b := by
  cases b with
  | none => exact h
  | some q => obtain ⟨t, e, g⟩ := h; exact ⟨t, e, s _ _ g⟩
def bgt : Option (Int × Int) → Option (Int × Int) → Bool
  | none, _ => false
  | some _, none => true
  | some q, some r => HT.lexLt [r.1, r.2] [q.1, q.2]
def sp_is_greater (K : PySem.W.Frag) : Sp := fun vs H Q _ => ∃ x y, vs = [x, y] ∧ ∃ b c, BaV H x b ∧ BaV H y c ∧ Q (.bl (bgt b c)) H
theorem sc_is_greater : FnScope ["one", "other"] ["one", "other"] (defScope s_is_greater) := ⟨rfl, rfl, rfl, by decide +kernel, rfl, by decide +kernel, by decide +kernel⟩
theorem ok_is_greater {f  : Addr} {fd  : FuncData} (F : Fun K "is_greater" "is_greater" s_is_greater f fd) : FnOk P w K mg base CX0 1 f fd ["one", "other"] (sp_is_greater K) := by
  refine F.ok sc_is_greater (fun vs H Q E h => ?_) (fun cdv A outer s H vs Q E hr h => ?_)
  · obtain ⟨x, y, rfl, _⟩ := h
    rfl
  obtain ⟨x, y, rfl, h⟩ := h
  have hu64 := hr.units
  have hu0 := hr.units0
  have hu := hu_of hr
  refine ⟨_, (pss_one (ps_ret (pe_and (pe_cmpR op_notN (pv 0) pe_non (nomark _)) (pe_one (pe_or (pe_cmpR op_isN (pv 1) pe_non (nomark _)) (pe_one (pe_cmpR (op_gtT (K := K) rfl hu0) (pv 0) (pv 1) (nomark _)))))))), ?_⟩
  obtain ⟨b, c, hb, hc, kk⟩ := h
  cases b with
  | none =>
    obtain rfl : x = .non := hb
    clean_wf
    exact kk
  | some q =>
    obtain ⟨t, rfl, ht⟩ := hb
    cases c with
    | none =>
      obtain rfl : y = .non := hc
      clean_wf
      rw [show decide (V.ref t = V.non) = false from decide_eq_false (by intro z; cases z)]
      clean_wf
      exact kk
    | some r =>
      obtain ⟨u, rfl, hv⟩ := hc
      clean_wf
      rw [show decide (V.ref t = V.non) = false from decide_eq_false (by intro z; cases z)]
      clean_wf
      rw [show decide (V.ref u = V.non) = false from decide_eq_false (by intro z; cases z)]
      clean_wf
      exact ⟨t, u, [q.1, q.2], [r.1, r.2], rfl, rfl, SqT.of ht, SqT.of hv, kk⟩
def sp_ballot_of (K : PySem.W.Frag) : Sp := fun vs H Q _ => vs = [.non] ∧ Q .non H
theorem sc_ballot_of : FnScope ["yes"] ["yes"] (defScope s_ballot_of) := ⟨rfl, rfl, rfl, by decide +kernel, rfl, by decide +kernel, by decide +kernel⟩
theorem ok_ballot_of {f  : Addr} {fd  : FuncData} (F : Fun K "ballot_of" "ballot_of" s_ballot_of f fd) : FnOk P w K mg base CX0 1 f fd ["yes"] (sp_ballot_of K) := by
  refine F.ok sc_ballot_of (fun vs H Q E h => ?_) (fun cdv A outer s H vs Q E hr h => ?_)
  · obtain ⟨rfl, _⟩ := h
    rfl
  obtain ⟨rfl, h⟩ := h
  have hu64 := hr.units
  have hu0 := hr.units0
  have hu := hu_of hr
  refine ⟨_, (pss_one (ps_ret (pe_ifExp (pt_cmpR op_isN (pv 0) pe_non (nomark _)) pe_non (pe_ix (ix_tupK (K := K) rfl) (pv 0) pe_int (fun _ _ => rfl))))), ?_⟩
  clean_wf
  exact h
def sp_many (K : PySem.W.Frag) : Sp := fun vs H Q _ => ∃ (n : Int), vs = [.int n] ∧ 0 ≤ n ∧ n < 9223372036854775808 ∧ ∀ H', Same H H' → Q (.int ((GB.hl n).length : Nat)) H'
theorem sc_many : FnScope ["hands"] ["hands"] (defScope s_many) := ⟨rfl, rfl, rfl, by decide +kernel, rfl, by decide +kernel, by decide +kernel⟩
theorem ok_many {f f_hands_of : Addr} {fd fd_hands_of : FuncData} (F : Fun K "many" "many" s_many f fd)
    (G_hands_of : FnOk P w K mg base CX0 3 f_hands_of fd_hands_of ["hands"] (sp_hands_of K)) (C_hands_of : Cal K mg "hands_of" f_hands_of fd_hands_of ["hands"]) (h_len : mg "len" = none) : FnOk P w K mg base CX0 4 f fd ["hands"] (sp_many K) := by
  refine F.ok sc_many (fun vs H Q E h => ?_) (fun cdv A outer s H vs Q E hr h => ?_)
  · obtain ⟨n, rfl, _⟩ := h
    rfl
  obtain ⟨n, rfl, h⟩ := h
  have hu64 := hr.units
  have hu0 := hr.units0
  have hu := hu_of hr
  refine ⟨_, (pss_one (ps_ret (pe_callB (call_lenK (K := K) rfl) (by rfl) h_len PySem.boot_len (pa_cons (pcall G_hands_of C_hands_of hr (pa_cons (pv 0) pa_nil)) pa_nil)))), ?_⟩
  obtain ⟨n0, n1, kk⟩ := h
  clean_wf
  refine ⟨n, rfl, n0, n1, fun H1 l hl s1 g1 => ?_⟩
  have sl := SqL.of (K := K) g1
  clean_wf
  have := kk H1 s1
  rw [List.length_map]
  exact this
theorem hl_zero : GB.hl 0 = [] := by
  unfold GB.hl GB.hnds
  have : ((List.range 63).filter fun h => (Int.toNat 0).testBit h) = [] := List.filter_eq_nil_iff.mpr fun h _ => by
    rw [show Int.toNat 0 = 0 from rfl, Nat.zero_testBit]
    decide
  rw [this]
  rfl
def sp_more_than_half (K : PySem.W.Frag) : Sp := fun vs H Q _ => ∃ (n : Int), vs = [.int 0, .int n] ∧ 0 ≤ n ∧ n < 9223372036854775808 ∧ ∀ H', Same H H' → Q (.bl false) H'
theorem and_zero {n : Int} (n0 : 0 ≤ n) : Builtin.bitAnd 0 n = 0 := by
  unfold Builtin.bitAnd
  rw [decide_eq_true (Int.le_refl 0), decide_eq_true n0]
  show (((Int.toNat 0) &&& n.toNat : Nat) : Int) = 0
  rw [show Int.toNat 0 = 0 from rfl, Nat.zero_and]
  rfl
theorem sc_more_than_half : FnScope ["some", "hands"] ["some", "hands"] (defScope s_more_than_half) := ⟨rfl, rfl, rfl, by decide +kernel, rfl, by decide +kernel, by decide +kernel⟩
theorem ok_more_than_half {f f_many : Addr} {fd fd_many : FuncData} (F : Fun K "more_than_half" "more_than_half" s_more_than_half f fd)
    (G_many : FnOk P w K mg base CX0 4 f_many fd_many ["hands"] (sp_many K)) (C_many : Cal K mg "many" f_many fd_many ["hands"]) : FnOk P w K mg base CX0 5 f fd ["some", "hands"] (sp_more_than_half K) := by
  refine F.ok sc_more_than_half (fun vs H Q E h => ?_) (fun cdv A outer s H vs Q E hr h => ?_)
  · obtain ⟨n, rfl, _⟩ := h
    rfl
  obtain ⟨n, rfl, h⟩ := h
  have hu64 := hr.units
  have hu0 := hr.units0
  have hu := hu_of hr
  refine ⟨_, (pss_one (ps_ret (pe_cmpR op_gt (pe_op op_mul pe_int (pcall G_many C_many hr (pa_cons (pe_op op_and (pv 0) (pv 1)) pa_nil))) (pcall G_many C_many hr (pa_cons (pv 1) pa_nil)) (nomark _)))), ?_⟩
  obtain ⟨n0, n1, kk⟩ := h
  clean_wf
  rw [and_zero n0]
  refine ⟨0, rfl, by decide, by decide, fun H1 s1 => ?_⟩
  have m2 : CMul 2 (((GB.hl 0).length : Nat) : Int) := .inl ⟨by decide, by decide⟩
  clean_wf
  refine ⟨n, rfl, n0, n1, fun H2 s2 => ?_⟩
  clean_wf
  rw [hl_zero, decide_eq_false (by simp)]
  exact kk H2 (s1.trans s2)
end
end K61


namespace K61
open PySem L2
abbrev s_Change___init__ : Stmt := inClass (top 11) 0
abbrev s_Change_begin : Stmt := inClass (top 11) 1
abbrev s_Change_message : Stmt := inClass (top 11) 2
abbrev s_Change_see_ballot : Stmt := inClass (top 11) 4
abbrev s_Change_see_yes : Stmt := inClass (top 11) 5
abbrev s_Change_gathers : Stmt := inClass (top 11) 6
abbrev s_Change_see_votes : Stmt := inClass (top 11) 10
abbrev s_Change_settled : Stmt := inClass (top 11) 11
section
variable {P : Program} {w : World} {K : PySem.W.Frag} {mg : Str → Option Value} {base : Heap}

structure ChA (K : PySem.W.Frag) (mg : Str → Option Value) (H : Hp) (p : Addr) (me hd : Int) (b : Option (Int × Int)) (d : Addr) (kvs : List (Key × V)) : Prop where
  ob : ∃ C dx ba, mg "Change" = some (.ref C) ∧ H p = some (.ins C dx (chf (.int me) (.int hd) ba .non (.int 0) (.ref d) .non)) ∧ BaV H ba b
  dc : H d = some (.dK kvs)
  h0 : 0 ≤ hd
  h1 : hd < 9223372036854775808
theorem ChA.up {H H' : Hp} {p d : Addr} {me hd : Int} {b : Option (Int × Int)} {kvs : List (Key × V)} (h : ChA K mg H p me hd b d kvs) (s1 : ∀ o, H p = some o → H' p = some o) (s2 : ∀ o, H d = some o → H' d = some o) (s3 : SmH H H') : ChA K mg H' p me hd b d kvs := by
  obtain ⟨⟨C, dx, ba, e1, e2, e3⟩, e4, e5, e6⟩ := h
  exact ⟨⟨C, dx, ba, e1, s1 _ e2, e3.up s3⟩, s2 _ e4, e5, e6⟩
theorem ChA.same {H H' : Hp} {p d : Addr} {me hd : Int} {b : Option (Int × Int)} {kvs : List (Key × V)} (h : ChA K mg H p me hd b d kvs) (s : Same H H') : ChA K mg H' p me hd b d kvs := h.up (fun _ e => s _ _ e) (fun _ e => s _ _ e) (.same s)
def sp_Change___init__ (K : PySem.W.Frag) : Sp := fun vs H Q _ => ∃ (p : Addr) (me hd : Int), vs = [.ref p, .int me, .int hd] ∧ ∃ C dx, TChange K C ∧ H p = some (.ins C dx []) ∧ ∀ H' d, (∀ b o, H b = some o → b ≠ p → H' b = some o) → H d = none → H' d = some (.dK []) → H' p = some (.ins C dx (chf (.int me) (.int hd) .non .non (.int 0) (.ref d) .non)) → Q .non H'
theorem sc_Change___init__ : FnScope ["self", "me", "hands"] ["self", "me", "hands"] (defScope s_Change___init__) := ⟨rfl, rfl, rfl, by decide +kernel, rfl, by decide +kernel, by decide +kernel⟩
set_option maxHeartbeats 1000000 in
theorem ok_Change___init__ {f  : Addr} {fd  : FuncData} (F : Fun K "__init__" "Change.__init__" s_Change___init__ f fd) : FnOk P w K mg base CX0 1 f fd ["self", "me", "hands"] (sp_Change___init__ K) := by
  refine F.ok sc_Change___init__ (fun vs H Q E h => ?_) (fun cdv A outer s H vs Q E hr h => ?_)
  · obtain ⟨p, me, hd, rfl, _⟩ := h
    rfl
  obtain ⟨p, me, hd, rfl, h⟩ := h
  have hu64 := hr.units
  have hu0 := hr.units0
  have hu := hu_of hr
  refine ⟨_, (pss_cons (ps_fldK (K := K) rfl (pv 0) (pv 1) rfl)
      (pss_cons (ps_fldK (K := K) rfl (pv 0) (pv 2) rfl)
      (pss_cons (ps_fldK (K := K) rfl (pv 0) pe_non rfl)
      (pss_cons (ps_fldK (K := K) rfl (pv 0) pe_non rfl)
      (pss_cons (ps_fldK (K := K) rfl (pv 0) pe_int rfl)
      (pss_cons (ps_fldK (K := K) rfl (pv 0) pe_dnewK rfl)
      (pss_one (ps_fldK (K := K) rfl (pv 0) pe_non rfl)))))))), ?_⟩
  obtain ⟨C, dx, ⟨cl, n1, n2, n3, n4, n5, n6, n7⟩, hp, q⟩ := h
  clean_wf
  intro H1 b1 g1
  clean_wf
  intro H2 b2 g2
  clean_wf
  intro H3 b3 g3
  clean_wf
  intro H4 b4 g4
  clean_wf
  intro H5 b5 g5
  clean_wf
  intro d H6 hd6 s6 g6
  have g5' := s6 _ _ g5
  clean_wf
  intro H7 b7 g7
  clean_wf
  intro H8 b8 g8
  rw [chf_put] at g8
  have nd : d ≠ p := fun z => by rw [z, g5] at hd6; cases hd6
  refine q H8 d (fun b o e n => b8.at n (b7.at n (s6 _ _ (b5.at n (b4.at n (b3.at n (b2.at n (b1.at n e)))))))) ?_ (b8.at nd (b7.at nd g6)) g8
  cases z : H d with
  | none => rfl
  | some o => rw [b5.at nd (b4.at nd (b3.at nd (b2.at nd (b1.at nd z))))] at hd6; cases hd6

def KpP (p : Addr) (H H' : Hp) : Prop := ∀ b o, b ≠ p → H b = some o → H' b = some o
def bl : Option (Int × Int) → Int
  | none => 0
  | some q => q.1
def sp_Change_begin (K : PySem.W.Frag) (mg : Str → Option Value) : Sp := fun vs H Q _ => ∃ (p : Addr) (m c : Int), vs = [.ref p, .int m, .int c] ∧ ∃ me hd b d kvs, ChA K mg H p me hd b d kvs ∧ ∀ H' d' kvs', KpP p H H' → ChA K mg H' p me hd (some (bl b + m, me)) d' kvs' → kvs'.length ≤ 1 → H d' = none → Q .non H'
theorem sc_Change_begin : FnScope ["self", "more", "report", "last"] ["self", "more", "report"] (defScope s_Change_begin) := ⟨rfl, rfl, rfl, by decide +kernel, rfl, by decide +kernel, by decide +kernel⟩
set_option maxHeartbeats 1000000 in
theorem ok_Change_begin {f f_own_copy C_Change : Addr} {fd fd_own_copy : FuncData} (F : Fun K "begin" "Change.begin" s_Change_begin f fd)
    (G_own_copy : FnOk P w K mg base CX0 4 f_own_copy fd_own_copy ["value"] (sp_own_copy K)) (C_own_copy : Cal K mg "own_copy" f_own_copy fd_own_copy ["value"]) (T_Change : TChange K C_Change) (m_Change : mg "Change" = some (.ref C_Change)) : FnOk P w K mg base CX0 5 f fd ["self", "more", "report"] (sp_Change_begin K mg) := by
  refine F.ok sc_Change_begin (fun vs H Q E h => ?_) (fun cdv A outer s H vs Q E hr h => ?_)
  · obtain ⟨p, m, c, rfl, _⟩ := h
    rfl
  obtain ⟨p, m, c, rfl, h⟩ := h
  have hu64 := hr.units
  have hu0 := hr.units0
  have hu := hu_of hr
  refine ⟨_, (pss_cons (ps_set (i := 3) sc_Change_begin.nd rfl (Or.inl rfl) (pe_ifExp (pt_cmpR op_isN (pe_fldK (K := K) rfl (pv 0) rfl) pe_non (nomark _)) pe_int (pe_ix (ix_tupK (K := K) rfl) (pe_fldK (K := K) rfl (pv 0) rfl) pe_int (fun _ _ => rfl))))
      (pss_cons (ps_fldK (K := K) rfl (pv 0) (pe_tup (pa_cons (pe_op op_add (pv 3) (pv 1)) (pa_cons (pe_fldK (K := K) rfl (pv 0) rfl) pa_nil))) rfl)
      (pss_one (ps_fldK (K := K) rfl (pv 0) (pe_disp (pps_cons (pe_fldK (K := K) rfl (pv 0) rfl) (pe_tup (pa_cons (pcall G_own_copy C_own_copy hr (pa_cons (pv 2) pa_nil)) (pa_cons (pe_fldK (K := K) rfl (pv 0) rfl) pa_nil))) pps_nil) rfl rfl (fun z => nomatch z) (Nat.le_of_ble_eq_true rfl)) rfl)))), ?_⟩
  obtain ⟨me, hd, b, d, kvs, S, kk⟩ := h
  obtain ⟨⟨C, dx, ba, eC, hp, hb⟩, hd', z0, z1⟩ := id S
  rw [m_Change] at eC
  cases eC
  obtain ⟨cl, n1, n2, n3, n4, n5, n6, n7⟩ := id T_Change
  refine x_cut (fun σ' H' => H = H' ∧ σ' = [some (.ref p), some (.int m), some (.int c), some (.int (bl b))]) ?_ fun N rest => ?_
  rotate_left
  · cases b with
    | none =>
      obtain rfl : ba = .non := hb
      clean_wf
      exact rest _ _ ⟨rfl, rfl⟩
    | some q =>
      obtain ⟨t, rfl, ht⟩ := hb
      have st := SqT.of (K := K) ht
      clean_wf
      rw [show decide (V.ref t = V.non) = false from decide_eq_false (by intro z; cases z)]
      clean_wf
      exact rest _ _ ⟨rfl, rfl⟩
  rintro σ' _ ⟨rfl, rfl⟩
  clean_wf
  intro t H1 ht s1 g1
  have hp1 := s1 _ _ hp
  clean_wf
  intro H2 b2 g2
  rw [chf_pba] at g2
  clean_wf
  refine x_disp1 fun r hr => ?_
  have s3 := same_upd (o := .dK []) hr
  have g3 : (upd H2 r (.dK [])) r = some (.dK []) := upd_same
  generalize upd H2 r (.dK []) = H3 at s3 g3 ⊢
  have gp3 := s3 _ _ g2
  clean_wf
  refine ⟨.int c, rfl, .int c, .int c, fun H4 x' s4 p4 => ?_⟩
  cases p4
  have gp4 := s4 _ _ gp3
  clean_wf
  intro u H5 hu5 s5 g5
  have gp5 := s5 _ _ gp4
  have gr5 := s5 _ _ (s4 _ _ g3)
  refine ⟨gr5, [(Sum.inl me, .ref u)], rfl, by show 1 ≤ 15; decide, ?_⟩
  have b6 : But r H5 (upd H5 r (.dK (mergeK [] [(Sum.inl me, V.ref u)]))) := .upd
  have g6 : (upd H5 r (.dK (mergeK [] [(Sum.inl me, V.ref u)]))) r = some (.dK [(Sum.inl me, V.ref u)]) := upd_same
  generalize upd H5 r (.dK (mergeK [] [(Sum.inl me, V.ref u)])) = H6 at b6 g6 ⊢
  have nrp : r ≠ p := fun z => by rw [z, g2] at hr; cases hr
  have gp6 := b6.at nrp.symm gp5
  clean_wf
  intro H7 b7 g7
  rw [chf_pre] at g7
  have nrH : ∀ b' o, H b' = some o → b' ≠ p → b' ≠ r := fun b' o e n z => by
    rw [z] at e n
    rw [b2.at n (s1 _ _ e)] at hr
    cases hr
  have gt7 : H7 t = some (.tup [.int (bl b + m), .int me]) := by
    have ntp : t ≠ p := ne_of g1 hp1 (by intro z; cases z)
    have ntr : t ≠ r := fun z => by rw [← z, b2.at ntp g1] at hr; cases hr
    exact b7.at ntp (b6.at ntr (s5 _ _ (s4 _ _ (s3 _ _ (b2.at ntp g1)))))
  refine kk H7 r _ (fun b' o n e => b7.at n (b6.at (nrH b' o e n) (s5 _ _ (s4 _ _ (s3 _ _ (b2.at n (s1 _ _ e))))))) ⟨⟨_, dx, .ref t, m_Change, g7, t, rfl, gt7⟩, b7.at nrp g6, z0, z1⟩ (Nat.le_refl _) ?_
  cases z : H r with
  | none => rfl
  | some o => exact absurd rfl (nrH r o z nrp)

def MsgA (H : Hp) (a : Addr) (me : Int) (b : Option (Int × Int)) (c : Int) : Prop := ∃ ba, H a = some (.tup [.int me, ba, .non, .int 0, .int c]) ∧ BaV H ba b
theorem MsgA.up {H H' : Hp} (s : SmH H H') {a : Addr} {me c : Int} {b : Option (Int × Int)} (h : MsgA H a me b c) : MsgA H' a me b c := by
  obtain ⟨ba, e1, e2⟩ := h
  exact ⟨ba, s _ _ e1, e2.up s⟩
def baD : Option (Int × Int) → PyData
  | none => .none
  | some q => .tuple [.int q.1, .int q.2]
theorem ba_pl {H : Hp} {v : V} {b : Option (Int × Int)} (h : BaV H v b) : Pl H 2 v (baD b) := by
  cases b with
  | none => obtain rfl : v = .non := h; exact .non
  | some q => obtain ⟨t, rfl, g⟩ := h; exact .tup g (by show 2 ≤ 10; decide) (.cons (.int _) (.cons (.int _) .nil))
theorem pl_ba {H : Hp} {v : V} {b : Option (Int × Int)} (h : Pl H 2 v (baD b)) : BaV H v b := by
  cases b with
  | none =>
    have h : Pl H 2 v .none := h
    cases h
    rfl
  | some q =>
    have h : Pl H 2 v (.tuple [.int q.1, .int q.2]) := h
    cases h with
    | tup e l hs =>
      cases hs with
      | cons h1 t1 =>
        cases t1 with
        | cons h2 t2 =>
          cases t2
          cases h1
          cases h2
          exact ⟨_, rfl, e⟩
def msD (me : Int) (b : Option (Int × Int)) (c : Int) : PyData := .tuple [.int me, baD b, .none, .int 0, .int c]
theorem msg_pl {H : Hp} {a : Addr} {me c : Int} {b : Option (Int × Int)} (h : MsgA H a me b c) : Pl H 3 (.ref a) (msD me b c) := by
  obtain ⟨ba, e1, e2⟩ := h
  exact .tup e1 (by show 5 ≤ 10; decide) (.cons (.int _) (.cons (ba_pl e2) (.cons .non (.cons (.int _) (.cons (.int _) .nil)))))
theorem pl_msg {H : Hp} {x : V} {me c : Int} {b : Option (Int × Int)} (h : Pl H 3 x (msD me b c)) : ∃ a, x = .ref a ∧ MsgA H a me b c := by
  unfold msD at h
  cases h with
  | tup e l hs =>
    cases hs with
    | cons h1 t1 =>
      cases t1 with
      | cons h2 t2 =>
        cases t2 with
        | cons h3 t3 =>
          cases t3 with
          | cons h4 t4 =>
            cases t4 with
            | cons h5 t5 =>
              cases t5
              cases h1
              cases h3
              cases h4
              cases h5
              exact ⟨_, rfl, _, e, pl_ba h2⟩
def sp_Change_message (K : PySem.W.Frag) (mg : Str → Option Value) : Sp := fun vs H Q _ => ∃ (p : Addr) (c : Int), vs = [.ref p, .int c] ∧ ∃ me hd b d kvs, ChA K mg H p me hd b d kvs ∧ ∀ H' a, Same H H' → MsgA H' a me b c → Q (.ref a) H'
theorem sc_Change_message : FnScope ["self", "report"] ["self", "report"] (defScope s_Change_message) := ⟨rfl, rfl, rfl, by decide +kernel, rfl, by decide +kernel, by decide +kernel⟩
set_option maxHeartbeats 1000000 in
theorem ok_Change_message {f f_own_copy C_Change : Addr} {fd fd_own_copy : FuncData} (F : Fun K "message" "Change.message" s_Change_message f fd)
    (G_own_copy : FnOk P w K mg base CX0 4 f_own_copy fd_own_copy ["value"] (sp_own_copy K)) (C_own_copy : Cal K mg "own_copy" f_own_copy fd_own_copy ["value"]) (T_Change : TChange K C_Change) (m_Change : mg "Change" = some (.ref C_Change)) : FnOk P w K mg base CX0 5 f fd ["self", "report"] (sp_Change_message K mg) := by
  refine F.ok sc_Change_message (fun vs H Q E h => ?_) (fun cdv A outer s H vs Q E hr h => ?_)
  · obtain ⟨p, c, rfl, _⟩ := h
    rfl
  obtain ⟨p, c, rfl, h⟩ := h
  have hu64 := hr.units
  have hu0 := hr.units0
  have hu := hu_of hr
  refine ⟨_, (pss_one (ps_ret (pcall G_own_copy C_own_copy hr (pa_cons (pe_tup (pa_cons (pe_fldK (K := K) rfl (pv 0) rfl) (pa_cons (pe_fldK (K := K) rfl (pv 0) rfl) (pa_cons (pe_fldK (K := K) rfl (pv 0) rfl) (pa_cons (pe_fldK (K := K) rfl (pv 0) rfl) (pa_cons (pv 1) pa_nil)))))) pa_nil)))), ?_⟩
  obtain ⟨me, hd, b, d, kvs, S, kk⟩ := h
  obtain ⟨⟨C, dx, ba, eC, hp, hb⟩, hd', z0, z1⟩ := id S
  rw [m_Change] at eC
  cases eC
  obtain ⟨cl, n1, n2, n3, n4, n5, n6, n7⟩ := id T_Change
  clean_wf
  intro t H1 ht s1 g1
  clean_wf
  refine ⟨.ref t, rfl, msD me b c, msg_pl ⟨ba, g1, hb.up (.same s1)⟩, fun H2 x' s2 p2 => ?_⟩
  obtain ⟨a, rfl, m2⟩ := pl_msg p2
  clean_wf
  exact kk H2 a (s1.trans s2) m2
def gtr (b b' : Option (Int × Int)) : Option (Int × Int) := if bgt b' b = true then b' else b
def sp_Change_see_ballot (K : PySem.W.Frag) (mg : Str → Option Value) : Sp := fun vs H Q _ => ∃ (p : Addr) (x : V), vs = [.ref p, x] ∧ ∃ me hd b d kvs b', ChA K mg H p me hd b d kvs ∧ BaV H x b' ∧ ∀ H' d' kvs', KpP p H H' → ChA K mg H' p me hd (gtr b b') d' kvs' → kvs'.length ≤ kvs.length → (d' = d ∨ H d' = none) → Q .non H'
theorem sc_Change_see_ballot : FnScope ["self", "ballot"] ["self", "ballot"] (defScope s_Change_see_ballot) := ⟨rfl, rfl, rfl, by decide +kernel, rfl, by decide +kernel, by decide +kernel⟩
set_option maxHeartbeats 1000000 in
theorem ok_Change_see_ballot {f f_is_greater C_Change : Addr} {fd fd_is_greater : FuncData} (F : Fun K "see_ballot" "Change.see_ballot" s_Change_see_ballot f fd)
    (G_is_greater : FnOk P w K mg base CX0 1 f_is_greater fd_is_greater ["one", "other"] (sp_is_greater K)) (C_is_greater : Cal K mg "is_greater" f_is_greater fd_is_greater ["one", "other"]) (T_Change : TChange K C_Change) (m_Change : mg "Change" = some (.ref C_Change)) : FnOk P w K mg base CX0 2 f fd ["self", "ballot"] (sp_Change_see_ballot K mg) := by
  refine F.ok sc_Change_see_ballot (fun vs H Q E h => ?_) (fun cdv A outer s H vs Q E hr h => ?_)
  · obtain ⟨p, x, rfl, _⟩ := h
    rfl
  obtain ⟨p, x, rfl, h⟩ := h
  have hu64 := hr.units
  have hu0 := hr.units0
  have hu := hu_of hr
  refine ⟨_, (pss_one (ps_if (pt_callK K rfl (pcall G_is_greater C_is_greater hr (pa_cons (pv 1) (pa_cons (pe_fldK (K := K) rfl (pv 0) rfl) pa_nil)))) (pss_cons (ps_fldK (K := K) rfl (pv 0) (pv 1) rfl)
      (pss_one (ps_fldK (K := K) rfl (pv 0) pe_dnewK rfl))) pss_nil)), ?_⟩
  obtain ⟨me, hd, b, d, kvs, b', S, hx, kk⟩ := h
  obtain ⟨⟨C, dx, ba, eC, hp, hb⟩, hd', z0, z1⟩ := id S
  rw [m_Change] at eC
  cases eC
  obtain ⟨cl, n1, n2, n3, n4, n5, n6, n7⟩ := id T_Change
  clean_wf
  refine ⟨x, ba, rfl, b', b, hx, hb, ?_⟩
  clean_wf
  refine ite2 (fun h1 => ?_) fun h1 => ?_
  · have eg : gtr b b' = b' := if_pos h1
    clean_wf
    intro H1 b1 g1
    rw [chf_pba] at g1
    clean_wf
    intro r H2 hr s2 g2
    have gp2 := s2 _ _ g1
    have nrp : r ≠ p := fun z => by rw [z, g1] at hr; cases hr
    clean_wf
    intro H3 b3 g3
    rw [chf_pre] at g3
    refine kk H3 r [] (fun b'' o n e => b3.at n (s2 _ _ (b1.at n e))) ⟨⟨_, dx, x, m_Change, g3, ?_⟩, b3.at nrp g2, z0, z1⟩ (Nat.zero_le _) (.inr ?_)
    · rw [eg]
      exact hx.up fun a xs e => b3.at (ne_of e hp (by intro z; cases z)) (s2 _ _ (b1.at (ne_of e hp (by intro z; cases z)) e))
    · cases z : H r with
      | none => rfl
      | some o => rw [b1.at nrp z] at hr; cases hr
  · have eg : gtr b b' = b := if_neg h1
    refine kk H d kvs (fun b'' o n e => e) (by rw [eg]; exact S) (Nat.le_refl _) (.inl rfl)
def sp_Change_see_yes (K : PySem.W.Frag) : Sp := fun vs H Q _ => ∃ (p : Addr), vs = [.ref p, .non, .int 0] ∧ Q .non H
theorem sc_Change_see_yes : FnScope ["self", "yes", "votes"] ["self", "yes", "votes"] (defScope s_Change_see_yes) := ⟨rfl, rfl, rfl, by decide +kernel, rfl, by decide +kernel, by decide +kernel⟩
theorem ok_Change_see_yes {f  : Addr} {fd  : FuncData} (F : Fun K "see_yes" "Change.see_yes" s_Change_see_yes f fd) : FnOk P w K mg base CX0 1 f fd ["self", "yes", "votes"] (sp_Change_see_yes K) := by
  refine F.ok sc_Change_see_yes (fun vs H Q E h => ?_) (fun cdv A outer s H vs Q E hr h => ?_)
  · obtain ⟨p, rfl, _⟩ := h
    rfl
  obtain ⟨p, rfl, h⟩ := h
  have hu64 := hr.units
  have hu0 := hr.units0
  have hu := hu_of hr
  refine ⟨_, (pss_cons (ps_if (pt_cmpR op_isN (pv 1) pe_non (nomark _)) (pss_one ps_retN) pss_nil)
      (pss_one ps_never)), ?_⟩
  refine x_seq ?_
  clean_wf
  exact h
theorem ba_dl {K : PySem.W.Frag} {H : Hp} {v : V} {b : Option (Int × Int)} (h : BaV H v b) : Dl K H v (baD b) := by
  cases b with
  | none => obtain rfl : v = .non := h; exact .inl .none
  | some q => obtain ⟨t, rfl, g⟩ := h; exact .inl (.tup (SqT.of g) (.cons (.int _) (.cons (.int _) .nil)))
theorem ba_lay (b : Option (Int × Int)) : (baD b).canLay0 = true := by cases b <;> rfl
theorem ba_dep (b : Option (Int × Int)) : (baD b).depth ≤ 60 := by
  cases b with
  | none => show 0 ≤ 60; decide
  | some q => show 1 ≤ 60; decide
def sp_Change_gathers (K : PySem.W.Frag) (mg : Str → Option Value) : Sp := fun vs H Q _ => ∃ (p : Addr), vs = [.ref p] ∧ ∃ me hd b d kvs, ChA K mg H p me hd b d kvs ∧ ∀ r, Q (.bl r) H
theorem sc_Change_gathers : FnScope ["self"] ["self"] (defScope s_Change_gathers) := ⟨rfl, rfl, rfl, by decide +kernel, rfl, by decide +kernel, by decide +kernel⟩
set_option maxHeartbeats 1000000 in
theorem ok_Change_gathers {f f_ballot_of C_Change : Addr} {fd fd_ballot_of : FuncData} (F : Fun K "gathers" "Change.gathers" s_Change_gathers f fd)
    (G_ballot_of : FnOk P w K mg base CX0 1 f_ballot_of fd_ballot_of ["yes"] (sp_ballot_of K)) (C_ballot_of : Cal K mg "ballot_of" f_ballot_of fd_ballot_of ["yes"]) (T_Change : TChange K C_Change) (m_Change : mg "Change" = some (.ref C_Change)) : FnOk P w K mg base CX0 2 f fd ["self"] (sp_Change_gathers K mg) := by
  refine F.ok sc_Change_gathers (fun vs H Q E h => ?_) (fun cdv A outer s H vs Q E hr h => ?_)
  · obtain ⟨p, rfl, _⟩ := h
    rfl
  obtain ⟨p, rfl, h⟩ := h
  have hu64 := hr.units
  have hu0 := hr.units0
  have hu := hu_of hr
  refine ⟨_, (pss_one (ps_ret (pe_and (pe_cmpR op_notN (pe_fldK (K := K) rfl (pv 0) rfl) pe_non (nomark _)) (pe_and (pe_cmpR op_eq (pe_ix (ix_tupK (K := K) rfl) (pe_fldK (K := K) rfl (pv 0) rfl) pe_int (fun _ _ => rfl)) (pe_fldK (K := K) rfl (pv 0) rfl) (nomark _)) (pe_one (pe_cmpR (op_neK (K := K) rfl hu64) (pcall G_ballot_of C_ballot_of hr (pa_cons (pe_fldK (K := K) rfl (pv 0) rfl) pa_nil)) (pe_fldK (K := K) rfl (pv 0) rfl) (nomark _))))))), ?_⟩
  obtain ⟨me, hd, b, d, kvs, S, kk⟩ := h
  obtain ⟨⟨C, dx, ba, eC, hp, hb⟩, hd', z0, z1⟩ := id S
  rw [m_Change] at eC
  cases eC
  obtain ⟨cl, n1, n2, n3, n4, n5, n6, n7⟩ := id T_Change
  cases b with
  | none =>
    obtain rfl : ba = .non := hb
    clean_wf
    exact kk _
  | some q =>
    obtain ⟨t, rfl, ht⟩ := id hb
    have st := SqT.of (K := K) ht
    have a1 : atI [V.int q.1, V.int q.2] 1 = some (.int q.2) := by kernel_rfl
    clean_wf
    rw [show decide (V.ref t = V.non) = false from decide_eq_false (by intro z; cases z)]
    clean_wf
    refine ite2 (fun h1 => ?_) fun h1 => ?_
    · clean_wf
      refine ⟨rfl, ?_⟩
      clean_wf
      refine ⟨.none, baD (some q), .inl .none, ba_dl hb, rfl, ba_lay _, by have := ba_dep (some q); omega, ?_⟩
      exact kk _
    · clean_wf
      exact kk _
def sp_Change_see_votes (K : PySem.W.Frag) (mg : Str → Option Value) : Sp := fun vs H Q _ => ∃ (p : Addr), vs = [.ref p] ∧ ∃ me hd b d kvs, ChA K mg H p me hd b d kvs ∧ ∀ H', Same H H' → Q .non H'
theorem sc_Change_see_votes : FnScope ["self"] ["self"] (defScope s_Change_see_votes) := ⟨rfl, rfl, rfl, by decide +kernel, rfl, by decide +kernel, by decide +kernel⟩
set_option maxHeartbeats 1000000 in
theorem ok_Change_see_votes {f f_more_than_half C_Change : Addr} {fd fd_more_than_half : FuncData} (F : Fun K "see_votes" "Change.see_votes" s_Change_see_votes f fd)
    (G_more_than_half : FnOk P w K mg base CX0 5 f_more_than_half fd_more_than_half ["some", "hands"] (sp_more_than_half K)) (C_more_than_half : Cal K mg "more_than_half" f_more_than_half fd_more_than_half ["some", "hands"]) (T_Change : TChange K C_Change) (m_Change : mg "Change" = some (.ref C_Change)) : FnOk P w K mg base CX0 6 f fd ["self"] (sp_Change_see_votes K mg) := by
  refine F.ok sc_Change_see_votes (fun vs H Q E h => ?_) (fun cdv A outer s H vs Q E hr h => ?_)
  · obtain ⟨p, rfl, _⟩ := h
    rfl
  obtain ⟨p, rfl, h⟩ := h
  have hu64 := hr.units
  have hu0 := hr.units0
  have hu := hu_of hr
  refine ⟨_, (pss_one (ps_if (PW.pt (pw_and (pt_cmpR op_isN (pe_fldK (K := K) rfl (pv 0) rfl) pe_non (nomark _)) (pw_and1 (pt_callK K rfl (pcall G_more_than_half C_more_than_half hr (pa_cons (pe_fldK (K := K) rfl (pv 0) rfl) (pa_cons (pe_fldK (K := K) rfl (pv 0) rfl) pa_nil))))))) (pss_one ps_never) pss_nil)), ?_⟩
  obtain ⟨me, hd, b, d, kvs, S, kk⟩ := h
  obtain ⟨⟨C, dx, ba, eC, hp, hb⟩, hd', z0, z1⟩ := id S
  rw [m_Change] at eC
  cases eC
  obtain ⟨cl, n1, n2, n3, n4, n5, n6, n7⟩ := id T_Change
  clean_wf
  rw [show decide (V.non = V.non) = true from decide_eq_true rfl]
  clean_wf
  refine ⟨hd, rfl, z0, z1, fun H1 s1 => ?_⟩
  clean_wf
  exact kk H1 s1
def sp_Change_settled (K : PySem.W.Frag) (mg : Str → Option Value) : Sp := fun vs H Q _ => ∃ (p : Addr), vs = [.ref p] ∧ ∃ me hd b d kvs, ChA K mg H p me hd b d kvs ∧ ∀ H', Same H H' → Q .non H'
theorem sc_Change_settled : FnScope ["self"] ["self"] (defScope s_Change_settled) := ⟨rfl, rfl, rfl, by decide +kernel, rfl, by decide +kernel, by decide +kernel⟩
set_option maxHeartbeats 1000000 in
theorem ok_Change_settled {f f_own_copy C_Change : Addr} {fd fd_own_copy : FuncData} (F : Fun K "settled" "Change.settled" s_Change_settled f fd)
    (G_own_copy : FnOk P w K mg base CX0 4 f_own_copy fd_own_copy ["value"] (sp_own_copy K)) (C_own_copy : Cal K mg "own_copy" f_own_copy fd_own_copy ["value"]) (T_Change : TChange K C_Change) (m_Change : mg "Change" = some (.ref C_Change)) : FnOk P w K mg base CX0 5 f fd ["self"] (sp_Change_settled K mg) := by
  refine F.ok sc_Change_settled (fun vs H Q E h => ?_) (fun cdv A outer s H vs Q E hr h => ?_)
  · obtain ⟨p, rfl, _⟩ := h
    rfl
  obtain ⟨p, rfl, h⟩ := h
  have hu64 := hr.units
  have hu0 := hr.units0
  have hu := hu_of hr
  refine ⟨_, (pss_one (ps_ret (pcall G_own_copy C_own_copy hr (pa_cons (pe_fldK (K := K) rfl (pv 0) rfl) pa_nil)))), ?_⟩
  obtain ⟨me, hd, b, d, kvs, S, kk⟩ := h
  obtain ⟨⟨C, dx, ba, eC, hp, hb⟩, hd', z0, z1⟩ := id S
  rw [m_Change] at eC
  cases eC
  obtain ⟨cl, n1, n2, n3, n4, n5, n6, n7⟩ := id T_Change
  clean_wf
  refine ⟨.non, rfl, .none, .non, fun H1 x' s1 p1 => ?_⟩
  cases p1
  clean_wf
  exact kk H1 s1
end
end K61


namespace K61
open PySem L2
abbrev s_Change_receive : Stmt := inClass (top 11) 3
section
variable {P : Program} {w : World} {K : PySem.W.Frag} {mg : Str → Option Value} {base : Heap}
def sp_Change_receive (K : PySem.W.Frag) (mg : Str → Option Value) : Sp := fun vs H Q _ => ∃ (p a : Addr), vs = [.ref p, .ref a] ∧ ∃ me hd b d kvs me' b' c, ChA K mg H p me hd b d kvs ∧ kvs.length ≤ 900 ∧ MsgA H a me' b' c ∧ me' ≠ me ∧ ∀ H' d' kvs', (∀ x o, x ≠ p → x ≠ d → H x = some o → H' x = some o) → ChA K mg H' p me hd (gtr b b') d' kvs' → kvs'.length ≤ kvs.length + 1 → (d' = d ∨ H d' = none) → Q .non H'
theorem sc_Change_receive : FnScope ["self", "message", "own"] ["self", "message"] (defScope s_Change_receive) := ⟨rfl, rfl, rfl, by decide +kernel, rfl, by decide +kernel, by decide +kernel⟩
set_option maxHeartbeats 2000000 in
theorem ok_Change_receive {f f_own_copy f_Change_see_ballot f_Change_see_yes f_Change_gathers f_Change_see_votes C_Change : Addr} {fd fd_own_copy fd_Change_see_ballot fd_Change_see_yes fd_Change_gathers fd_Change_see_votes : FuncData} (F : Fun K "receive" "Change.receive" s_Change_receive f fd)
    (G_own_copy : FnOk P w K mg base CX0 6 f_own_copy fd_own_copy ["value"] (sp_own_copy K)) (C_own_copy : Cal K mg "own_copy" f_own_copy fd_own_copy ["value"])
    (G_Change_see_ballot : FnOk P w K mg base CX0 6 f_Change_see_ballot fd_Change_see_ballot ["self", "ballot"] (sp_Change_see_ballot K mg)) (B_Change_see_ballot : Binds K fd_Change_see_ballot ["self", "ballot"] [])
    (G_Change_see_yes : FnOk P w K mg base CX0 6 f_Change_see_yes fd_Change_see_yes ["self", "yes", "votes"] (sp_Change_see_yes K)) (B_Change_see_yes : Binds K fd_Change_see_yes ["self", "yes", "votes"] [])
    (G_Change_gathers : FnOk P w K mg base CX0 6 f_Change_gathers fd_Change_gathers ["self"] (sp_Change_gathers K mg)) (B_Change_gathers : Binds K fd_Change_gathers ["self"] [])
    (G_Change_see_votes : FnOk P w K mg base CX0 6 f_Change_see_votes fd_Change_see_votes ["self"] (sp_Change_see_votes K mg)) (B_Change_see_votes : Binds K fd_Change_see_votes ["self"] []) (T_Change : TChange K C_Change) (m_Change : mg "Change" = some (.ref C_Change)) (mt_Change_gathers : Meth K C_Change "gathers" f_Change_gathers) (mt_Change_see_ballot : Meth K C_Change "see_ballot" f_Change_see_ballot) (mt_Change_see_votes : Meth K C_Change "see_votes" f_Change_see_votes) (mt_Change_see_yes : Meth K C_Change "see_yes" f_Change_see_yes) : FnOk P w K mg base CX0 7 f fd ["self", "message"] (sp_Change_receive K mg) := by
  refine F.ok sc_Change_receive (fun vs H Q E h => ?_) (fun cdv A outer s H vs Q E hr h => ?_)
  · obtain ⟨p, a, rfl, _⟩ := h
    rfl
  obtain ⟨p, a, rfl, h⟩ := h
  have hu64 := hr.units
  have hu0 := hr.units0
  have hu := hu_of hr
  refine ⟨_, (pss_cons (ps_if (pt_cmpR op_eq (pe_ix (ix_tupK (K := K) rfl) (pv 1) pe_int (fun _ _ => rfl)) (pe_fldK (K := K) rfl (pv 0) rfl) (nomark _)) (pss_one ps_retN) pss_nil)
      (pss_cons (ps_set (i := 2) sc_Change_receive.nd rfl (Or.inl rfl) (pcall G_own_copy C_own_copy hr (pa_cons (pv 1) pa_nil)))
      (pss_cons (ps_expr (pe_methS (MOk.cons T_Change.cl mt_Change_see_ballot G_Change_see_ballot B_Change_see_ballot MOk.nil) (pv 0) hr (pa_cons (pe_ix (ix_tupK (K := K) rfl) (pv 2) pe_int (fun _ _ => rfl)) pa_nil)))
      (pss_cons (ps_expr (pe_methS (MOk.cons T_Change.cl mt_Change_see_yes G_Change_see_yes B_Change_see_yes MOk.nil) (pv 0) hr (pa_cons (pe_ix (ix_tupK (K := K) rfl) (pv 2) pe_int (fun _ _ => rfl)) (pa_cons (pe_ix (ix_tupK (K := K) rfl) (pv 2) pe_int (fun _ _ => rfl)) pa_nil))))
      (pss_cons (ps_if (PW.pt (pw_and (pt_cmpR (op_eqK (K := K) rfl hu64) (pe_ix (ix_tupK (K := K) rfl) (pv 2) pe_int (fun _ _ => rfl)) (pe_fldK (K := K) rfl (pv 0) rfl) (nomark _)) (pw_and1 (pt_callK K rfl (pe_methS0 (MOk.cons T_Change.cl mt_Change_gathers G_Change_gathers B_Change_gathers MOk.nil) (pv 0) hr))))) (pss_one (ps_dput hu (pe_fldK (K := K) rfl (pv 0) rfl) (pe_ix (ix_tupK (K := K) rfl) (pv 2) pe_int (fun _ _ => rfl)) (pe_tup (pa_cons (pe_ix (ix_tupK (K := K) rfl) (pv 2) pe_int (fun _ _ => rfl)) (pa_cons (pe_ix (ix_tupK (K := K) rfl) (pv 2) pe_int (fun _ _ => rfl)) pa_nil))) rfl)) pss_nil)
      (pss_one (ps_expr (pe_methS0 (MOk.cons T_Change.cl mt_Change_see_votes G_Change_see_votes B_Change_see_votes MOk.nil) (pv 0) hr)))))))), ?_⟩
  obtain ⟨me, hd, b, d, kvs, me', b', c, S, lk, ⟨ba', hm, hb'⟩, ne, kk⟩ := h
  obtain ⟨⟨C, dx, ba, eC, hp, hb⟩, hd', z0, z1⟩ := id S
  rw [m_Change] at eC
  cases eC
  obtain ⟨cl, n1, n2, n3, n4, n5, n6, n7⟩ := id T_Change
  have sm := SqT.of (K := K) hm
  have a0 : atI [V.int me', ba', .non, .int 0, .int c] 0 = some (.int me') := by kernel_rfl
  refine x_seq ?_
  clean_wf
  refine ite2 (fun h1 => absurd (of_decide_eq_true h1) ne) fun _ => ?_
  clean_wf
  refine ⟨.ref a, rfl, msD me' b' c, msg_pl ⟨ba', hm, hb'⟩, fun H1 x' s1 p1 => ?_⟩
  obtain ⟨w, rfl, ba1, hw, hb1⟩ := pl_msg p1
  have S1 := S.same s1
  have hp1 := s1 _ _ hp
  have sw := SqT.of (K := K) hw
  have a1 : atI [V.int me', ba1, .non, .int 0, .int c] 1 = some ba1 := by kernel_rfl
  clean_wf
  refine ⟨p, ba1, rfl, me, hd, b, d, kvs, b', S1, hb1, fun H2 d2 kvs2 k2 S2 l2 w2 => ?_⟩
  have nwp : w ≠ p := ne_of hw hp1 (by intro z; cases z)
  have hw2 := k2 _ _ nwp hw
  have sw2 := SqT.of (K := K) hw2
  have hb2 : BaV H2 ba1 b' := hb1.up fun a xs e => k2 _ _ (ne_of e hp1 (by intro z; cases z)) e
  obtain ⟨⟨C2, dx2, ba2, eC2, hp2, hbb2⟩, hd2, _, _⟩ := id S2
  rw [m_Change] at eC2
  cases eC2
  have a2 : atI [V.int me', ba1, .non, .int 0, .int c] 2 = some .non := by kernel_rfl
  have a3 : atI [V.int me', ba1, .non, .int 0, .int c] 3 = some (.int 0) := by kernel_rfl
  have a4 : atI [V.int me', ba1, .non, .int 0, .int c] 4 = some (.int c) := by kernel_rfl
  have a0' : atI [V.int me', ba1, .non, .int 0, .int c] 0 = some (.int me') := by kernel_rfl
  have nd2 : ∀ x o, x ≠ d → H x = some o → x ≠ d2 := fun x o n e z => by
    rcases w2 with q | q
    · exact n (z.trans q)
    · rw [z] at e
      rw [s1 _ _ e] at q
      cases q
  have w2' : d2 = d ∨ H d2 = none := by
    rcases w2 with q | q
    · exact .inl q
    · exact .inr (s1.free q)
  clean_wf
  refine ⟨p, rfl, ?_⟩
  refine x_cut (fun σ' B => ∃ d3 kvs3, σ' = [some (.ref p), some (.ref a), some (.ref w)] ∧ (∀ x o, x ≠ p → x ≠ d → H x = some o → B x = some o) ∧ ChA K mg B p me hd (gtr b b') d3 kvs3 ∧ kvs3.length ≤ kvs.length + 1 ∧ (d3 = d ∨ H d3 = none)) ?_ fun N rest => ?_
  · rintro σ' B ⟨d3, kvs3, rfl, kB, S3, l3, w3⟩
    obtain ⟨⟨C3, dx3, ba3, eC3, hp3, hbb3⟩, hd3, _, _⟩ := id S3
    rw [m_Change] at eC3
    cases eC3
    clean_wf
    refine ⟨p, rfl, me, hd, _, d3, kvs3, S3, fun H5 s5 => ?_⟩
    clean_wf
    exact kk H5 d3 kvs3 (fun x o n1 n2 e => s5 _ _ (kB x o n1 n2 e)) (S3.same s5) l3 w3
  · have keep : ∀ x o, x ≠ p → x ≠ d → H x = some o → H2 x = some o := fun x o n1 _ e => k2 _ _ n1 (s1 _ _ e)
    clean_wf
    refine ⟨baD b', baD (gtr b b'), ba_dl hb2, ba_dl hbb2, ba_lay _, ba_lay _, by have := ba_dep b'; omega, ?_⟩
    clean_wf
    refine ite2 (fun h1 => ?_) fun h1 => ?_
    · clean_wf
      refine ⟨p, rfl, me, hd, _, d2, kvs2, S2, fun r => ?_⟩
      clean_wf
      refine ite2 (fun h2 => ?_) fun h2 => ?_
      · clean_wf
        intro t H3 ht s3 g3
        have hp3 := s3 _ _ hp2
        have sw3 := s3 _ _ hw2
        have sw3' := SqT.of (K := K) sw3
        have hd3 := s3 _ _ hd2
        clean_wf
        refine ⟨d2, _, rfl, .inl ⟨kvs2, Sum.inl me', hd3, rfl, small1000 (by omega), rfl⟩, ?_⟩
        have b4 : But d2 H3 (upd H3 d2 (.dK (putK kvs2 (Sum.inl me') (.ref t)))) := .upd
        have g4 : (upd H3 d2 (.dK (putK kvs2 (Sum.inl me') (.ref t)))) d2 = some (.dK (putK kvs2 (Sum.inl me') (.ref t))) := upd_same
        have lp := length_putK kvs2 (Sum.inl me' : Key) (.ref t)
        generalize upd H3 d2 (.dK (putK kvs2 (Sum.inl me') (.ref t))) = H4 at b4 g4 ⊢
        generalize putK kvs2 (Sum.inl me') (.ref t) = kv4 at g4 lp
        have kp : SmH H2 H4 := fun x xs e => b4.at (ne_of e hd2 (by intro z; cases z)) (s3 _ _ e)
        refine rest _ _ ⟨d2, kv4, rfl, fun x o n1 n2 e => b4.at (nd2 x o n2 e) (s3 _ _ (keep x o n1 n2 e)), ⟨⟨_, dx2, ba2, m_Change, b4.of hd3 hp3 (by intro z; cases z), hbb2.up kp⟩, g4, z0, z1⟩, by omega, w2'⟩
      · exact rest _ _ ⟨d2, kvs2, rfl, keep, S2, by omega, w2'⟩
    · clean_wf
      exact rest _ _ ⟨d2, kvs2, rfl, keep, S2, by omega, w2'⟩
end
end K61


namespace K61
open PySem L2
abbrev s__law_cell_at : Stmt := top 13
abbrev s__law_stream : Stmt := top 14
abbrev s__law_hands : Stmt := top 15
abbrev s__law_greater : Stmt := top 16
abbrev s__law_right : Stmt := top 17
abbrev s__law_step : Stmt := top 18
section
variable {P : Program} {w : World} {K : PySem.W.Frag} {mg : Str → Option Value} {base : Heap}
def sp__law_cell_at (K : PySem.W.Frag) : Sp := fun vs H Q _ => ∃ (a : Addr) (k : Int), vs = [.ref a, .int k] ∧ ∃ ns : List Int, SqL K H a (ns.map V.int) ∧ 0 ≤ k ∧ ∀ c : Int, Q (.int c) H
theorem sc__law_cell_at : FnScope ["_law_script", "_law_k"] ["_law_script", "_law_k"] (defScope s__law_cell_at) := ⟨rfl, rfl, rfl, by decide +kernel, rfl, by decide +kernel, by decide +kernel⟩
theorem ok__law_cell_at {f  : Addr} {fd  : FuncData} (F : Fun K "_law_cell_at" "_law_cell_at" s__law_cell_at f fd) (h_len : mg "len" = none) : FnOk P w K mg base CX0 1 f fd ["_law_script", "_law_k"] (sp__law_cell_at K) := by
  refine F.ok sc__law_cell_at (fun vs H Q E h => ?_) (fun cdv A outer s H vs Q E hr h => ?_)
  · obtain ⟨a, k, rfl, _⟩ := h
    rfl
  obtain ⟨a, k, rfl, h⟩ := h
  have hu64 := hr.units
  have hu0 := hr.units0
  have hu := hu_of hr
  refine ⟨_, (pss_cons (ps_if (pt_cmpR op_lt (pv 1) (pe_callB (call_lenK (K := K) rfl) (by rfl) h_len PySem.boot_len (pa_cons (pv 0) pa_nil)) (nomark _)) (pss_one (ps_ret (pe_ix (ix_listK (K := K) rfl) (pv 0) (pv 1) (fun _ _ => rfl)))) pss_nil)
      (pss_one (ps_ret pe_int))), ?_⟩
  obtain ⟨ns, hS, h0, q⟩ := h
  clean_wf
  refine ite2 (fun h1 => ?_) fun h1 => ?_
  · have h1 : k < ((ns.map V.int).length : Nat) := of_decide_eq_true h1
    rw [List.length_map] at h1
    have hx : k.toNat < ns.length := by omega
    have hat : atI (ns.map V.int) k = some (V.int ns[k.toNat]) := atI_int h0 (by rw [List.getElem?_map, List.getElem?_eq_getElem hx]; rfl)
    clean_wf
    exact q _
  · clean_wf
    exact q _
theorem cut1 (ns : List Int) : cutV (ns.map V.int) (some 1) none = (ns.drop 1).map V.int := by
  unfold cutV
  show ((ns.map V.int).drop (HT.sIx (ns.map V.int).length 0 (some 1))).take _ = _
  have e1 : HT.sIx (ns.map V.int).length 0 (some 1) = min 1 (ns.map V.int).length := by
    show (if (1 : Int) < 0 then ((1 : Int) + ((ns.map V.int).length : Nat)).toNat else min (1 : Int).toNat (ns.map V.int).length) = _
    rw [if_neg (by decide)]
    rfl
  have e2 : HT.sIx (ns.map V.int).length (ns.map V.int).length none = (ns.map V.int).length := rfl
  rw [e1, e2, List.map_drop]
  cases ns with
  | nil => rfl
  | cons x ns =>
    rw [List.map_cons, List.length_cons, show min 1 ((ns.map V.int).length + 1) = 1 by omega, List.drop_one, List.tail_cons]
    exact List.take_of_length_le (by omega)

def Mx (x : Int) : Prop := 0 ≤ x ∧ x < 2147483647
def sp__law_stream (K : PySem.W.Frag) : Sp := fun vs H Q _ => ∃ (c n : Int), vs = [.int c, .int n] ∧ 0 ≤ n ∧ n ≤ 100 ∧ ∀ H' l (xs : List Int), Same H H' → H l = none → H' l = some (.lst (xs.map V.int)) → xs.length = n.toNat → (∀ x ∈ xs, Mx x) → Q (.ref l) H'
theorem sc__law_stream : FnScope ["_law_cell", "_law_amount", "_law_found", "_law_number", "_law_k"] ["_law_cell", "_law_amount"] (defScope s__law_stream) := ⟨rfl, rfl, rfl, by decide +kernel, rfl, by decide +kernel, by decide +kernel⟩
set_option maxHeartbeats 1000000 in
theorem ok__law_stream {f  : Addr} {fd  : FuncData} (F : Fun K "_law_stream" "_law_stream" s__law_stream f fd) (h_range : mg "range" = none) : FnOk P w K mg base CX0 1 f fd ["_law_cell", "_law_amount"] (sp__law_stream K) := by
  refine F.ok sc__law_stream (fun vs H Q E h => ?_) (fun cdv A outer s H vs Q E hr h => ?_)
  · obtain ⟨c, n, rfl, _⟩ := h
    rfl
  obtain ⟨c, n, rfl, h⟩ := h
  have hu64 := hr.units
  have hu0 := hr.units0
  have hu := hu_of hr
  refine ⟨_, (pss_cons (ps_set (i := 2) sc__law_stream.nd rfl (Or.inl rfl) (pe_lst pa_nil))
      (pss_cons (ps_set (i := 3) sc__law_stream.nd rfl (Or.inl rfl) (pe_op op_add (pe_op op_mod (pv 0) pe_int) pe_int))
      (pss_cons (ps_for PassesOwn.never rfl (pi_range1 rfl h_range (pa_cons (pe_op op_add (pv 1) pe_int) pa_nil)) (pg_name (i := 4) sc__law_stream.nd rfl (Or.inl rfl))
      (pss_cons (ps_set (i := 3) sc__law_stream.nd rfl (Or.inl rfl) (pe_op op_mod (pe_op op_add (pe_op op_add (pe_op op_mul (pv 3) (pv 3)) (pe_op op_mul pe_int (pv 3))) (pv 4)) pe_int))
      (pss_one (ps_expr (pe_appendK (K := K) rfl (pe_bm PySem.F.plainAttrs_list PySem.F.slot_list_append PySem.F.type_list_append mt_append (pv 2) (pa_cons (pv 3) pa_nil)))))))
      (pss_one (ps_ret (pe_slice (sl_listK (K := K) rfl) (pv 2) (po_some pe_int) po_none)))))), ?_⟩
  obtain ⟨h0, h1, k⟩ := h
  clean_wf
  intro l H1 hl s1 g1
  clean_wf
  refine ⟨_, rfl, by omega, by omega, ?_⟩
  have c0 := Int.emod_nonneg c (show (2147483647 : Int) ≠ 0 by decide)
  have c1 := Int.emod_lt_of_pos c (show (0 : Int) < 2147483647 by decide)
  refine for_range (fun i σ H' => ∃ v num xs, σ = [some (.int c), some (.int n), some (.ref l), some (.int num), v] ∧ Same H H' ∧ H' l = some (.lst ((xs : List Int).map V.int)) ∧ xs.length = i ∧ (∀ x ∈ xs, Mx x) ∧ 0 ≤ num ∧ num < 4294967296)
    ⟨none, _, [], rfl, s1, g1, rfl, (fun _ z => nomatch z), by omega, by omega⟩ ?_ ?_
  · rintro i σ H' hi ⟨v, num, xs, rfl, sm, hl', lx, hm, n0, n1⟩
    have m1 : CMul num num := .inl ⟨by omega, by omega⟩
    have m2 : CMul 48271 num := .inl ⟨by decide, by decide⟩
    have le : (xs.map V.int).length ≤ 1000 := by rw [List.length_map]; omega
    have ls := small1000 le
    clean_wf
    intro H2 b2 g2
    have z0 := Int.emod_nonneg (num * num + 48271 * num + (0 + (i : Int))) (show (2147483647 : Int) ≠ 0 by decide)
    have z1 := Int.emod_lt_of_pos (num * num + 48271 * num + (0 + (i : Int))) (show (0 : Int) < 2147483647 by decide)
    refine ⟨_, _, xs ++ [(num * num + 48271 * num + (0 + (i : Int))) % 2147483647], rfl, b2.same sm hl, by rw [g2, List.map_append]; rfl, by rw [List.length_append, lx]; rfl, fun x hx => ?_, z0, by omega⟩
    rcases List.mem_append.mp hx with z | z
    · exact hm x z
    · rw [List.mem_singleton.mp z]
      exact ⟨z0, z1⟩
  rintro σ H' ⟨v, num, xs, rfl, sm, hl', lx, hm, n0, n1⟩
  clean_wf
  intro q H2 hq s2 g2
  rw [cut1] at g2
  refine k H2 q (xs.drop 1) (sm.trans s2) (sm.free hq) g2 (by rw [List.length_drop, lx]; omega) fun x hx => hm x (List.mem_of_mem_drop hx)
theorem any_int (ns : List Int) (h : Int) : ((ns.map PyData.int).any fun z => z.eqv (.int h)) = decide (h ∈ ns) := by
  rw [List.any_map, Bool.eq_iff_iff, List.any_eq_true, decide_eq_true_iff]
  constructor
  · rintro ⟨x, hx, e⟩
    have : x = h := by
      have e' : (x == h) = true := e
      exact eq_of_beq e'
    exact this ▸ hx
  · intro hh
    exact ⟨h, hh, beq_self_eq_true (a := h)⟩
theorem dps_ints {K : PySem.W.Frag} {H : Hp} : ∀ ns : List Int, Dps K H (ns.map V.int) (ns.map PyData.int)
  | [] => .nil
  | n :: ns => .cons (.int n) (dps_ints ns)
theorem lay_ints : ∀ ns : List Int, PyData.canLayAll0 (ns.map PyData.int) = true
  | [] => rfl
  | n :: ns => by rw [List.map_cons, PyData.canLayAll0.eq_2, lay_ints ns]; rfl
theorem x_ninI {K : PySem.W.Frag} {H : Hp} {Q : VK} {a : Addr} {ns : List Int} {h : Int} (ha : SqL K H a (ns.map V.int)) (q : Q (.bl (!decide (h ∈ ns))) H) : rInP K true (.int h) (.ref a) H Q :=
  ⟨a, _, _, _, rfl, .inl ha, dps_ints ns, .int h, lay_ints ns, rfl, by show 0 ≤ 60; decide, by rw [any_int]; exact q⟩
theorem sorted_hs {ms ns : List Int} (pm : ms.Perm ns) (so : ms.Pairwise (· ≤ ·)) (nd : ns.Nodup) (rg : ∀ x ∈ ns, 0 ≤ x ∧ x < 63) : Hs ms := by
  refine ⟨?_, fun x hx => rg x (pm.mem_iff.mp hx)⟩
  have n2 := pm.nodup_iff.mpr nd
  exact so.and n2 |>.imp fun ⟨a, b⟩ => by omega
theorem at_int {xs : List Int} {i : Nat} (h : i < xs.length) : atI (xs.map V.int) (i : Int) = some (V.int xs[i]) := atI_nat (by rw [List.getElem?_map, List.getElem?_eq_getElem h]; rfl)
def sp__law_hands (K : PySem.W.Frag) : Sp := fun vs H Q _ => ∃ (c : Int), vs = [.int c] ∧ ∀ H' l (a b : Int) (hs : List Int), Same H H' → H l = none → H' l = some (.lst ((a :: b :: hs).map V.int)) → (a :: b :: hs).Nodup → (∀ x ∈ a :: b :: hs, 0 ≤ x ∧ x < 63) → hs.length ≤ 6 → Q (.ref l) H'
theorem sc__law_hands : FnScope ["_law_cell", "_law_first", "_law_found", "_law_number"] ["_law_cell"] (defScope s__law_hands) := ⟨rfl, rfl, rfl, by decide +kernel, rfl, by decide +kernel, by decide +kernel⟩
set_option maxHeartbeats 1000000 in
theorem ok__law_hands {f f__law_stream : Addr} {fd fd__law_stream : FuncData} (F : Fun K "_law_hands" "_law_hands" s__law_hands f fd)
    (G__law_stream : FnOk P w K mg base CX0 1 f__law_stream fd__law_stream ["_law_cell", "_law_amount"] (sp__law_stream K)) (C__law_stream : Cal K mg "_law_stream" f__law_stream fd__law_stream ["_law_cell", "_law_amount"]) : FnOk P w K mg base CX0 2 f fd ["_law_cell"] (sp__law_hands K) := by
  refine F.ok sc__law_hands (fun vs H Q E h => ?_) (fun cdv A outer s H vs Q E hr h => ?_)
  · obtain ⟨c, rfl, _⟩ := h
    rfl
  obtain ⟨c, rfl, h⟩ := h
  have hu64 := hr.units
  have hu0 := hr.units0
  have hu := hu_of hr
  refine ⟨_, (pss_cons (ps_set (i := 1) sc__law_hands.nd rfl (Or.inl rfl) (pe_op op_mod (pv 0) pe_int))
      (pss_cons (ps_set (i := 2) sc__law_hands.nd rfl (Or.inl rfl) (pe_lst (pa_cons (pv 1) (pa_cons (pe_op op_add (pe_op op_add (pv 1) pe_int) (pe_op op_mod (pe_op op_fdiv (pv 0) pe_int) (pe_op op_sub pe_int (pv 1)))) pa_nil))))
      (pss_cons (ps_for PassesOwn.never rfl (pi_listK (K := K) rfl (pcall G__law_stream C__law_stream hr (pa_cons (pv 0) (pa_cons (pe_op op_mod (pe_op op_fdiv (pv 0) pe_int) pe_int) pa_nil)))) (pg_name (i := 3) sc__law_hands.nd rfl (Or.inl rfl))
      (pss_one (ps_if (pt_cmpR (op_ninK (K := K) rfl hu64) (pe_op op_mod (pv 3) pe_int) (pv 2) (by rfl)) (pss_one (ps_expr (pe_appendK (K := K) rfl (pe_bm PySem.F.plainAttrs_list PySem.F.slot_list_append PySem.F.type_list_append mt_append (pv 2) (pa_cons (pe_op op_mod (pv 3) pe_int) pa_nil))))) pss_nil)))
      (pss_one (ps_ret (pv 2)))))), ?_⟩
  have f0 := Int.emod_nonneg c (show (62 : Int) ≠ 0 by decide)
  have f1 := Int.emod_lt_of_pos c (show (0 : Int) < 62 by decide)
  have pz : (0 : Int) < 62 - c % 62 := by omega
  have g0 := Int.emod_nonneg (c / 62) (show (62 - c % 62 : Int) ≠ 0 by omega)
  have g1 := Int.emod_lt_of_pos (c / 62) pz
  have r0 := Int.emod_nonneg (c / 7) (show (6 : Int) ≠ 0 by decide)
  have r1 := Int.emod_lt_of_pos (c / 7) (show (0 : Int) < 6 by decide)
  clean_wf
  intro l H1 hl s1 gl
  clean_wf
  refine ⟨c, _, rfl, r0, by omega, fun H2 q xs s2 hq g2 lx hm => ?_⟩
  have nlq : q ≠ l := fun z => by rw [z] at hq; rw [hq] at gl; cases gl
  have gl2 := s2 _ _ gl
  refine ⟨_, rfl, ⟨_, SqL.of g2⟩, ?_⟩
  refine for_list (xs := xs.map V.int) (fun i σ H' => ∃ v ns, σ = [some (.int c), some (.int (c % 62)), some (.ref l), v] ∧ Same H H' ∧ H' q = some (.lst (xs.map V.int)) ∧ H' l = some (.lst ((c % 62 :: (c % 62 + 1 + c / 62 % (62 - c % 62)) :: ns : List Int).map V.int)) ∧ (c % 62 :: (c % 62 + 1 + c / 62 % (62 - c % 62)) :: ns : List Int).Nodup ∧ (∀ x ∈ (c % 62 :: (c % 62 + 1 + c / 62 % (62 - c % 62)) :: ns : List Int), 0 ≤ x ∧ x < 63) ∧ ns.length ≤ i)
    ⟨none, [], rfl, s1.trans s2, g2, gl2, ?_, ?_, Nat.le_refl _⟩ (fun i σ H' _ z => by obtain ⟨_, _, _, _, z, _⟩ := z; exact SqL.of z) ?_ ?_
  · simp
    omega
  · intro x hx
    simp at hx
    omega
  · rintro i x σ H' hx ⟨v, ns, rfl, sm, hq', hl', nd, rg, ln⟩
    obtain ⟨n, hn, rfl⟩ := int_get hx
    have hi := (List.getElem?_eq_some_iff.mp hn).1
    have b0 := Int.emod_nonneg n (show (63 : Int) ≠ 0 by decide)
    have b1 := Int.emod_lt_of_pos n (show (0 : Int) < 63 by decide)
    generalize eA : c % 62 = aa at *
    generalize eB : aa + 1 + c / 62 % (62 - aa) = bb at *
    have le : ((aa :: bb :: ns).map V.int).length ≤ 1000 := by rw [List.length_map, List.length_cons, List.length_cons]; omega
    have ls := small1000 le
    clean_wf
    refine x_ninI (SqL.of hl') ?_
    clean_wf
    refine ite2 (fun h1 => ?_) fun h1 => ?_
    · have h1 : n % 63 ∉ aa :: bb :: ns := by
        intro z
        rw [decide_eq_true z] at h1
        cases h1
      clean_wf
      intro H3 b3 g3
      refine ⟨_, ns ++ [n % 63], rfl, b3.same sm hl, b3.at nlq hq', by rw [g3]; simp, ?_, fun x hx => ?_, by rw [List.length_append]; exact Nat.succ_le_succ ln⟩
      · show ((aa :: bb :: ns) ++ [n % 63]).Nodup
        rw [List.nodup_append]
        refine ⟨nd, by simp, fun a ha b hb => ?_⟩
        rw [List.mem_singleton.mp hb]
        intro z
        exact h1 (z ▸ ha)
      · have hx : x ∈ (aa :: bb :: ns) ++ [n % 63] := hx
        rcases List.mem_append.mp hx with z | z
        · exact rg x z
        · rw [List.mem_singleton.mp z]
          exact ⟨b0, b1⟩
    · exact ⟨_, ns, rfl, sm, hq', hl', nd, rg, by omega⟩
  rintro σ H' ⟨v, ns, rfl, sm, hq', hl', nd, rg, ln⟩
  rw [List.length_map, lx] at ln
  clean_wf
  exact h H' l _ _ ns sm hl hl' nd rg (by omega)
def sp__law_greater (K : PySem.W.Frag) : Sp := fun vs H Q _ => ∃ x y, vs = [x, y] ∧ ∃ b c, BaV H x b ∧ BaV H y c ∧ ∀ z, BaV H z (gtr b c) → Q z H
theorem sc__law_greater : FnScope ["_law_one", "_law_other"] ["_law_one", "_law_other"] (defScope s__law_greater) := ⟨rfl, rfl, rfl, by decide +kernel, rfl, by decide +kernel, by decide +kernel⟩
set_option maxHeartbeats 1000000 in
theorem ok__law_greater {f  : Addr} {fd  : FuncData} (F : Fun K "_law_greater" "_law_greater" s__law_greater f fd) : FnOk P w K mg base CX0 1 f fd ["_law_one", "_law_other"] (sp__law_greater K) := by
  refine F.ok sc__law_greater (fun vs H Q E h => ?_) (fun cdv A outer s H vs Q E hr h => ?_)
  · obtain ⟨x, y, rfl, _⟩ := h
    rfl
  obtain ⟨x, y, rfl, h⟩ := h
  have hu64 := hr.units
  have hu0 := hr.units0
  have hu := hu_of hr
  refine ⟨_, (pss_cons (ps_if (pt_cmpR op_isN (pv 0) pe_non (nomark _)) (pss_one (ps_ret (pv 1))) pss_nil)
      (pss_cons (ps_if (pt_cmpR op_isN (pv 1) pe_non (nomark _)) (pss_one (ps_ret (pv 0))) pss_nil)
      (pss_cons (ps_if (PW.pt (pw_or (pt_cmpR op_gt (pe_ix (ix_tupK (K := K) rfl) (pv 1) pe_int (fun _ _ => rfl)) (pe_ix (ix_tupK (K := K) rfl) (pv 0) pe_int (fun _ _ => rfl)) (nomark _)) (pw_or1 (PW.pt (pw_and (pt_cmpR op_eq (pe_ix (ix_tupK (K := K) rfl) (pv 1) pe_int (fun _ _ => rfl)) (pe_ix (ix_tupK (K := K) rfl) (pv 0) pe_int (fun _ _ => rfl)) (nomark _)) (pw_and1 (pt_cmpR op_gt (pe_ix (ix_tupK (K := K) rfl) (pv 1) pe_int (fun _ _ => rfl)) (pe_ix (ix_tupK (K := K) rfl) (pv 0) pe_int (fun _ _ => rfl)) (nomark _)))))))) (pss_one (ps_ret (pv 1))) pss_nil)
      (pss_one (ps_ret (pv 0)))))), ?_⟩
  obtain ⟨b, c, hb, hc, kk⟩ := h
  cases b with
  | none =>
    obtain rfl : x = .non := hb
    have e : gtr none c = c := by
      cases c with
      | none => rfl
      | some q => rfl
    rw [e] at kk
    clean_wf
    rw [show decide (V.non = V.non) = true from decide_eq_true rfl]
    clean_wf
    exact kk y hc
  | some q =>
    obtain ⟨t, rfl, ht⟩ := id hb
    cases c with
    | none =>
      obtain rfl : y = .non := hc
      have e : gtr (some q) none = some q := rfl
      rw [e] at kk
      clean_wf
      rw [show decide (V.ref t = V.non) = false from decide_eq_false (by intro z; cases z)]
      clean_wf
      rw [show decide (V.non = V.non) = true from decide_eq_true rfl]
      clean_wf
      exact kk _ hb
    | some r =>
      obtain ⟨u, rfl, hv⟩ := id hc
      have st := SqT.of (K := K) ht
      have su := SqT.of (K := K) hv
      have q0 : atI [V.int q.1, V.int q.2] 0 = some (.int q.1) := by kernel_rfl
      have q1 : atI [V.int q.1, V.int q.2] 1 = some (.int q.2) := by kernel_rfl
      have r0 : atI [V.int r.1, V.int r.2] 0 = some (.int r.1) := by kernel_rfl
      have r1 : atI [V.int r.1, V.int r.2] 1 = some (.int r.2) := by kernel_rfl
      have eg : bgt (some r) (some q) = if q.1 = r.1 then (if q.2 = r.2 then false else decide (q.2 < r.2)) else decide (q.1 < r.1) := by
        show HT.lexLt [q.1, q.2] [r.1, r.2] = _
        rw [HT.lexLt_cons, HT.lexLt_cons, HT.lexLt_nil_nil]
      have yes : bgt (some r) (some q) = true → ∀ z, BaV H z (some r) → Q z H := fun z w hw => kk w (by unfold gtr; rw [if_pos z]; exact hw)
      have no : ¬ bgt (some r) (some q) = true → ∀ z, BaV H z (some q) → Q z H := fun z w hw => kk w (by unfold gtr; rw [if_neg z]; exact hw)
      rw [eg] at yes no
      clean_wf
      rw [show decide (V.ref t = V.non) = false from decide_eq_false (by intro z; cases z)]
      clean_wf
      rw [show decide (V.ref u = V.non) = false from decide_eq_false (by intro z; cases z)]
      clean_wf
      refine ite2 (fun h1 => ?_) fun h1 => ?_
      · have h1 := of_decide_eq_true h1
        clean_wf
        exact yes (by rw [if_neg (by omega)]; exact decide_eq_true (by omega)) _ hc
      · have h1 : ¬ _ := fun z => h1 (decide_eq_true z)
        clean_wf
        refine ite2 (fun h2 => ?_) fun h2 => ?_
        · have h2 := of_decide_eq_true h2
          clean_wf
          refine ite2 (fun h3 => ?_) fun h3 => ?_
          · have h3 := of_decide_eq_true h3
            clean_wf
            exact yes (by rw [if_pos (by omega), if_neg (by omega)]; exact decide_eq_true (by omega)) _ hc
          · have h3 : ¬ _ := fun z => h3 (decide_eq_true z)
            clean_wf
            refine no ?_ _ hb
            rw [if_pos (by omega)]
            split
            · exact fun z => nomatch z
            · intro z; have := of_decide_eq_true z; omega
        · have h2 : ¬ _ := fun z => h2 (decide_eq_true z)
          clean_wf
          refine no ?_ _ hb
          rw [if_neg (by omega)]
          intro z
          have := of_decide_eq_true z
          omega
def sp__law_right (K : PySem.W.Frag) (mg : Str → Option Value) : Sp := fun vs H Q _ => ∃ (p : Addr) (x : V), vs = [.ref p, x] ∧ ∃ me hd b d kvs, ChA K mg H p me hd b d kvs ∧ BaV H x b ∧ ∀ H', Same H H' → Q (.bl true) H'
theorem sc__law_right : FnScope ["_law_change", "_law_ballot", "_law_found", "_law_part"] ["_law_change", "_law_ballot"] (defScope s__law_right) := ⟨rfl, rfl, rfl, by decide +kernel, rfl, by decide +kernel, by decide +kernel⟩
set_option maxHeartbeats 1000000 in
theorem ok__law_right {f f_Change_settled C_Change : Addr} {fd fd_Change_settled : FuncData} (F : Fun K "_law_right" "_law_right" s__law_right f fd)
    (G_Change_settled : FnOk P w K mg base CX0 5 f_Change_settled fd_Change_settled ["self"] (sp_Change_settled K mg)) (B_Change_settled : Binds K fd_Change_settled ["self"] []) (h_bool : mg "bool" = none) (h_int : mg "int" = none) (h_isinstance : mg "isinstance" = none) (h_len : mg "len" = none) (h_tuple : mg "tuple" = none) (T_Change : TChange K C_Change) (m_Change : mg "Change" = some (.ref C_Change)) (mt_Change_settled : Meth K C_Change "settled" f_Change_settled) : FnOk P w K mg base CX0 6 f fd ["_law_change", "_law_ballot"] (sp__law_right K mg) := by
  refine F.ok sc__law_right (fun vs H Q E h => ?_) (fun cdv A outer s H vs Q E hr h => ?_)
  · obtain ⟨p, x, rfl, _⟩ := h
    rfl
  obtain ⟨p, x, rfl, h⟩ := h
  have hu64 := hr.units
  have hu0 := hr.units0
  have hu := hu_of hr
  refine ⟨_, (pss_cons (ps_set (i := 2) sc__law_right.nd rfl (Or.inl rfl) (pe_fldK (K := K) rfl (pv 0) rfl))
      (pss_cons (ps_if (pt_cmpR op_isN (pv 1) pe_non (nomark _)) (pss_one (ps_ret (pe_and (pe_cmpR op_isN (pv 2) pe_non (nomark _)) (pe_and (pe_cmpR op_isN (pe_fldK (K := K) rfl (pv 0) rfl) pe_non (nomark _)) (pe_and (pe_cmpR op_eq (pe_fldK (K := K) rfl (pv 0) rfl) pe_int (nomark _)) (pe_one (pe_cmpR op_isN (pe_methS0 (MOk.cons T_Change.cl mt_Change_settled G_Change_settled B_Change_settled MOk.nil) (pv 0) hr) pe_non (nomark _)))))))) pss_nil)
      (pss_cons (ps_if (PW.pt (pw_or (pt_not (pt_callK K rfl (pe_callB (call_isiK (K := K) rfl) (by rfl) h_isinstance PyProof.Rows.boot_isinstance (pa_cons (pv 2) (pa_cons (pe_type h_tuple PyProof.Rows.boot_tuple) pa_nil))))) (pw_or1 (pt_cmpR op_ne (pe_callB (call_lenK (K := K) rfl) (by rfl) h_len PySem.boot_len (pa_cons (pv 2) pa_nil)) pe_int (nomark _))))) (pss_one (ps_ret pe_bl)) pss_nil)
      (pss_cons (ps_for PassesOwn.never rfl (pi_tupK (K := K) rfl (pv 2)) (pg_name (i := 3) sc__law_right.nd rfl (Or.inl rfl))
      (pss_one (ps_if (PW.pt (pw_or (pt_not (pt_callK K rfl (pe_callB (call_isiK (K := K) rfl) (by rfl) h_isinstance PyProof.Rows.boot_isinstance (pa_cons (pv 3) (pa_cons (pe_type h_int PyProof.Rows.boot_int) pa_nil))))) (pw_or1 (pt_callK K rfl (pe_callB (call_isiK (K := K) rfl) (by rfl) h_isinstance PyProof.Rows.boot_isinstance (pa_cons (pv 3) (pa_cons (pe_type h_bool PyProof.Rows.boot_bool) pa_nil))))))) (pss_one (ps_ret pe_bl)) pss_nil)))
      (pss_one (ps_ret (pe_and (pe_cmpR (op_eqK (K := K) rfl hu64) (pv 2) (pv 1) (nomark _)) (pe_and (pe_cmpR op_isN (pe_fldK (K := K) rfl (pv 0) rfl) pe_non (nomark _)) (pe_and (pe_cmpR op_eq (pe_fldK (K := K) rfl (pv 0) rfl) pe_int (nomark _)) (pe_one (pe_cmpR op_isN (pe_methS0 (MOk.cons T_Change.cl mt_Change_settled G_Change_settled B_Change_settled MOk.nil) (pv 0) hr) pe_non (nomark _)))))))))))), ?_⟩
  obtain ⟨me, hd, b, d, kvs, S, hx, kk⟩ := h
  obtain ⟨⟨C, dx, ba, eC, hp, hb⟩, hd', z0, z1⟩ := id S
  rw [m_Change] at eC
  cases eC
  obtain ⟨cl, n1, n2, n3, n4, n5, n6, n7⟩ := id T_Change
  have nn : decide (V.non = V.non) = true := decide_eq_true rfl
  cases b with
  | none =>
    obtain rfl : ba = .non := hb
    obtain rfl : x = .non := hx
    clean_wf
    rw [nn]
    clean_wf
    rw [nn]
    clean_wf
    rw [nn]
    clean_wf
    rw [show decide ((0 : Int) = 0) = true from decide_eq_true rfl]
    clean_wf
    refine ⟨p, rfl, me, hd, _, d, kvs, S, fun H1 s1 => ?_⟩
    clean_wf
    rw [nn]
    exact kk H1 s1
  | some q =>
    obtain ⟨t, rfl, ht⟩ := id hb
    obtain ⟨u, rfl, hv⟩ := id hx
    have st := SqT.of (K := K) ht
    clean_wf
    rw [show decide (V.ref u = V.non) = false from decide_eq_false (by intro z; cases z)]
    clean_wf
    refine ⟨_, _, _, true, rfl, .tup ht, (by kernel_rfl), ?_⟩
    clean_wf
    refine ite2 (fun z => by cases z) fun _ => ?_
    clean_wf
    refine for_tup (xs := [V.int q.1, V.int q.2]) (fun i σ A => H = A ∧ ∃ v3, σ = [some (.ref p), some (.ref u), some (.ref t), v3]) ⟨rfl, none, rfl⟩ (fun i σ A _ z => by rw [← z.1]; exact st) ?_ ?_
    · rintro i y σ _ hy ⟨rfl, v3, rfl⟩
      obtain ⟨j, rfl⟩ : ∃ j, y = .int j := by
        match i, hy with
        | 0, hy => exact ⟨q.1, (Option.some.inj hy).symm⟩
        | 1, hy => exact ⟨q.2, (Option.some.inj hy).symm⟩
      clean_wf
      refine ⟨_, _, _, true, rfl, .int _, (by kernel_rfl), ?_⟩
      clean_wf
      refine ⟨_, _, _, false, rfl, .int _, (by kernel_rfl), ?_⟩
      clean_wf
      exact ⟨rfl, _, rfl⟩
    rintro σ _ ⟨rfl, v3, rfl⟩
    clean_wf
    refine rEqP_refl (d := baD (some q)) (ba_dl hb) (ba_dl hx) (ba_lay _) (ba_dep _) ?_
    clean_wf
    rw [nn]
    clean_wf
    rw [show decide ((0 : Int) = 0) = true from decide_eq_true rfl]
    clean_wf
    refine ⟨p, rfl, me, hd, _, d, kvs, S, fun H1 s1 => ?_⟩
    clean_wf
    rw [nn]
    exact kk H1 s1
def sp__law_step (K : PySem.W.Frag) : Sp := fun vs H Q _ => ∃ (a : Addr), vs = [.ref a] ∧ ∃ xs : List Int, SqL K H a (xs.map V.int) ∧ xs.length = 5 ∧ ∀ H' k, Same H H' → Q (.int k) H'
theorem sc__law_step : FnScope ["_law_xs"] ["_law_xs"] (defScope s__law_step) := ⟨rfl, rfl, rfl, by decide +kernel, rfl, by decide +kernel, by decide +kernel⟩
set_option maxHeartbeats 1000000 in
theorem ok__law_step {f  : Addr} {fd  : FuncData} (F : Fun K "_law_step" "_law_step" s__law_step f fd) : FnOk P w K mg base CX0 1 f fd ["_law_xs"] (sp__law_step K) := by
  refine F.ok sc__law_step (fun vs H Q E h => ?_) (fun cdv A outer s H vs Q E hr h => ?_)
  · obtain ⟨a, rfl, _⟩ := h
    rfl
  obtain ⟨a, rfl, h⟩ := h
  have hu64 := hr.units
  have hu0 := hr.units0
  have hu := hu_of hr
  refine ⟨_, (pss_one (ps_ret (pe_op op_add pe_int (pe_op op_mod (pe_ix (ix_listK (K := K) rfl) (pv 0) pe_int (fun _ _ => rfl)) (pe_ix (ix_listK (K := K) rfl) (pe_lst (pa_cons pe_int (pa_cons pe_int (pa_cons pe_int (pa_cons (pe_op op_pow pe_int pe_int) pa_nil))))) (pe_op op_mod (pe_ix (ix_listK (K := K) rfl) (pv 0) pe_int (fun _ _ => rfl)) pe_int) (fun _ _ => rfl)))))), ?_⟩
  obtain ⟨xs, hS, lx, kk⟩ := h
  have at1 := at_int (xs := xs) (i := 1) (by omega)
  have at2 := at_int (xs := xs) (i := 2) (by omega)
  have p9 : (0 : Int) < 10 ^ Int.toNat 9 := by decide +kernel
  clean_wf
  intro l H1 hl s1 g1
  have hS1 := s1.seq hS
  have sl := SqL.of (K := K) g1
  obtain ⟨z, hz, zp⟩ : ∃ z : Int, atI [V.int 1, V.int 3, V.int 1, V.int (10 ^ Int.toNat 9)] (xs[2] % 4) = some (.int z) ∧ 0 < z := by
    have h0 := Int.emod_nonneg xs[2] (show (4 : Int) ≠ 0 by decide)
    have h1 := Int.emod_lt_of_pos xs[2] (show (0 : Int) < 4 by decide)
    rcases (show xs[2] % 4 = 0 ∨ xs[2] % 4 = 1 ∨ xs[2] % 4 = 2 ∨ xs[2] % 4 = 3 by omega) with e | e | e | e <;> rw [e]
    · exact ⟨1, by kernel_rfl, by decide⟩
    · exact ⟨3, by kernel_rfl, by decide⟩
    · exact ⟨1, by kernel_rfl, by decide⟩
    · exact ⟨10 ^ Int.toNat 9, by kernel_rfl, p9⟩
  clean_wf
  exact kk H1 _ s1
end
end K61


namespace K61
open PySem L2
section
variable {P : Program} {w : World} {K : PySem.W.Frag} {mg : Str → Option Value} {base : Heap}
def fset {α : Type} (f : Nat → α) (i : Nat) (v : α) : Nat → α := fun j => if j = i then v else f j
theorem fset_eq {α : Type} {f : Nat → α} {i : Nat} {v : α} : fset f i v i = v := if_pos rfl
theorem fset_ne {α : Type} {f : Nat → α} {i j : Nat} {v : α} (h : j ≠ i) : fset f i v j = f j := if_neg h
theorem set_two {α : Type} {W : Nat → α} {i : Nat} (hi : i < 2) {v : α} : ((List.range 2).map W).set i v = (List.range 2).map (fset W i v) := by
  match i, hi with
  | 0, _ => rfl
  | 1, _ => rfl
theorem rng_at {g : Nat → V} {n i : Nat} (h : i < n) : atI ((List.range n).map g) (i : Int) = some (g i) := atI_nat (by rw [List.getElem?_map, List.getElem?_range h]; rfl)
theorem rng_at' {g : Nat → V} {n : Nat} {j : Int} (h0 : 0 ≤ j) (h : j.toNat < n) : atI ((List.range n).map g) j = some (g j.toNat) := by
  have := rng_at (g := g) h
  rw [show ((j.toNat : Nat) : Int) = j by omega] at this
  exact this

structure Two (K : PySem.W.Frag) (mg : Str → Option Value) (H : Hp) (p : Nat → Addr) (me : Nat → Int) (hd : Int) (b : Nat → Option (Int × Int)) (d : Nat → Addr) (kv : Nat → List (Key × V)) (n : Nat) : Prop where
  ch : ∀ i, i < 2 → ChA K mg H (p i) (me i) hd (b i) (d i) (kv i)
  ln : ∀ i, i < 2 → (kv i).length ≤ n + 1
  ne : ∀ i j, i < 2 → j < 2 → i ≠ j → p i ≠ p j
  nd : ∀ i j, i < 2 → j < 2 → i ≠ j → d i ≠ d j
theorem Two.same {H H' : Hp} {p d : Nat → Addr} {me : Nat → Int} {hd : Int} {b : Nat → Option (Int × Int)} {kv : Nat → List (Key × V)} {n : Nat} (t : Two K mg H p me hd b d kv n) (s : Same H H') : Two K mg H' p me hd b d kv n := ⟨fun i hi => (t.ch i hi).same s, t.ln, t.ne, t.nd⟩
theorem Two.but {H H' : Hp} {p d : Nat → Addr} {me : Nat → Int} {hd : Int} {b : Nat → Option (Int × Int)} {kv : Nat → List (Key × V)} {n : Nat} (t : Two K mg H p me hd b d kv n) {a : Addr} {xs : List V} (ha : H a = some (.lst xs)) (s : But a H H') : Two K mg H' p me hd b d kv n :=
  ⟨fun i hi => (t.ch i hi).up (fun o e => s.at (by
      obtain ⟨C, dx, ba, _, e2, _⟩ := (t.ch i hi).ob
      exact ne_of e2 ha (by intro z; cases z)) e) (fun o e => s.at (ne_of (t.ch i hi).dc ha (by intro z; cases z)) e) (SmH.but s ha (by intro _ z; cases z)), t.ln, t.ne, t.nd⟩
theorem Two.mono {H : Hp} {p d : Nat → Addr} {me : Nat → Int} {hd : Int} {b : Nat → Option (Int × Int)} {kv : Nat → List (Key × V)} {n : Nat} (t : Two K mg H p me hd b d kv n) : Two K mg H p me hd b d kv (n + 1) := ⟨t.ch, fun i hi => by have := t.ln i hi; omega, t.ne, t.nd⟩
theorem Two.step {H H' : Hp} {p d : Nat → Addr} {me : Nat → Int} {hd : Int} {b : Nat → Option (Int × Int)} {kv : Nat → List (Key × V)} {n i : Nat} {b' : Option (Int × Int)} {d' : Addr} {kv' : List (Key × V)} (t : Two K mg H p me hd b d kv n) (hi : i < 2)
    (fr : ∀ x o, x ≠ p i → x ≠ d i → H x = some o → H' x = some o) (c : ChA K mg H' (p i) (me i) hd b' d' kv') (lk : kv'.length ≤ n + 2) (w : d' = d i ∨ H d' = none) : Two K mg H' p me hd (fset b i b') (fset d i d') (fset kv i kv') (n + 1) := by
  obtain ⟨C, dx, ba, c1, c2, c3⟩ := (t.ch i hi).ob
  have cd := (t.ch i hi).dc
  have dne : ∀ j, j < 2 → j ≠ i → d' ≠ d j := fun j hj z w2 => by
    rcases w with q | q
    · exact t.nd i j hi hj (fun u => z u.symm) (q.symm.trans w2)
    · rw [w2, (t.ch j hj).dc] at q; cases q
  refine ⟨fun j hj => ?_, fun j hj => ?_, t.ne, fun j k hj hk ne => ?_⟩
  · by_cases z : j = i
    · rw [z, fset_eq, fset_eq, fset_eq]; exact c
    · rw [fset_ne z, fset_ne z, fset_ne z]
      obtain ⟨C2, dx2, ba2, e1, e2, e3⟩ := (t.ch j hj).ob
      exact (t.ch j hj).up (fun o e => fr _ o (t.ne j i hj hi z) (ne_of e2 cd (by intro z; cases z)) e) (fun o e => fr _ o (ne_of (t.ch j hj).dc c2 (by intro z; cases z)) (t.nd j i hj hi z) e) (fun a xs e => fr _ _ (ne_of e c2 (by intro z; cases z)) (ne_of e cd (by intro z; cases z)) e)
  · by_cases z : j = i
    · rw [z, fset_eq]; exact lk
    · rw [fset_ne z]; have := t.ln j hj; omega
  · by_cases z : j = i
    · rw [z, fset_eq, fset_ne (fun u => ne (z.trans u.symm))]
      exact dne k hk (fun u => ne (z.trans u.symm))
    · rw [fset_ne z]
      by_cases w2 : k = i
      · rw [w2, fset_eq]; exact fun u => dne j hj z u.symm
      · rw [fset_ne w2]; exact t.nd j k hj hk ne

def MlA (H : Hp) (me : Int) (ys : List V) : Prop := ∀ y ∈ ys, ∃ t a w b c, y = .ref t ∧ H t = some (.tup [.ref a, w]) ∧ MsgA H a me b c ∧ BaV H w b
theorem MlA.up {H H' : Hp} (s : SmH H H') {me : Int} {ys : List V} (h : MlA H me ys) : MlA H' me ys := fun y hy => by
  obtain ⟨t, a, w, b, c, e1, e2, e3, e4⟩ := h y hy
  exact ⟨t, a, w, b, c, e1, s _ _ e2, e3.up s, e4.up s⟩
theorem tupLay {ds : List PyData} (h : PyData.canLayAll0 ds = true) : (PyData.tuple ds).canLay0 = true := by
  first | (rw [PyData.canLay0.eq_5]; exact h) | (rw [PyData.canLay0.eq_6]; exact h) | (rw [PyData.canLay0.eq_7]; exact h)
theorem ba_dp {K : PySem.W.Frag} {H : Hp} {v : V} {b : Option (Int × Int)} (h : BaV H v b) : Dp K H v (baD b) := by
  cases b with
  | none => obtain rfl : v = .non := h; exact .none
  | some q => obtain ⟨t, rfl, g⟩ := h; exact .tup (SqT.of g) (.cons (.int _) (.cons (.int _) .nil))
theorem ml_dps {K : PySem.W.Frag} {H : Hp} {me : Int} : ∀ {ys : List V}, MlA H me ys → ∃ ds, Dps K H ys ds ∧ PyData.canLayAll0 ds = true ∧ ds.length = ys.length
  | [], _ => ⟨[], .nil, rfl, rfl⟩
  | y :: ys, h => by
    obtain ⟨ds, h1, h2, h3⟩ := ml_dps (ys := ys) fun z hz => h z (List.mem_cons_of_mem _ hz)
    obtain ⟨t, a, w, b, c, rfl, e2, ⟨ba, e3, e4⟩, e5⟩ := h y List.mem_cons_self
    refine ⟨.tuple [msD me b c, baD b] :: ds, .cons (.tup (SqT.of e2) (.cons (.tup (SqT.of e3) (.cons (.int _) (.cons (ba_dp e4) (.cons .none (.cons (.int _) (.cons (.int _) .nil)))))) (.cons (ba_dp e5) .nil))) h1, ?_, by rw [List.length_cons, List.length_cons, h3]⟩
    have m1 : (msD me b c).canLay0 = true := by
      unfold msD
      refine tupLay ?_
      rw [PyData.canLayAll0.eq_2, PyData.canLayAll0.eq_2, ba_lay]
      rfl
    have m2 : (PyData.tuple [msD me b c, baD b]).canLay0 = true := by
      refine tupLay ?_
      rw [PyData.canLayAll0.eq_2, PyData.canLayAll0.eq_2, m1, ba_lay]
      rfl
    rw [PyData.canLayAll0.eq_2, m2, h2]
    rfl

structure Ss (K : PySem.W.Frag) (mg : Str → Option Value) (H : Hp) (hl cl bo ml : Addr) (p m : Nat → Addr) (me : Nat → Int) (hd : Int) (hs : List Int) (b : Nat → Option (Int × Int)) (d : Nat → Addr) (kv : Nat → List (Key × V)) (W : Nat → V) (ys : Nat → List V) (n : Nat) : Prop where
  tw : Two K mg H p me hd b d kv n
  gh : H hl = some (.lst ((me 0 :: me 1 :: hs).map V.int))
  gc : H cl = some (.lst ((List.range 2).map fun i => V.ref (p i)))
  gb : H bo = some (.lst ((List.range 2).map W))
  gm : H ml = some (.lst ((List.range 2).map fun i => V.ref (m i)))
  gy : ∀ i, i < 2 → H (m i) = some (.lst (ys i))
  wb : ∀ i, i < 2 → BaV H (W i) (b i)
  my : ∀ i, i < 2 → MlA H (me i) (ys i)
  ly : ∀ i, i < 2 → (ys i).length ≤ n
structure Sd (hl cl bo ml : Addr) (m : Nat → Addr) : Prop where
  b1 : bo ≠ hl
  b2 : bo ≠ cl
  b3 : bo ≠ ml
  b4 : ∀ i, i < 2 → bo ≠ m i
  m1 : ∀ i, i < 2 → m i ≠ hl
  m2 : ∀ i, i < 2 → m i ≠ cl
  m3 : ∀ i, i < 2 → m i ≠ ml
  m4 : ∀ i j, i < 2 → j < 2 → i ≠ j → m i ≠ m j
section
variable {H H' : Hp} {hl cl bo ml : Addr} {p m d : Nat → Addr} {me : Nat → Int} {hd : Int} {hs : List Int} {b : Nat → Option (Int × Int)} {kv : Nat → List (Key × V)} {W : Nat → V} {ys : Nat → List V} {n i : Nat}
theorem Ss.same (s : Ss K mg H hl cl bo ml p m me hd hs b d kv W ys n) (e : Same H H') : Ss K mg H' hl cl bo ml p m me hd hs b d kv W ys n :=
  ⟨s.tw.same e, e _ _ s.gh, e _ _ s.gc, e _ _ s.gb, e _ _ s.gm, fun i hi => e _ _ (s.gy i hi), fun i hi => (s.wb i hi).up (.same e), fun i hi => (s.my i hi).up (.same e), s.ly⟩
theorem Ss.mono (s : Ss K mg H hl cl bo ml p m me hd hs b d kv W ys n) : Ss K mg H hl cl bo ml p m me hd hs b d kv W ys (n + 1) :=
  ⟨s.tw.mono, s.gh, s.gc, s.gb, s.gm, s.gy, s.wb, s.my, fun i hi => Nat.le_succ_of_le (s.ly i hi)⟩
theorem Ss.step {H1 H2 : Hp} {b' : Option (Int × Int)} {d' : Addr} {kv' : List (Key × V)} {v : V} (D : Sd hl cl bo ml m) (s : Ss K mg H hl cl bo ml p m me hd hs b d kv W ys n) (hi : i < 2) (fr : ∀ x o, x ≠ p i → x ≠ d i → H x = some o → H' x = some o)
    (c : ChA K mg H' (p i) (me i) hd b' d' kv') (lk : kv'.length ≤ n + 2) (w : d' = d i ∨ H d' = none) (e1 : Same H' H1) (bt : But bo H1 H2) (g2 : H2 bo = some (.lst (((List.range 2).map W).set i v))) (hv : BaV H2 v b') :
    Ss K mg H2 hl cl bo ml p m me hd hs (fset b i b') (fset d i d') (fset kv i kv') (fset W i v) ys (n + 1) := by
  obtain ⟨C, dx, ba, c1, c2, c3⟩ := (s.tw.ch i hi).ob
  have cd := (s.tw.ch i hi).dc
  have kl : ∀ {a : Addr} {xs : List V}, H a = some (.lst xs) → H1 a = some (.lst xs) := fun e => e1 _ _ (fr _ _ (ne_of e c2 (by intro z; cases z)) (ne_of e cd (by intro z; cases z)) e)
  have gb1 := kl s.gb
  have kt : SmH H H2 := fun a xs e => bt.of gb1 (e1 _ _ (fr _ _ (ne_of e c2 (by intro z; cases z)) (ne_of e cd (by intro z; cases z)) e)) (by intro z; cases z)
  refine ⟨((s.tw.step hi fr c lk w).same e1).but gb1 bt, bt.at D.b1.symm (kl s.gh), bt.at D.b2.symm (kl s.gc), by rw [g2, set_two hi], bt.at D.b3.symm (kl s.gm), fun j hj => bt.at (D.b4 j hj).symm (kl (s.gy j hj)), fun j hj => ?_, fun j hj => (s.my j hj).up kt, fun j hj => Nat.le_succ_of_le (s.ly j hj)⟩
  by_cases z : j = i
  · rw [z, fset_eq, fset_eq]; exact hv
  · rw [fset_ne z, fset_ne z]; exact (s.wb j hj).up kt
theorem Ss.mail {y : V} (D : Sd hl cl bo ml m) (s : Ss K mg H hl cl bo ml p m me hd hs b d kv W ys n) (hi : i < 2) (bt : But (m i) H H') (g2 : H' (m i) = some (.lst (ys i ++ [y]))) (hy : MlA H' (me i) [y]) :
    Ss K mg H' hl cl bo ml p m me hd hs b d kv W (fset ys i (ys i ++ [y])) (n + 1) := by
  have gi := s.gy i hi
  have kt : SmH H H' := SmH.but bt gi (by intro _ z; cases z)
  refine ⟨(s.tw.but gi bt).mono, bt.at (D.m1 i hi).symm s.gh, bt.at (D.m2 i hi).symm s.gc, bt.at (D.b4 i hi) s.gb, bt.at (D.m3 i hi).symm s.gm, fun j hj => ?_, fun j hj => (s.wb j hj).up kt, fun j hj => ?_, fun j hj => ?_⟩
  · by_cases z : j = i
    · rw [z, fset_eq]; exact g2
    · rw [fset_ne z]; exact bt.at (D.m4 j i hj hi z) (s.gy j hj)
  · by_cases z : j = i
    · rw [z, fset_eq]
      intro x hx
      rcases List.mem_append.mp hx with w | w
      · exact ((s.my i hi).up kt) x w
      · exact hy x w
    · rw [fset_ne z]; exact (s.my j hj).up kt
  · by_cases z : j = i
    · rw [z, fset_eq, List.length_append]; exact Nat.succ_le_succ (s.ly i hi)
    · rw [fset_ne z]; exact Nat.le_succ_of_le (s.ly j hj)
end
end
end K61


namespace K61
open PySem L2
abbrev s_law : Stmt := top 19
section
variable {P : Program} {w : World} {K : PySem.W.Frag} {mg : Str → Option Value} {base : Heap}
theorem pow_sum_nn (hs : List Int) : 0 ≤ (hs.map fun h => 1 * (2 : Int) ^ h.toNat).sum := by
  induction hs with
  | nil => exact Int.le_refl _
  | cons a hs ih =>
    rw [List.map_cons, List.sum_cons]
    have : (0 : Int) ≤ 1 * 2 ^ a.toNat := by rw [Int.one_mul]; exact Int.le_of_lt (Int.pow_pos (by decide))
    omega
theorem perm_sum {l m : List Int} (p : l.Perm m) : l.sum = m.sum := by
  induction p with
  | nil => rfl
  | cons x _ ih => rw [List.sum_cons, List.sum_cons, ih]
  | swap x y l => rw [List.sum_cons, List.sum_cons, List.sum_cons, List.sum_cons]; omega
  | trans _ _ a b => exact a.trans b
theorem pow_sum_perm {hs ms : List Int} (p : ms.Perm hs) : (ms.map fun h => 1 * (2 : Int) ^ h.toNat).sum = (hs.map fun h => 1 * (2 : Int) ^ h.toNat).sum := perm_sum (p.map _)
theorem pow_sum_lt {hs : List Int} (nd : hs.Nodup) (rg : ∀ x ∈ hs, 0 ≤ x ∧ x < 63) : (hs.map fun h => 1 * (2 : Int) ^ h.toNat).sum < 9223372036854775808 := by
  obtain ⟨ms, pm, so⟩ : ∃ ms : List Int, ms.Perm hs ∧ ms.Pairwise (· ≤ ·) := ⟨hs.mergeSort (fun a b => decide (a ≤ b)), List.mergeSort_perm _ _, by
    have := List.pairwise_mergeSort (le := fun (a b : Int) => decide (a ≤ b)) (fun a b c h1 h2 => by simp at *; omega) (fun a b => by simp; omega) hs
    exact this.imp fun h => of_decide_eq_true h⟩
  rw [← pow_sum_perm pm]
  exact (sorted_hs pm so nd rg).set.2.1
def sp_law (K : PySem.W.Frag) : Sp := fun vs H Q _ => ∃ (a : Addr) (ns : List Int), vs = [.ref a] ∧ SqL K H a (ns.map V.int) ∧ ns.length ≤ 63 ∧ ∀ H', Q (.bl true) H'
theorem sc_law : FnScope ["_law_script", "_law_hands_here", "_law_whole", "_law_changes", "_law_ballots", "_law_mail", "_law_cell", "_law_xs", "_law_at", "_law_round_before", "_law_step_here", "_law_message", "_law_told"] ["_law_script"] (defScope s_law) := ⟨rfl, rfl, rfl, by decide +kernel, rfl, by decide +kernel, by decide +kernel⟩
set_option maxHeartbeats 8000000 in
theorem ok_law {f f_Change___init__ f_Change_begin f_Change_message f_Change_receive f__law_cell_at f__law_stream f__law_hands f__law_greater f__law_right f__law_step C_Change : Addr} {fd fd_Change___init__ fd_Change_begin fd_Change_message fd_Change_receive fd__law_cell_at fd__law_stream fd__law_hands fd__law_greater fd__law_right fd__law_step : FuncData} (F : Fun K "law" "law" s_law f fd)
    (G_Change___init__ : FnOk P w K mg base CX0 6 f_Change___init__ fd_Change___init__ ["self", "me", "hands"] (sp_Change___init__ K)) (B_Change___init__ : Binds K fd_Change___init__ ["self", "me", "hands"] [])
    (G_Change_begin : FnOk P w K mg base CX0 7 f_Change_begin fd_Change_begin ["self", "more", "report"] (sp_Change_begin K mg)) (B_Change_begin : Binds K fd_Change_begin ["self", "more", "report"] [])
    (G_Change_message : FnOk P w K mg base CX0 7 f_Change_message fd_Change_message ["self", "report"] (sp_Change_message K mg)) (B_Change_message : Binds K fd_Change_message ["self", "report"] [])
    (G_Change_receive : FnOk P w K mg base CX0 7 f_Change_receive fd_Change_receive ["self", "message"] (sp_Change_receive K mg)) (B_Change_receive : Binds K fd_Change_receive ["self", "message"] [])
    (G__law_cell_at : FnOk P w K mg base CX0 7 f__law_cell_at fd__law_cell_at ["_law_script", "_law_k"] (sp__law_cell_at K)) (C__law_cell_at : Cal K mg "_law_cell_at" f__law_cell_at fd__law_cell_at ["_law_script", "_law_k"])
    (G__law_stream : FnOk P w K mg base CX0 7 f__law_stream fd__law_stream ["_law_cell", "_law_amount"] (sp__law_stream K)) (C__law_stream : Cal K mg "_law_stream" f__law_stream fd__law_stream ["_law_cell", "_law_amount"])
    (G__law_hands : FnOk P w K mg base CX0 7 f__law_hands fd__law_hands ["_law_cell"] (sp__law_hands K)) (C__law_hands : Cal K mg "_law_hands" f__law_hands fd__law_hands ["_law_cell"])
    (G__law_greater : FnOk P w K mg base CX0 7 f__law_greater fd__law_greater ["_law_one", "_law_other"] (sp__law_greater K)) (C__law_greater : Cal K mg "_law_greater" f__law_greater fd__law_greater ["_law_one", "_law_other"])
    (G__law_right : FnOk P w K mg base CX0 7 f__law_right fd__law_right ["_law_change", "_law_ballot"] (sp__law_right K mg)) (C__law_right : Cal K mg "_law_right" f__law_right fd__law_right ["_law_change", "_law_ballot"])
    (G__law_step : FnOk P w K mg base CX0 7 f__law_step fd__law_step ["_law_xs"] (sp__law_step K)) (C__law_step : Cal K mg "_law_step" f__law_step fd__law_step ["_law_xs"]) (h_len : mg "len" = none) (h_sum : mg "sum" = none) (T_Change : TChange K C_Change) (m_Change : mg "Change" = some (.ref C_Change)) (M_Change : Mk K C_Change f_Change___init__) (mt_Change_begin : Meth K C_Change "begin" f_Change_begin) (mt_Change_message : Meth K C_Change "message" f_Change_message) (mt_Change_receive : Meth K C_Change "receive" f_Change_receive) : FnOk P w K mg base CX0 8 f fd ["_law_script"] (sp_law K) := by
  refine F.ok sc_law (fun vs H Q E h => ?_) (fun cdv A outer s H vs Q E hr h => ?_)
  · obtain ⟨a, ks, rfl, _⟩ := h
    rfl
  obtain ⟨a, ks, rfl, h⟩ := h
  have hu64 := hr.units
  have hu0 := hr.units0
  have hu := hu_of hr
  refine ⟨_, (pss_cons (ps_set (i := 1) sc_law.nd rfl (Or.inl rfl) (pcall G__law_hands C__law_hands hr (pa_cons (pcall G__law_cell_at C__law_cell_at hr (pa_cons (pv 0) (pa_cons pe_int pa_nil))) pa_nil)))
      (pss_cons (ps_set (i := 2) sc_law.nd rfl (Or.inl rfl) (pe_callB (call_sumI rfl) (by rfl) h_sum PyProof.Rows.boot_sum (pa_cons (pe_comp ["_law_hand"] [none] rfl rfl (by kernel_rfl) (pi_listK (K := K) rfl (pv 1)) (fun _ _ _ _ _ nd => pg_name (i := 0) nd rfl (Or.inl rfl)) (fun _ _ _ _ _ => pif_nil) (fun _ _ _ _ _ => (pe_op op_shl pe_int (pv 0)))) pa_nil)))
      (pss_cons (ps_set (i := 3) sc_law.nd rfl (Or.inl rfl) (pe_lst (pa_cons (pe_make M_Change G_Change___init__ hr rfl m_Change B_Change___init__ .nil pass0 (pa_cons (pe_ix (ix_listK (K := K) rfl) (pv 1) pe_int (fun _ _ => rfl)) (pa_cons (pv 2) pa_nil))) (pa_cons (pe_make M_Change G_Change___init__ hr rfl m_Change B_Change___init__ .nil pass0 (pa_cons (pe_ix (ix_listK (K := K) rfl) (pv 1) pe_int (fun _ _ => rfl)) (pa_cons (pv 2) pa_nil))) pa_nil))))
      (pss_cons (ps_set (i := 4) sc_law.nd rfl (Or.inl rfl) (pe_lst (pa_cons pe_non (pa_cons pe_non pa_nil))))
      (pss_cons (ps_set (i := 5) sc_law.nd rfl (Or.inl rfl) (pe_lst (pa_cons (pe_lst pa_nil) (pa_cons (pe_lst pa_nil) pa_nil))))
      (pss_cons (ps_if (pt_cmpR op_eq (pe_op op_mod (pcall G__law_cell_at C__law_cell_at hr (pa_cons (pv 0) (pa_cons pe_int pa_nil))) pe_int) pe_int (nomark _)) (pss_cons (ps_set (i := 1) sc_law.nd rfl (Or.inl rfl) (pe_op op_cat (pe_lst (pa_cons (pe_ix (ix_listK (K := K) rfl) (pv 1) pe_int (fun _ _ => rfl)) (pa_cons (pe_ix (ix_listK (K := K) rfl) (pv 1) pe_int (fun _ _ => rfl)) pa_nil))) (pe_slice (sl_listK (K := K) rfl) (pv 1) (po_some pe_int) po_none)))
      (pss_one (ps_set (i := 3) sc_law.nd rfl (Or.inl rfl) (pe_slice3 sl3_rev (pv 3) po_none po_none (po_some (pe_un un_neg pe_int)))))) pss_nil)
      (pss_cons (ps_for PassesOwn.never rfl (pi_listK (K := K) rfl (pe_slice (sl_listK (K := K) rfl) (pv 0) (po_some pe_int) (po_some pe_int))) (pg_name (i := 6) sc_law.nd rfl (Or.inl rfl))
      (pss_cons (ps_set (i := 7) sc_law.nd rfl (Or.inl rfl) (pcall G__law_stream C__law_stream hr (pa_cons (pv 6) (pa_cons pe_int pa_nil))))
      (pss_cons (ps_set (i := 8) sc_law.nd rfl (Or.inl rfl) (pe_op op_mod (pe_ix (ix_listK (K := K) rfl) (pv 7) pe_int (fun _ _ => rfl)) pe_int))
      (pss_cons (ps_if (pt_cmpR op_eq (pe_op op_mod (pe_ix (ix_listK (K := K) rfl) (pv 7) pe_int (fun _ _ => rfl)) pe_int) pe_int (nomark _)) (pss_cons (ps_set (i := 9) sc_law.nd rfl (Or.inl rfl) pe_int)
      (pss_cons (ps_if (pt_cmpR op_notN (pe_ix (ix_listK (K := K) rfl) (pv 4) (pv 8) (fun _ _ => rfl)) pe_non (nomark _)) (pss_one (ps_set (i := 9) sc_law.nd rfl (Or.inl rfl) (pe_ix (ix_tupK (K := K) rfl) (pe_ix (ix_listK (K := K) rfl) (pv 4) (pv 8) (fun _ _ => rfl)) pe_int (fun _ _ => rfl)))) pss_nil)
      (pss_cons (ps_set (i := 10) sc_law.nd rfl (Or.inl rfl) (pcall G__law_step C__law_step hr (pa_cons (pv 7) pa_nil)))
      (pss_cons (ps_expr (pe_methS (MOk.cons T_Change.cl mt_Change_begin G_Change_begin B_Change_begin MOk.nil) (pe_ix (ix_listK (K := K) rfl) (pv 3) (pv 8) (fun _ _ => rfl)) hr (pa_cons (pv 10) (pa_cons (pv 6) pa_nil))))
      (pss_one (ps_asg (pe_tup (pa_cons (pe_op op_add (pv 9) (pv 10)) (pa_cons (pe_ix (ix_listK (K := K) rfl) (pv 1) (pv 8) (fun _ _ => rfl)) pa_nil))) (pg_sub (pv 4) (pv 8) set_list))))))) (pss_one (ps_if (pt_cmpR op_eq (pe_op op_mod (pe_ix (ix_listK (K := K) rfl) (pv 7) pe_int (fun _ _ => rfl)) pe_int) pe_int (nomark _)) (pss_one (ps_expr (pe_appendK (K := K) rfl (pe_bm PySem.F.plainAttrs_list PySem.F.slot_list_append PySem.F.type_list_append mt_append (pe_ix (ix_listK (K := K) rfl) (pv 5) (pv 8) (fun _ _ => rfl)) (pa_cons (pe_tup (pa_cons (pe_methS (MOk.cons T_Change.cl mt_Change_message G_Change_message B_Change_message MOk.nil) (pe_ix (ix_listK (K := K) rfl) (pv 3) (pv 8) (fun _ _ => rfl)) hr (pa_cons (pv 6) pa_nil)) (pa_cons (pe_ix (ix_listK (K := K) rfl) (pv 4) (pv 8) (fun _ _ => rfl)) pa_nil))) pa_nil))))) (pss_one (ps_if (pt_cmpR (op_neK (K := K) rfl hu64) (pe_ix (ix_listK (K := K) rfl) (pv 5) (pe_op op_sub pe_int (pv 8)) (fun _ _ => rfl)) (pe_lst pa_nil) (nomark _)) (pss_cons (ps_asg (pe_ix (ix_listK (K := K) rfl) (pe_ix (ix_listK (K := K) rfl) (pv 5) (pe_op op_sub pe_int (pv 8)) (fun _ _ => rfl)) (pe_op op_mod (pe_ix (ix_listK (K := K) rfl) (pv 7) pe_int (fun _ _ => rfl)) (pe_callB (call_lenK (K := K) rfl) (by rfl) h_len PySem.boot_len (pa_cons (pe_ix (ix_listK (K := K) rfl) (pv 5) (pe_op op_sub pe_int (pv 8)) (fun _ _ => rfl)) pa_nil))) (fun _ _ => rfl)) (pg_tupK (K := K) (n := 2) rfl rfl (pgs_cons (pg_name (i := 11) sc_law.nd rfl (Or.inl rfl)) (pgs_cons (pg_name (i := 12) sc_law.nd rfl (Or.inl rfl)) pgs_nil))))
      (pss_cons (ps_expr (pe_methS (MOk.cons T_Change.cl mt_Change_receive G_Change_receive B_Change_receive MOk.nil) (pe_ix (ix_listK (K := K) rfl) (pv 3) (pv 8) (fun _ _ => rfl)) hr (pa_cons (pv 11) pa_nil)))
      (pss_one (ps_asg (pcall G__law_greater C__law_greater hr (pa_cons (pe_ix (ix_listK (K := K) rfl) (pv 4) (pv 8) (fun _ _ => rfl)) (pa_cons (pv 12) pa_nil))) (pg_sub (pv 4) (pv 8) set_list))))) pss_nil)))))
      (pss_one (ps_if (pt_not (pt_callK K rfl (pcall G__law_right C__law_right hr (pa_cons (pe_ix (ix_listK (K := K) rfl) (pv 3) (pv 8) (fun _ _ => rfl)) (pa_cons (pe_ix (ix_listK (K := K) rfl) (pv 4) (pv 8) (fun _ _ => rfl)) pa_nil))))) (pss_one (ps_ret pe_bl)) pss_nil))))))
      (pss_one (ps_ret (pe_and (pcall G__law_right C__law_right hr (pa_cons (pe_ix (ix_listK (K := K) rfl) (pv 3) pe_int (fun _ _ => rfl)) (pa_cons (pe_ix (ix_listK (K := K) rfl) (pv 4) pe_int (fun _ _ => rfl)) pa_nil))) (pe_one (pcall G__law_right C__law_right hr (pa_cons (pe_ix (ix_listK (K := K) rfl) (pv 3) pe_int (fun _ _ => rfl)) (pa_cons (pe_ix (ix_listK (K := K) rfl) (pv 4) pe_int (fun _ _ => rfl)) pa_nil)))))))))))))), ?_⟩
  obtain ⟨hS, hlen, k⟩ := h
  obtain ⟨cl, n1, n2, n3, n4, n5, n6, n7⟩ := id T_Change
  clean_wf
  refine ⟨a, 0, rfl, ks, hS, by decide, fun c0 => ?_⟩
  clean_wf
  refine ⟨c0, rfl, fun H1 l h0 h1 hs s1 hl g1 nd rg l6 => ?_⟩
  have hS1 := s1.seq hS
  have sl1 := SqL.of (K := K) g1
  clean_wf
  intro D0 hD0
  refine comp_list (K := K) (a := l) (xs := (h0 :: h1 :: hs).map V.int) (fun i σ H' => ∃ v, σ = [v] ∧ Same H1 H' ∧ H' D0 = some (.lst ((((h0 :: h1 :: hs).take i).map fun h => 1 * (2 : Int) ^ h.toNat).map V.int))) ⟨none, rfl, same_upd hD0, upd_same⟩ ?_ ?_ ?_
  · rintro i σ H' _ ⟨_, _, z, _⟩
    exact SqL.of (z _ _ g1)
  · rintro i x σ H' hx ⟨v, rfl, sm, hDx⟩
    obtain ⟨h, hh, rfl⟩ := int_get hx
    have hi := (List.getElem?_eq_some_iff.mp hh).1
    have hr := rg h (List.mem_of_getElem? hh)
    have cp : CPow 1 h := ⟨hr.1, by omega, by decide⟩
    rw [List.length_cons, List.length_cons] at hi
    clean_wf
    refine ⟨_, hDx, ?_, _, rfl, fun b o z => ?_, ?_⟩
    · rw [List.length_map, List.length_map, List.length_take]
      exact small1000 (by omega)
    · rw [upd_ne (ne_of_none z hD0)]
      exact sm b o z
    · rw [upd_same, take_get hh, List.map_append, List.map_append]
      rfl
  rintro σ H3 ⟨v, rfl, s3, hD3⟩
  rw [show (h0 :: h1 :: hs).take ((h0 :: h1 :: hs).map V.int).length = h0 :: h1 :: hs by rw [List.length_map, List.take_length]] at hD3
  refine ⟨D0, _, rfl, SqL.of hD3, ?_⟩
  have w0 := pow_sum_nn (h0 :: h1 :: hs)
  have w1 := pow_sum_lt nd rg
  generalize ((h0 :: h1 :: hs).map fun h => 1 * (2 : Int) ^ h.toNat).sum = n at w0 w1 ⊢
  have g13 := s3 _ _ g1
  have sl3 := SqL.of (K := K) g13
  have at0 : atI ((h0 :: h1 :: hs).map V.int) 0 = some (.int h0) := at_int (xs := h0 :: h1 :: hs) (i := 0) (by simp)
  have at1 : atI ((h0 :: h1 :: hs).map V.int) 1 = some (.int h1) := at_int (xs := h0 :: h1 :: hs) (i := 1) (by simp)
  clean_wf
  intro p0 x0 B0' hp0 t0 u0
  refine ⟨p0, h0, n, rfl, _, x0, T_Change, u0, fun B1 d0 k0 hd0 y0 q0 => ⟨rfl, ?_⟩⟩
  have sB1 : Same H3 B1 := fun b o e => k0 b o (t0 _ _ e) (fun z => by rw [z, hp0] at e; cases e)
  have hd0' : H3 d0 = none := t0.free hd0
  have sl4 := sB1.seq sl3
  clean_wf
  intro p1 x1 B1' hp1 t1 u1
  refine ⟨p1, h1, n, rfl, _, x1, T_Change, u1, fun B2 d1 k1 hd1 y1 q1 => ⟨rfl, ?_⟩⟩
  have sB2 : Same B1 B2 := fun b o e => k1 b o (t1 _ _ e) (fun z => by rw [z, hp1] at e; cases e)
  have hd1' : B1 d1 = none := t1.free hd1
  clean_wf
  intro cl' B3 hcl s4 gcl
  clean_wf
  intro bo B4 hbo s5 gbo
  clean_wf
  intro m0 B5 hm0 s6 gm0
  clean_wf
  intro m1 B6 hm1 s7 gm1
  clean_wf
  intro ml B7 hml s8 gml
  have np : p0 ≠ p1 := fun z => by rw [← z, q0] at hp1; cases hp1
  have ndd : d0 ≠ d1 := fun z => by rw [← z, y0] at hd1'; cases hd1'
  have sB7 : Same B2 B7 := s4.trans (s5.trans (s6.trans (s7.trans s8)))
  have C0 : ChA K mg B7 p0 h0 n none d0 [] := ⟨⟨_, x0, .non, m_Change, sB7 _ _ (sB2 _ _ q0), rfl⟩, sB7 _ _ (sB2 _ _ y0), w0, w1⟩
  have C1 : ChA K mg B7 p1 h1 n none d1 [] := ⟨⟨_, x1, .non, m_Change, sB7 _ _ q1, rfl⟩, sB7 _ _ y1, w0, w1⟩
  have h01 : h0 ≠ h1 := fun z => by rw [z] at nd; simp at nd
  have hS7 := (s3.trans (sB1.trans (sB2.trans sB7))).seq hS1
  have gl7 := (sB1.trans (sB2.trans sB7)) _ _ g13
  have gcl7 := (s5.trans (s6.trans (s7.trans s8))) _ _ gcl
  have gbo7 := (s6.trans (s7.trans s8)) _ _ gbo
  have gm07 := (s7.trans s8) _ _ gm0
  have gm17 := s8 _ _ gm1
  have e_lcl : cl' ≠ l := fun z => by rw [z, (sB1.trans sB2) _ _ g13] at hcl; cases hcl
  have e_bol : bo ≠ l := fun z => by rw [z, (sB1.trans (sB2.trans s4)) _ _ g13] at hbo; cases hbo
  have e_boc : bo ≠ cl' := fun z => by rw [z, gcl] at hbo; cases hbo
  have e_m0l : m0 ≠ l := fun z => by rw [z, (sB1.trans (sB2.trans (s4.trans s5))) _ _ g13] at hm0; cases hm0
  have e_m0c : m0 ≠ cl' := fun z => by rw [z, s5 _ _ gcl] at hm0; cases hm0
  have e_m0b : m0 ≠ bo := fun z => by rw [z, gbo] at hm0; cases hm0
  have e_m1l : m1 ≠ l := fun z => by rw [z, (sB1.trans (sB2.trans (s4.trans (s5.trans s6)))) _ _ g13] at hm1; cases hm1
  have e_m1c : m1 ≠ cl' := fun z => by rw [z, (s5.trans s6) _ _ gcl] at hm1; cases hm1
  have e_m1b : m1 ≠ bo := fun z => by rw [z, s6 _ _ gbo] at hm1; cases hm1
  have e_m1m : m1 ≠ m0 := fun z => by rw [z, gm0] at hm1; cases hm1
  have e_mlb : ml ≠ bo := fun z => by rw [z, (s6.trans s7) _ _ gbo] at hml; cases hml
  have e_ml0 : ml ≠ m0 := fun z => by rw [z, s7 _ _ gm0] at hml; cases hml
  have e_ml1 : ml ≠ m1 := fun z => by rw [z, gm1] at hml; cases hml
  refine x_cut (fun σ' B => ∃ hl' cl2 bo2 ml2 v6 p m me hs' b d kv W ys, σ' = [some (.ref a), some (.ref hl'), some (.int n), some (.ref cl2), some (.ref bo2), some (.ref ml2), v6, none, none, none, none, none, none] ∧ SqL K B a (ks.map V.int) ∧ Sd hl' cl2 bo2 ml2 m ∧ me 0 ≠ me 1 ∧ Ss K mg B hl' cl2 bo2 ml2 p m me n hs' b d kv W ys 0) ?_ fun N rest => ?_
  rotate_left
  · have mk : ∀ (B : Hp) (hl' cl2 : Addr) (ps : Nat → Addr) (ms : Nat → Int) (ds : Nat → Addr) (hs' : List Int), Same B7 B → B hl' = some (.lst ((ms 0 :: ms 1 :: hs').map V.int)) → B cl2 = some (.lst ((List.range 2).map fun i => V.ref (ps i))) → (∀ i, i < 2 → ChA K mg B (ps i) (ms i) n none (ds i) []) → (∀ i j, i < 2 → j < 2 → i ≠ j → ps i ≠ ps j) → (∀ i j, i < 2 → j < 2 → i ≠ j → ds i ≠ ds j) → bo ≠ hl' → bo ≠ cl2 → m0 ≠ hl' → m1 ≠ hl' → m0 ≠ cl2 → m1 ≠ cl2 → ms 0 ≠ ms 1 →
        ∀ σ' v6, σ' = [some (V.ref a), some (V.ref hl'), some (V.int n), some (V.ref cl2), some (V.ref bo), some (V.ref ml), v6, none, none, none, none, none, none] → N σ' B := by
      intro B hl' cl2 ps ms ds hs' sB gh gc ch ne1 ne2 o1 o2 o3 o4 o5 o6 o7 σ' v6 e
      refine rest σ' B ⟨hl', cl2, bo, ml, v6, ps, fun i => match i with | 0 => m0 | _ => m1, ms, hs', fun _ => none, ds, fun _ => [], fun _ => .non, fun _ => [], e, sB.seq hS7, ⟨o1, o2, e_mlb.symm, fun i hi => ?_, fun i hi => ?_, fun i hi => ?_, fun i hi => ?_, fun i j hi hj ne => ?_⟩, o7, ⟨⟨ch, fun i hi => Nat.zero_le _, ne1, ne2⟩, gh, gc, sB _ _ gbo7, sB _ _ gml, fun i hi => ?_, fun i hi => rfl, fun i hi y hy => (nomatch hy), fun i hi => Nat.le_refl _⟩⟩
      · match i, hi with
        | 0, _ => exact e_m0b.symm
        | 1, _ => exact e_m1b.symm
      · match i, hi with
        | 0, _ => exact o3
        | 1, _ => exact o4
      · match i, hi with
        | 0, _ => exact o5
        | 1, _ => exact o6
      · match i, hi with
        | 0, _ => exact e_ml0.symm
        | 1, _ => exact e_ml1.symm
      · match i, j, hi, hj, ne with
        | 0, 1, _, _, _ => exact e_m1m.symm
        | 1, 0, _, _, _ => exact e_m1m
        | 0, 0, _, _, ne => exact absurd rfl ne
        | 1, 1, _, _, ne => exact absurd rfl ne
      · match i, hi with
        | 0, _ => exact sB _ _ gm07
        | 1, _ => exact sB _ _ gm17
    clean_wf
    refine ⟨a, 1, rfl, ks, hS7, by decide, fun c1 => ?_⟩
    clean_wf
    refine ite2 (fun _ => ?_) fun _ => ?_
    · have sl7 := SqL.of (K := K) gl7
      clean_wf
      intro q1' A1 hq1 r1 gq1
      have sl8 := r1.seq sl7
      clean_wf
      intro q2' A2 hq2 r2 gq2
      have ec : cutV ((h0 :: h1 :: hs).map V.int) (some 2) none = hs.map V.int := by
        unfold cutV
        have e1 : HT.sIx ((h0 :: h1 :: hs).map V.int).length 0 (some 2) = 2 := by
          show (if (2 : Int) < 0 then ((2 : Int) + (((h0 :: h1 :: hs).map V.int).length : Nat)).toNat else min (2 : Int).toNat ((h0 :: h1 :: hs).map V.int).length) = 2
          rw [if_neg (by decide), List.length_map, List.length_cons, List.length_cons]
          show min 2 (hs.length + 1 + 1) = 2
          omega
        have e2 : HT.sIx ((h0 :: h1 :: hs).map V.int).length ((h0 :: h1 :: hs).map V.int).length none = ((h0 :: h1 :: hs).map V.int).length := rfl
        rw [e1, e2, ← List.map_drop, ← List.map_take, List.drop_succ_cons, List.drop_succ_cons, List.drop_zero, List.take_of_length_le (by rw [List.length_map, List.length_cons, List.length_cons]; omega)]
      rw [ec] at gq2
      refine x_cat (r2 _ _ gq1) gq2 (by simp only [List.length_cons, List.length_nil, List.length_map]; omega) fun q3' A3 hq3 r3 gq3 => ?_
      have gcl9 := (r1.trans (r2.trans r3)) _ _ gcl7
      have sc9 := SqL.of (K := K) gcl9
      clean_wf
      refine ⟨rfl, rfl, rfl, cl', _, rfl, sc9, fun q4 hq4 => ?_⟩
      have s9 := same_upd (o := .lst [V.ref p0, V.ref p1].reverse) hq4
      have g9 : (upd A3 q4 (.lst [V.ref p0, V.ref p1].reverse)) q4 = some (.lst [V.ref p1, V.ref p0]) := upd_same
      generalize upd A3 q4 (.lst [V.ref p0, V.ref p1].reverse) = A4 at s9 g9 ⊢
      have s74 : Same B7 A4 := r1.trans (r2.trans (r3.trans s9))
      have old : ∀ {x : Addr} {o : HO}, B7 x = some o → x ≠ q3' ∧ x ≠ q4 := fun e => ⟨(fun z => by rw [z] at e; rw [(r1.trans r2) _ _ e] at hq3; cases hq3), (fun z => by rw [z] at e; rw [(r1.trans (r2.trans r3)) _ _ e] at hq4; cases hq4)⟩
      clean_wf
      refine mk A4 q3' q4 (fun i => match i with | 0 => p1 | _ => p0) (fun i => match i with | 0 => h1 | _ => h0) (fun i => match i with | 0 => d1 | _ => d0) hs s74 (s9 _ _ gq3) g9 (fun i hi => ?_) (fun i j hi hj ne => ?_) (fun i j hi hj ne => ?_) (old gbo7).1 (old gbo7).2 (old gm07).1 (old gm17).1 (old gm07).2 (old gm17).2 h01.symm _ _ rfl
      · match i, hi with
        | 0, _ => exact C1.same s74
        | 1, _ => exact C0.same s74
      · match i, j, hi, hj, ne with
        | 0, 1, _, _, _ => exact np.symm
        | 1, 0, _, _, _ => exact np
        | 0, 0, _, _, ne => exact absurd rfl ne
        | 1, 1, _, _, ne => exact absurd rfl ne
      · match i, j, hi, hj, ne with
        | 0, 1, _, _, _ => exact ndd.symm
        | 1, 0, _, _, _ => exact ndd
        | 0, 0, _, _, ne => exact absurd rfl ne
        | 1, 1, _, _, ne => exact absurd rfl ne
    · refine mk B7 l cl' (fun i => match i with | 0 => p0 | _ => p1) (fun i => match i with | 0 => h0 | _ => h1) (fun i => match i with | 0 => d0 | _ => d1) hs (.refl _) gl7 gcl7 (fun i hi => ?_) (fun i j hi hj ne => ?_) (fun i j hi hj ne => ?_) e_bol e_boc e_m0l e_m1l e_m0c e_m1c h01 _ _ rfl
      · match i, hi with
        | 0, _ => exact C0
        | 1, _ => exact C1
      · match i, j, hi, hj, ne with
        | 0, 1, _, _, _ => exact np
        | 1, 0, _, _, _ => exact np.symm
        | 0, 0, _, _, ne => exact absurd rfl ne
        | 1, 1, _, _, ne => exact absurd rfl ne
      · match i, j, hi, hj, ne with
        | 0, 1, _, _, _ => exact ndd
        | 1, 0, _, _, _ => exact ndd.symm
        | 0, 0, _, _, ne => exact absurd rfl ne
        | 1, 1, _, _, ne => exact absurd rfl ne
  rintro σ' B ⟨hl', cl2, bo2, ml2, v6, p, m, me, hs', b, d, kv, W, ys, rfl, hSB, SD, ne01, SS⟩
  have hs7 := hSB
  clean_wf
  intro q7 C hq7 sC gq7
  obtain ⟨ws, ew, lw⟩ := cut_ints ks (some 2) (some 42)
  rw [ew] at gq7
  have SC := SS.same sC
  have o7 : ∀ {x : Addr} {o : HO}, B x = some o → x ≠ q7 := fun e z => by rw [z, hq7] at e; cases e
  refine ⟨_, rfl, ⟨_, SqL.of gq7⟩, ?_⟩
  refine for_list (xs := ws.map V.int) (fun i σ A => ∃ v6 v7 v8 v9 v10 v11 v12 b d kv W ys, σ = [some (.ref a), some (.ref hl'), some (.int n), some (.ref cl2), some (.ref bo2), some (.ref ml2), v6, v7, v8, v9, v10, v11, v12] ∧ A q7 = some (.lst (ws.map V.int)) ∧ Ss K mg A hl' cl2 bo2 ml2 p m me n hs' b d kv W ys i)
    ⟨_, _, _, _, _, _, _, b, d, kv, W, ys, rfl, gq7, SC⟩ (fun i σ A _ z => by obtain ⟨_, _, _, _, _, _, _, _, _, _, _, _, _, z, _⟩ := z; exact SqL.of z) ?_ ?_
  · rintro i x σ A hx ⟨v6, v7, v8, v9, v10, v11, v12, b, d, kv, W, ys, rfl, gq, SA⟩
    obtain ⟨cc, hcc, rfl⟩ := int_get hx
    have hi := (List.getElem?_eq_some_iff.mp hcc).1
    clean_wf
    refine ⟨cc, 5, rfl, by decide, by decide, fun A1 xa xs r1 hxa gx lx hm => ?_⟩
    have lx : xs.length = 5 := lx
    have hxs := SqL.of (K := K) gx
    have S1 := SA.same r1
    have gq1 := r1 _ _ gq
    have at0 := at_int (xs := xs) (i := 0) (by omega)
    have at3 := at_int (xs := xs) (i := 3) (by omega)
    have at4 := at_int (xs := xs) (i := 4) (by omega)
    have z0 := Int.emod_nonneg xs[0] (show (2 : Int) ≠ 0 by decide)
    have z1 := Int.emod_lt_of_pos xs[0] (show (0 : Int) < 2 by decide)
    have iq : (xs[0] % 2).toNat < 2 := by omega
    have jq : (1 - xs[0] % 2).toNat < 2 := by omega
    have nij : (1 - xs[0] % 2).toNat ≠ (xs[0] % 2).toNat := by omega
    have atC : atI ((List.range 2).map fun i => V.ref (p i)) (xs[0] % 2) = some (V.ref (p (xs[0] % 2).toNat)) := rng_at' (g := fun i => V.ref (p i)) z0 iq
    have atM : atI ((List.range 2).map fun i => V.ref (m i)) (xs[0] % 2) = some (V.ref (m (xs[0] % 2).toNat)) := rng_at' (g := fun i => V.ref (m i)) z0 iq
    have atN : atI ((List.range 2).map fun i => V.ref (m i)) (1 - xs[0] % 2) = some (V.ref (m (1 - xs[0] % 2).toNat)) := rng_at' (g := fun i => V.ref (m i)) (by omega) jq
    have atB : ∀ W : Nat → V, atI ((List.range 2).map W) (xs[0] % 2) = some (W (xs[0] % 2).toNat) := fun W => rng_at' z0 iq
    have atBW := atB W
    have ixB : ∀ W : Nat → V, ixN ((List.range 2).map W).length (xs[0] % 2) = some (xs[0] % 2).toNat := fun W => by
      rw [List.length_map, List.length_range]
      unfold ixN
      rw [if_pos z0, if_pos (by omega)]
    have atH : atI ((me 0 :: me 1 :: hs').map V.int) (xs[0] % 2) = some (V.int (me (xs[0] % 2).toNat)) := by
      rcases (show xs[0] % 2 = 0 ∨ xs[0] % 2 = 1 by omega) with e | e <;> rw [e]
      · exact at_int (xs := me 0 :: me 1 :: hs') (i := 0) (by simp)
      · exact at_int (xs := me 0 :: me 1 :: hs') (i := 1) (by simp)
    have mne : me (1 - xs[0] % 2).toNat ≠ me (xs[0] % 2).toNat := by
      rcases (show xs[0] % 2 = 0 ∨ xs[0] % 2 = 1 by omega) with e | e <;> rw [e]
      · exact ne01.symm
      · exact ne01
    generalize (xs[0] % 2).toNat = ii at iq nij atC atM atB atBW ixB atH mne
    generalize (1 - xs[0] % 2).toNat = jj at jq nij atN mne
    have lxA : ∀ {x : Addr} {ls : List V} , A1 x = some (.lst ls) → True := fun _ => trivial
    clean_wf
    refine x_cut (fun σ' E => ∃ v9 v10 v11 v12 b d kv W ys, σ' = [some (.ref a), some (.ref hl'), some (.int n), some (.ref cl2), some (.ref bo2), some (.ref ml2), some (.int cc), some (.ref xa), some (.int (xs[0] % 2)), v9, v10, v11, v12] ∧ E q7 = some (.lst (ws.map V.int)) ∧ Ss K mg E hl' cl2 bo2 ml2 p m me n hs' b d kv W ys (i + 1)) ?_ fun N rest => ?_
    · rintro σ' E ⟨v9, v10, v11, v12, b, d, kv, W, ys, rfl, gqE, SE⟩
      have gcE := SE.gc
      have gbE := SE.gb
      have atBW := atB W
      clean_wf
      refine ⟨p ii, W ii, rfl, me ii, n, b ii, d ii, kv ii, SE.tw.ch ii iq, SE.wb ii iq, fun E1 r => ?_⟩
      clean_wf
      exact ⟨_, _, _, _, _, _, _, b, d, kv, W, ys, rfl, r _ _ gqE, SE.same r⟩
    obtain ⟨C', dx', ba', eC', hp', _⟩ := (S1.tw.ch ii iq).ob
    rw [m_Change] at eC'
    cases eC'
    have dp' := (S1.tw.ch ii iq).dc
    have gc1 := S1.gc
    have gb1 := S1.gb
    have gm1' := S1.gm
    have gh1 := S1.gh
    have gy1 := S1.gy ii iq
    have gyj := S1.gy jj jq
    have qb : q7 ≠ bo2 := (o7 SS.gb).symm
    have qm : q7 ≠ m ii := (o7 (SS.gy ii iq)).symm
    clean_wf
    refine ite2 (fun _ => ?_) fun _ => ?_
    · refine x_seq ?_
      clean_wf
      refine x_cut (fun σ' E => A1 = E ∧ σ' = [some (.ref a), some (.ref hl'), some (.int n), some (.ref cl2), some (.ref bo2), some (.ref ml2), some (.int cc), some (.ref xa), some (.int (xs[0] % 2)), some (.int (bl (b ii))), v10, v11, v12]) ?_ fun N2 rest2 => ?_
      rotate_left
      · have wb := S1.wb ii iq
        cases hbb : b ii with
        | none =>
          rw [hbb] at wb
          have wb : W ii = .non := wb
          rw [wb] at atBW
          clean_wf
          rw [show decide (V.non = V.non) = true from decide_eq_true rfl]
          clean_wf
          exact rest2 _ _ ⟨rfl, by rw [hbb]; rfl⟩
        | some q =>
          rw [hbb] at wb
          obtain ⟨t, et, ht⟩ := wb
          rw [et] at atBW
          have st := SqT.of (K := K) ht
          have q0 : atI [V.int q.1, V.int q.2] 0 = some (.int q.1) := by kernel_rfl
          clean_wf
          rw [show decide (V.ref t = V.non) = false from decide_eq_false (by intro z; cases z)]
          clean_wf
          exact rest2 _ _ ⟨rfl, by rw [hbb]; rfl⟩
      rintro σ' _ ⟨rfl, rfl⟩
      clean_wf
      refine ⟨xa, rfl, xs, hxs, lx, fun A2 stp r2 => ?_⟩
      have S2 := S1.same r2
      have gc2 := S2.gc
      have hp2 := r2 _ _ hp'
      clean_wf
      refine ⟨p ii, stp, cc, rfl, me ii, n, b ii, d ii, kv ii, S2.tw.ch ii iq, fun A3 d' kv' k3 c3 l3 nd3 => ?_⟩
      have kl : ∀ {x : Addr} {ls : List V}, A2 x = some (.lst ls) → A3 x = some (.lst ls) := fun e => k3 _ _ (ne_of e hp2 (by intro z; cases z)) e
      have gh3 := kl S2.gh
      have gb3 := kl S2.gb
      clean_wf
      intro t A4 ht r4 g4
      have gb4 := r4 _ _ gb3
      clean_wf
      refine x_setL gb4 (ixB W) fun A5 b5 g5 => ?_
      have hv : BaV A5 (.ref t) (some (bl (b ii) + stp, me ii)) := ⟨t, rfl, b5.of gb4 g4 (by intro z; cases z)⟩
      exact rest _ _ ⟨_, _, _, _, _, _, _, _, ys, rfl, b5.at qb (r4 _ _ (kl (r2 _ _ gq1))), S2.step SD iq (fun x o n1 _ e => k3 x o n1 e) c3 (by omega) (.inr nd3) r4 b5 g5 hv⟩
    · clean_wf
      refine ite2 (fun _ => ?_) fun _ => ?_
      · clean_wf
        refine ⟨p ii, cc, rfl, me ii, n, b ii, d ii, kv ii, S1.tw.ch ii iq, fun A2 ma r2 hma => ?_⟩
        have S2 := S1.same r2
        have gb2 := S2.gb
        clean_wf
        intro t A3 ht r3 g3
        have S3 := S2.same r3
        have gy3 := S3.gy ii iq
        have ls : (ys ii).length < sizeLine := small1000 (by have := S3.ly ii iq; omega)
        clean_wf
        intro A4 b4 g4
        have kt : SmH A3 A4 := SmH.but b4 gy3 (by intro _ z; cases z)
        refine rest _ _ ⟨_, _, _, _, b, d, kv, W, _, rfl, b4.at qm (r3 _ _ (r2 _ _ gq1)), S3.mail SD iq b4 g4 fun y hy => ?_⟩
        rw [List.mem_singleton.mp hy]
        exact ⟨t, ma, W ii, b ii, cc, rfl, kt _ _ g3, (hma.up (.same r3)).up kt, (S3.wb ii iq).up kt⟩
      · clean_wf
        intro e0 A2 he0 r2 ge0
        have S2 := S1.same r2
        obtain ⟨ds, dp, dl, dn⟩ := ml_dps (K := K) (S2.my jj jq)
        refine x_neNil (SqL.of (r2 _ _ gyj)) dp dl (SqL.of ge0) ?_
        clean_wf
        refine ite2 (fun h3 => ?_) fun h3 => ?_
        · have ne : 0 < (ys jj).length := by
            cases z : ys jj with
            | nil =>
              rw [z] at dn
              rw [decide_eq_true (List.length_eq_zero_iff.mp dn)] at h3
              cases h3
            | cons y l => rw [List.length_cons]; omega
          have pl : (0 : Int) < ((ys jj).length : Nat) := by omega
          have q0 := Int.emod_nonneg xs[4] (show (((ys jj).length : Nat) : Int) ≠ 0 by omega)
          have q1 := Int.emod_lt_of_pos xs[4] pl
          have q2 : (xs[4] % (((ys jj).length : Nat) : Int)).toNat < (ys jj).length := by omega
          have atY : atI (ys jj) (xs[4] % (((ys jj).length : Nat) : Int)) = some (ys jj)[(xs[4] % (((ys jj).length : Nat) : Int)).toNat] := atI_int q0 (List.getElem?_eq_getElem q2)
          obtain ⟨t, ma, w, bj, cj, ey, ht, hma, hw⟩ := S2.my jj jq _ (List.getElem_mem q2)
          rw [ey] at atY
          have st := SqT.of (K := K) ht
          have gm2 := S2.gm
          have gyj2 := S2.gy jj jq
          have gc2 := S2.gc
          have hx2 := r2.seq hxs
          have hp2 := r2 _ _ hp'
          have dp2 := r2 _ _ dp'
          clean_wf
          refine ⟨p ii, ma, rfl, me ii, n, b ii, d ii, kv ii, me jj, bj, cj, S2.tw.ch ii iq, by have := S2.tw.ln ii iq; omega, hma, mne, fun A3 d' kv' k3 c3 l3 w3 => ?_⟩
          have kt : SmH A2 A3 := fun x ls e => k3 _ _ (ne_of e hp2 (by intro z; cases z)) (ne_of e dp2 (by intro z; cases z)) e
          have kl : ∀ {x : Addr} {ls : List V}, A2 x = some (.lst ls) → A3 x = some (.lst ls) := fun e => k3 _ _ (ne_of e hp2 (by intro z; cases z)) (ne_of e dp2 (by intro z; cases z)) e
          have gb3 := kl S2.gb
          clean_wf
          refine ⟨W ii, w, rfl, b ii, bj, (S2.wb ii iq).up kt, hw.up kt, fun z hz => ?_⟩
          clean_wf
          refine x_setL gb3 (ixB W) fun A5 b5 g5 => ?_
          have hv : BaV A5 z (gtr (b ii) bj) := hz.up (SmH.but b5 gb3 (by intro _ z; cases z))
          exact rest _ _ ⟨_, _, _, _, _, _, _, _, ys, rfl, b5.at qb (kl (r2 _ _ gq1)), S2.step SD iq k3 c3 (by have := S2.tw.ln ii iq; omega) w3 (.refl _) b5 g5 hv⟩
        · exact rest _ _ ⟨_, _, _, _, b, d, kv, W, ys, rfl, r2 _ _ gq1, S2.mono⟩
  rintro σ A ⟨v6, v7, v8, v9, v10, v11, v12, b, d, kv, W, ys, rfl, gq, SA⟩
  have gcA := SA.gc
  have gbA := SA.gb
  have c0 : atI ((List.range 2).map fun i => V.ref (p i)) 0 = some (V.ref (p 0)) := rng_at (g := fun i => V.ref (p i)) (i := 0) (by decide)
  have c1 : atI ((List.range 2).map fun i => V.ref (p i)) 1 = some (V.ref (p 1)) := rng_at (g := fun i => V.ref (p i)) (i := 1) (by decide)
  have e0 : atI ((List.range 2).map W) 0 = some (W 0) := rng_at (g := W) (i := 0) (by decide)
  have e1 : atI ((List.range 2).map W) 1 = some (W 1) := rng_at (g := W) (i := 1) (by decide)
  clean_wf
  refine ⟨p 0, W 0, rfl, me 0, n, b 0, d 0, kv 0, SA.tw.ch 0 (by decide), SA.wb 0 (by decide), fun E1 r => ?_⟩
  have S1 := SA.same r
  have gcA1 := S1.gc
  have gbA1 := S1.gb
  clean_wf
  refine ⟨p 1, W 1, rfl, me 1, n, b 1, d 1, kv 1, S1.tw.ch 1 (by decide), S1.wb 1 (by decide), fun E2 r2 => ?_⟩
  clean_wf
  exact k _
end
end K61


namespace K61
open PySem L2
theorem all_mk {l : PySem.W.OpenLaw} {w : World} {K : PySem.W.Frag} {h : Heap} {mg : Str → Option Value} {fa f_bit_of f_has f_hands_of f_own_copy f_is_greater f_ballot_of f_many f_more_than_half f_Change___init__ f_Change_begin f_Change_message f_Change_see_ballot f_Change_see_yes f_Change_gathers f_Change_see_votes f_Change_settled f_Change_receive f__law_cell_at f__law_stream f__law_hands f__law_greater f__law_right f__law_step f_law C_Change : Addr} (X : K.In h) (G : h.Ns mainGlobals mg) (hfa : mg "law" = some (.ref fa))
    {oc_bit_of : Value} {kV_bit_of : Value} {dc_bit_of : Value} {pm_bit_of : Value} {cd_bit_of : Value} {ct_bit_of : Value} {od_bit_of an_bit_of : Option Addr} {sl_bit_of : Array (Option Value)} {oc_has : Value} {kV_has : Value} {dc_has : Value} {pm_has : Value} {cd_has : Value} {ct_has : Value} {od_has an_has : Option Addr} {sl_has : Array (Option Value)} {oc_hands_of : Value} {kV_hands_of : Value} {dc_hands_of : Value} {pm_hands_of : Value} {cd_hands_of : Value} {ct_hands_of : Value} {od_hands_of an_hands_of : Option Addr} {sl_hands_of : Array (Option Value)} {oc_own_copy : Value} {kV_own_copy : Value} {dc_own_copy : Value} {pm_own_copy : Value} {cd_own_copy : Value} {ct_own_copy : Value} {od_own_copy an_own_copy : Option Addr} {sl_own_copy : Array (Option Value)} {oc_is_greater : Value} {kV_is_greater : Value} {dc_is_greater : Value} {pm_is_greater : Value} {cd_is_greater : Value} {ct_is_greater : Value} {od_is_greater an_is_greater : Option Addr} {sl_is_greater : Array (Option Value)} {oc_ballot_of : Value} {kV_ballot_of : Value} {dc_ballot_of : Value} {pm_ballot_of : Value} {cd_ballot_of : Value} {ct_ballot_of : Value} {od_ballot_of an_ballot_of : Option Addr} {sl_ballot_of : Array (Option Value)} {oc_many : Value} {kV_many : Value} {dc_many : Value} {pm_many : Value} {cd_many : Value} {ct_many : Value} {od_many an_many : Option Addr} {sl_many : Array (Option Value)} {oc_more_than_half : Value} {kV_more_than_half : Value} {dc_more_than_half : Value} {pm_more_than_half : Value} {cd_more_than_half : Value} {ct_more_than_half : Value} {od_more_than_half an_more_than_half : Option Addr} {sl_more_than_half : Array (Option Value)} {oc_Change___init__ : Value} {kV_Change___init__ : Value} {dc_Change___init__ : Value} {pm_Change___init__ : Value} {cd_Change___init__ : Value} {ct_Change___init__ : Value} {od_Change___init__ an_Change___init__ : Option Addr} {sl_Change___init__ : Array (Option Value)} {oc_Change_begin : Value} {kV_Change_begin : Value} {dc_Change_begin : Value} {pm_Change_begin : Value} {cd_Change_begin : Value} {ct_Change_begin : Value} {od_Change_begin an_Change_begin : Option Addr} {sl_Change_begin : Array (Option Value)} {oc_Change_message : Value} {kV_Change_message : Value} {dc_Change_message : Value} {pm_Change_message : Value} {cd_Change_message : Value} {ct_Change_message : Value} {od_Change_message an_Change_message : Option Addr} {sl_Change_message : Array (Option Value)} {oc_Change_see_ballot : Value} {kV_Change_see_ballot : Value} {dc_Change_see_ballot : Value} {pm_Change_see_ballot : Value} {cd_Change_see_ballot : Value} {ct_Change_see_ballot : Value} {od_Change_see_ballot an_Change_see_ballot : Option Addr} {sl_Change_see_ballot : Array (Option Value)} {oc_Change_see_yes : Value} {kV_Change_see_yes : Value} {dc_Change_see_yes : Value} {pm_Change_see_yes : Value} {cd_Change_see_yes : Value} {ct_Change_see_yes : Value} {od_Change_see_yes an_Change_see_yes : Option Addr} {sl_Change_see_yes : Array (Option Value)} {oc_Change_gathers : Value} {kV_Change_gathers : Value} {dc_Change_gathers : Value} {pm_Change_gathers : Value} {cd_Change_gathers : Value} {ct_Change_gathers : Value} {od_Change_gathers an_Change_gathers : Option Addr} {sl_Change_gathers : Array (Option Value)} {oc_Change_see_votes : Value} {kV_Change_see_votes : Value} {dc_Change_see_votes : Value} {pm_Change_see_votes : Value} {cd_Change_see_votes : Value} {ct_Change_see_votes : Value} {od_Change_see_votes an_Change_see_votes : Option Addr} {sl_Change_see_votes : Array (Option Value)} {oc_Change_settled : Value} {kV_Change_settled : Value} {dc_Change_settled : Value} {pm_Change_settled : Value} {cd_Change_settled : Value} {ct_Change_settled : Value} {od_Change_settled an_Change_settled : Option Addr} {sl_Change_settled : Array (Option Value)} {oc_Change_receive : Value} {kV_Change_receive : Value} {dc_Change_receive : Value} {pm_Change_receive : Value} {cd_Change_receive : Value} {ct_Change_receive : Value} {od_Change_receive an_Change_receive : Option Addr} {sl_Change_receive : Array (Option Value)} {oc__law_cell_at : Value} {kV__law_cell_at : Value} {dc__law_cell_at : Value} {pm__law_cell_at : Value} {cd__law_cell_at : Value} {ct__law_cell_at : Value} {od__law_cell_at an__law_cell_at : Option Addr} {sl__law_cell_at : Array (Option Value)} {oc__law_stream : Value} {kV__law_stream : Value} {dc__law_stream : Value} {pm__law_stream : Value} {cd__law_stream : Value} {ct__law_stream : Value} {od__law_stream an__law_stream : Option Addr} {sl__law_stream : Array (Option Value)} {oc__law_hands : Value} {kV__law_hands : Value} {dc__law_hands : Value} {pm__law_hands : Value} {cd__law_hands : Value} {ct__law_hands : Value} {od__law_hands an__law_hands : Option Addr} {sl__law_hands : Array (Option Value)} {oc__law_greater : Value} {kV__law_greater : Value} {dc__law_greater : Value} {pm__law_greater : Value} {cd__law_greater : Value} {ct__law_greater : Value} {od__law_greater an__law_greater : Option Addr} {sl__law_greater : Array (Option Value)} {oc__law_right : Value} {kV__law_right : Value} {dc__law_right : Value} {pm__law_right : Value} {cd__law_right : Value} {ct__law_right : Value} {od__law_right an__law_right : Option Addr} {sl__law_right : Array (Option Value)} {oc__law_step : Value} {kV__law_step : Value} {dc__law_step : Value} {pm__law_step : Value} {cd__law_step : Value} {ct__law_step : Value} {od__law_step an__law_step : Option Addr} {sl__law_step : Array (Option Value)} {oc_law : Value} {kV_law : Value} {dc_law : Value} {pm_law : Value} {cd_law : Value} {ct_law : Value} {od_law an_law : Option Addr} {sl_law : Array (Option Value)}
    (a_bit_of : PySem.W.nsIn K mainGlobals "bit_of" = some (some (.ref f_bit_of)))
    (a_has : PySem.W.nsIn K mainGlobals "has" = some (some (.ref f_has)))
    (a_hands_of : PySem.W.nsIn K mainGlobals "hands_of" = some (some (.ref f_hands_of)))
    (a_own_copy : PySem.W.nsIn K mainGlobals "own_copy" = some (some (.ref f_own_copy)))
    (a_is_greater : PySem.W.nsIn K mainGlobals "is_greater" = some (some (.ref f_is_greater)))
    (a_ballot_of : PySem.W.nsIn K mainGlobals "ballot_of" = some (some (.ref f_ballot_of)))
    (a_many : PySem.W.nsIn K mainGlobals "many" = some (some (.ref f_many)))
    (a_more_than_half : PySem.W.nsIn K mainGlobals "more_than_half" = some (some (.ref f_more_than_half)))
    (a__law_cell_at : PySem.W.nsIn K mainGlobals "_law_cell_at" = some (some (.ref f__law_cell_at)))
    (a__law_stream : PySem.W.nsIn K mainGlobals "_law_stream" = some (some (.ref f__law_stream)))
    (a__law_hands : PySem.W.nsIn K mainGlobals "_law_hands" = some (some (.ref f__law_hands)))
    (a__law_greater : PySem.W.nsIn K mainGlobals "_law_greater" = some (some (.ref f__law_greater)))
    (a__law_right : PySem.W.nsIn K mainGlobals "_law_right" = some (some (.ref f__law_right)))
    (a__law_step : PySem.W.nsIn K mainGlobals "_law_step" = some (some (.ref f__law_step)))
    (a_law : PySem.W.nsIn K mainGlobals "law" = some (some (.ref f_law)))
    (a_Change : PySem.W.nsIn K mainGlobals "Change" = some (some (.ref C_Change)))
    (z_bool : PySem.W.nsIn K mainGlobals "bool" = some none)
    (z_dict : PySem.W.nsIn K mainGlobals "dict" = some none)
    (z_int : PySem.W.nsIn K mainGlobals "int" = some none)
    (z_isinstance : PySem.W.nsIn K mainGlobals "isinstance" = some none)
    (z_len : PySem.W.nsIn K mainGlobals "len" = some none)
    (z_list : PySem.W.nsIn K mainGlobals "list" = some none)
    (z_range : PySem.W.nsIn K mainGlobals "range" = some none)
    (z_sum : PySem.W.nsIn K mainGlobals "sum" = some none)
    (z_tuple : PySem.W.nsIn K mainGlobals "tuple" = some none)
    (at_Change___init__ : PySem.W.findIn K (.ref C_Change) "__init__" = some (some (.ref f_Change___init__)))
    (at_Change_begin : PySem.W.findIn K (.ref C_Change) "begin" = some (some (.ref f_Change_begin)))
    (at_Change_gathers : PySem.W.findIn K (.ref C_Change) "gathers" = some (some (.ref f_Change_gathers)))
    (at_Change_message : PySem.W.findIn K (.ref C_Change) "message" = some (some (.ref f_Change_message)))
    (at_Change_receive : PySem.W.findIn K (.ref C_Change) "receive" = some (some (.ref f_Change_receive)))
    (at_Change_see_ballot : PySem.W.findIn K (.ref C_Change) "see_ballot" = some (some (.ref f_Change_see_ballot)))
    (at_Change_see_votes : PySem.W.findIn K (.ref C_Change) "see_votes" = some (some (.ref f_Change_see_votes)))
    (at_Change_see_yes : PySem.W.findIn K (.ref C_Change) "see_yes" = some (some (.ref f_Change_see_yes)))
    (at_Change_settled : PySem.W.findIn K (.ref C_Change) "settled" = some (some (.ref f_Change_settled)))
    (l_bit_of : K.lookup f_bit_of = some ⟨oc_bit_of, od_bit_of, .func (PySem.W.fnOf "bit_of" "bit_of" (defArgs s_bit_of) (defBody s_bit_of) (defScope s_bit_of) .none kV_bit_of dc_bit_of pm_bit_of an_bit_of cd_bit_of ct_bit_of), sl_bit_of⟩)
    (c_bit_of : PySem.W.codeIn K cd_bit_of "bit_of" = true)
    (k_bit_of : PySem.W.keepIn K (.ref f_bit_of) = true)
    (l_has : K.lookup f_has = some ⟨oc_has, od_has, .func (PySem.W.fnOf "has" "has" (defArgs s_has) (defBody s_has) (defScope s_has) .none kV_has dc_has pm_has an_has cd_has ct_has), sl_has⟩)
    (c_has : PySem.W.codeIn K cd_has "has" = true)
    (k_has : PySem.W.keepIn K (.ref f_has) = true)
    (l_hands_of : K.lookup f_hands_of = some ⟨oc_hands_of, od_hands_of, .func (PySem.W.fnOf "hands_of" "hands_of" (defArgs s_hands_of) (defBody s_hands_of) (defScope s_hands_of) .none kV_hands_of dc_hands_of pm_hands_of an_hands_of cd_hands_of ct_hands_of), sl_hands_of⟩)
    (c_hands_of : PySem.W.codeIn K cd_hands_of "hands_of" = true)
    (k_hands_of : PySem.W.keepIn K (.ref f_hands_of) = true)
    (l_own_copy : K.lookup f_own_copy = some ⟨oc_own_copy, od_own_copy, .func (PySem.W.fnOf "own_copy" "own_copy" (defArgs s_own_copy) (defBody s_own_copy) (defScope s_own_copy) .none kV_own_copy dc_own_copy pm_own_copy an_own_copy cd_own_copy ct_own_copy), sl_own_copy⟩)
    (c_own_copy : PySem.W.codeIn K cd_own_copy "own_copy" = true)
    (k_own_copy : PySem.W.keepIn K (.ref f_own_copy) = true)
    (l_is_greater : K.lookup f_is_greater = some ⟨oc_is_greater, od_is_greater, .func (PySem.W.fnOf "is_greater" "is_greater" (defArgs s_is_greater) (defBody s_is_greater) (defScope s_is_greater) .none kV_is_greater dc_is_greater pm_is_greater an_is_greater cd_is_greater ct_is_greater), sl_is_greater⟩)
    (c_is_greater : PySem.W.codeIn K cd_is_greater "is_greater" = true)
    (k_is_greater : PySem.W.keepIn K (.ref f_is_greater) = true)
    (l_ballot_of : K.lookup f_ballot_of = some ⟨oc_ballot_of, od_ballot_of, .func (PySem.W.fnOf "ballot_of" "ballot_of" (defArgs s_ballot_of) (defBody s_ballot_of) (defScope s_ballot_of) .none kV_ballot_of dc_ballot_of pm_ballot_of an_ballot_of cd_ballot_of ct_ballot_of), sl_ballot_of⟩)
    (c_ballot_of : PySem.W.codeIn K cd_ballot_of "ballot_of" = true)
    (k_ballot_of : PySem.W.keepIn K (.ref f_ballot_of) = true)
    (l_many : K.lookup f_many = some ⟨oc_many, od_many, .func (PySem.W.fnOf "many" "many" (defArgs s_many) (defBody s_many) (defScope s_many) .none kV_many dc_many pm_many an_many cd_many ct_many), sl_many⟩)
    (c_many : PySem.W.codeIn K cd_many "many" = true)
    (k_many : PySem.W.keepIn K (.ref f_many) = true)
    (l_more_than_half : K.lookup f_more_than_half = some ⟨oc_more_than_half, od_more_than_half, .func (PySem.W.fnOf "more_than_half" "more_than_half" (defArgs s_more_than_half) (defBody s_more_than_half) (defScope s_more_than_half) .none kV_more_than_half dc_more_than_half pm_more_than_half an_more_than_half cd_more_than_half ct_more_than_half), sl_more_than_half⟩)
    (c_more_than_half : PySem.W.codeIn K cd_more_than_half "more_than_half" = true)
    (k_more_than_half : PySem.W.keepIn K (.ref f_more_than_half) = true)
    (l_Change___init__ : K.lookup f_Change___init__ = some ⟨oc_Change___init__, od_Change___init__, .func (PySem.W.fnOf "__init__" "Change.__init__" (defArgs s_Change___init__) (defBody s_Change___init__) (defScope s_Change___init__) .none kV_Change___init__ dc_Change___init__ pm_Change___init__ an_Change___init__ cd_Change___init__ ct_Change___init__), sl_Change___init__⟩)
    (c_Change___init__ : PySem.W.codeIn K cd_Change___init__ "Change.__init__" = true)
    (k_Change___init__ : PySem.W.keepIn K (.ref f_Change___init__) = true)
    (l_Change_begin : K.lookup f_Change_begin = some ⟨oc_Change_begin, od_Change_begin, .func (PySem.W.fnOf "begin" "Change.begin" (defArgs s_Change_begin) (defBody s_Change_begin) (defScope s_Change_begin) .none kV_Change_begin dc_Change_begin pm_Change_begin an_Change_begin cd_Change_begin ct_Change_begin), sl_Change_begin⟩)
    (c_Change_begin : PySem.W.codeIn K cd_Change_begin "Change.begin" = true)
    (k_Change_begin : PySem.W.keepIn K (.ref f_Change_begin) = true)
    (l_Change_message : K.lookup f_Change_message = some ⟨oc_Change_message, od_Change_message, .func (PySem.W.fnOf "message" "Change.message" (defArgs s_Change_message) (defBody s_Change_message) (defScope s_Change_message) .none kV_Change_message dc_Change_message pm_Change_message an_Change_message cd_Change_message ct_Change_message), sl_Change_message⟩)
    (c_Change_message : PySem.W.codeIn K cd_Change_message "Change.message" = true)
    (k_Change_message : PySem.W.keepIn K (.ref f_Change_message) = true)
    (l_Change_see_ballot : K.lookup f_Change_see_ballot = some ⟨oc_Change_see_ballot, od_Change_see_ballot, .func (PySem.W.fnOf "see_ballot" "Change.see_ballot" (defArgs s_Change_see_ballot) (defBody s_Change_see_ballot) (defScope s_Change_see_ballot) .none kV_Change_see_ballot dc_Change_see_ballot pm_Change_see_ballot an_Change_see_ballot cd_Change_see_ballot ct_Change_see_ballot), sl_Change_see_ballot⟩)
    (c_Change_see_ballot : PySem.W.codeIn K cd_Change_see_ballot "Change.see_ballot" = true)
    (k_Change_see_ballot : PySem.W.keepIn K (.ref f_Change_see_ballot) = true)
    (l_Change_see_yes : K.lookup f_Change_see_yes = some ⟨oc_Change_see_yes, od_Change_see_yes, .func (PySem.W.fnOf "see_yes" "Change.see_yes" (defArgs s_Change_see_yes) (defBody s_Change_see_yes) (defScope s_Change_see_yes) .none kV_Change_see_yes dc_Change_see_yes pm_Change_see_yes an_Change_see_yes cd_Change_see_yes ct_Change_see_yes), sl_Change_see_yes⟩)
    (c_Change_see_yes : PySem.W.codeIn K cd_Change_see_yes "Change.see_yes" = true)
    (k_Change_see_yes : PySem.W.keepIn K (.ref f_Change_see_yes) = true)
    (l_Change_gathers : K.lookup f_Change_gathers = some ⟨oc_Change_gathers, od_Change_gathers, .func (PySem.W.fnOf "gathers" "Change.gathers" (defArgs s_Change_gathers) (defBody s_Change_gathers) (defScope s_Change_gathers) .none kV_Change_gathers dc_Change_gathers pm_Change_gathers an_Change_gathers cd_Change_gathers ct_Change_gathers), sl_Change_gathers⟩)
    (c_Change_gathers : PySem.W.codeIn K cd_Change_gathers "Change.gathers" = true)
    (k_Change_gathers : PySem.W.keepIn K (.ref f_Change_gathers) = true)
    (l_Change_see_votes : K.lookup f_Change_see_votes = some ⟨oc_Change_see_votes, od_Change_see_votes, .func (PySem.W.fnOf "see_votes" "Change.see_votes" (defArgs s_Change_see_votes) (defBody s_Change_see_votes) (defScope s_Change_see_votes) .none kV_Change_see_votes dc_Change_see_votes pm_Change_see_votes an_Change_see_votes cd_Change_see_votes ct_Change_see_votes), sl_Change_see_votes⟩)
    (c_Change_see_votes : PySem.W.codeIn K cd_Change_see_votes "Change.see_votes" = true)
    (k_Change_see_votes : PySem.W.keepIn K (.ref f_Change_see_votes) = true)
    (l_Change_settled : K.lookup f_Change_settled = some ⟨oc_Change_settled, od_Change_settled, .func (PySem.W.fnOf "settled" "Change.settled" (defArgs s_Change_settled) (defBody s_Change_settled) (defScope s_Change_settled) .none kV_Change_settled dc_Change_settled pm_Change_settled an_Change_settled cd_Change_settled ct_Change_settled), sl_Change_settled⟩)
    (c_Change_settled : PySem.W.codeIn K cd_Change_settled "Change.settled" = true)
    (k_Change_settled : PySem.W.keepIn K (.ref f_Change_settled) = true)
    (l_Change_receive : K.lookup f_Change_receive = some ⟨oc_Change_receive, od_Change_receive, .func (PySem.W.fnOf "receive" "Change.receive" (defArgs s_Change_receive) (defBody s_Change_receive) (defScope s_Change_receive) .none kV_Change_receive dc_Change_receive pm_Change_receive an_Change_receive cd_Change_receive ct_Change_receive), sl_Change_receive⟩)
    (c_Change_receive : PySem.W.codeIn K cd_Change_receive "Change.receive" = true)
    (k_Change_receive : PySem.W.keepIn K (.ref f_Change_receive) = true)
    (l__law_cell_at : K.lookup f__law_cell_at = some ⟨oc__law_cell_at, od__law_cell_at, .func (PySem.W.fnOf "_law_cell_at" "_law_cell_at" (defArgs s__law_cell_at) (defBody s__law_cell_at) (defScope s__law_cell_at) .none kV__law_cell_at dc__law_cell_at pm__law_cell_at an__law_cell_at cd__law_cell_at ct__law_cell_at), sl__law_cell_at⟩)
    (c__law_cell_at : PySem.W.codeIn K cd__law_cell_at "_law_cell_at" = true)
    (k__law_cell_at : PySem.W.keepIn K (.ref f__law_cell_at) = true)
    (l__law_stream : K.lookup f__law_stream = some ⟨oc__law_stream, od__law_stream, .func (PySem.W.fnOf "_law_stream" "_law_stream" (defArgs s__law_stream) (defBody s__law_stream) (defScope s__law_stream) .none kV__law_stream dc__law_stream pm__law_stream an__law_stream cd__law_stream ct__law_stream), sl__law_stream⟩)
    (c__law_stream : PySem.W.codeIn K cd__law_stream "_law_stream" = true)
    (k__law_stream : PySem.W.keepIn K (.ref f__law_stream) = true)
    (l__law_hands : K.lookup f__law_hands = some ⟨oc__law_hands, od__law_hands, .func (PySem.W.fnOf "_law_hands" "_law_hands" (defArgs s__law_hands) (defBody s__law_hands) (defScope s__law_hands) .none kV__law_hands dc__law_hands pm__law_hands an__law_hands cd__law_hands ct__law_hands), sl__law_hands⟩)
    (c__law_hands : PySem.W.codeIn K cd__law_hands "_law_hands" = true)
    (k__law_hands : PySem.W.keepIn K (.ref f__law_hands) = true)
    (l__law_greater : K.lookup f__law_greater = some ⟨oc__law_greater, od__law_greater, .func (PySem.W.fnOf "_law_greater" "_law_greater" (defArgs s__law_greater) (defBody s__law_greater) (defScope s__law_greater) .none kV__law_greater dc__law_greater pm__law_greater an__law_greater cd__law_greater ct__law_greater), sl__law_greater⟩)
    (c__law_greater : PySem.W.codeIn K cd__law_greater "_law_greater" = true)
    (k__law_greater : PySem.W.keepIn K (.ref f__law_greater) = true)
    (l__law_right : K.lookup f__law_right = some ⟨oc__law_right, od__law_right, .func (PySem.W.fnOf "_law_right" "_law_right" (defArgs s__law_right) (defBody s__law_right) (defScope s__law_right) .none kV__law_right dc__law_right pm__law_right an__law_right cd__law_right ct__law_right), sl__law_right⟩)
    (c__law_right : PySem.W.codeIn K cd__law_right "_law_right" = true)
    (k__law_right : PySem.W.keepIn K (.ref f__law_right) = true)
    (l__law_step : K.lookup f__law_step = some ⟨oc__law_step, od__law_step, .func (PySem.W.fnOf "_law_step" "_law_step" (defArgs s__law_step) (defBody s__law_step) (defScope s__law_step) .none kV__law_step dc__law_step pm__law_step an__law_step cd__law_step ct__law_step), sl__law_step⟩)
    (c__law_step : PySem.W.codeIn K cd__law_step "_law_step" = true)
    (k__law_step : PySem.W.keepIn K (.ref f__law_step) = true)
    (l_law : K.lookup f_law = some ⟨oc_law, od_law, .func (PySem.W.fnOf "law" "law" (defArgs s_law) (defBody s_law) (defScope s_law) .none kV_law dc_law pm_law an_law cd_law ct_law), sl_law⟩)
    (c_law : PySem.W.codeIn K cd_law "law" = true)
    (k_law : PySem.W.keepIn K (.ref f_law) = true)
    (i_Change___init__ : PySem.W.isFn K (.ref f_Change___init__) = true)
    (i_Change_begin : PySem.W.isFn K (.ref f_Change_begin) = true)
    (i_Change_gathers : PySem.W.isFn K (.ref f_Change_gathers) = true)
    (i_Change_message : PySem.W.isFn K (.ref f_Change_message) = true)
    (i_Change_receive : PySem.W.isFn K (.ref f_Change_receive) = true)
    (i_Change_see_ballot : PySem.W.isFn K (.ref f_Change_see_ballot) = true)
    (i_Change_see_votes : PySem.W.isFn K (.ref f_Change_see_votes) = true)
    (i_Change_see_yes : PySem.W.isFn K (.ref f_Change_see_yes) = true)
    (i_Change_settled : PySem.W.isFn K (.ref f_Change_settled) = true)
    (pg_Change : PySem.W.plainGet K C_Change Str.empty = true)
    (hd_Change : PySem.W.hasDictIn K C_Change = true)
    (po_Change : PySem.W.plainOver K C_Change = true)
    (sa_Change : PySem.W.findIn K (.ref C_Change) "__setattr__" = some (some (.builtin "object.__setattr__")))
    (n_Change_me : PySem.W.findIn K (.ref C_Change) "me" = some none)
    (n_Change_hands : PySem.W.findIn K (.ref C_Change) "hands" = some none)
    (n_Change_ballot : PySem.W.findIn K (.ref C_Change) "ballot" = some none)
    (n_Change_yes : PySem.W.findIn K (.ref C_Change) "yes" = some none)
    (n_Change_votes : PySem.W.findIn K (.ref C_Change) "votes" = some none)
    (n_Change_reports : PySem.W.findIn K (.ref C_Change) "reports" = some none)
    (n_Change_agreed : PySem.W.findIn K (.ref C_Change) "agreed" = some none)
    (mk_Change : PySem.W.makesIn K C_Change = true)
    (kc_Change : PySem.W.keepIn K (.ref C_Change) = true)
    : ∃ fd : FuncData, (∀ (s : Shared) (v : Value), BindsTo s fd ⟨[v], []⟩ [("_law_script", v)]) ∧ ∀ base : Heap, K.In base → base.Ns mainGlobals mg → FnOk l.prog w K mg base CX0 8 fa fd ["_law_script"] (sp_law K) := by
  have e := hfa.symm.trans (PySem.W.mg_of X G a_law)
  cases e
  have F_bit_of := fun_mk (st := s_bit_of) l_bit_of c_bit_of k_bit_of
  have CA_bit_of : Cal K mg "bit_of" f_bit_of _ ["hand"] := ⟨PySem.W.mg_of X G a_bit_of, k_bit_of, F_bit_of.binds (ps := ["hand"]) fun _ _ _ _ _ _ us hl => match us, hl with | [_], _ => rfl⟩
  have F_has := fun_mk (st := s_has) l_has c_has k_has
  have CA_has : Cal K mg "has" f_has _ ["hands", "hand"] := ⟨PySem.W.mg_of X G a_has, k_has, F_has.binds (ps := ["hands", "hand"]) fun _ _ _ _ _ _ us hl => match us, hl with | [_, _], _ => rfl⟩
  have F_hands_of := fun_mk (st := s_hands_of) l_hands_of c_hands_of k_hands_of
  have CA_hands_of : Cal K mg "hands_of" f_hands_of _ ["hands"] := ⟨PySem.W.mg_of X G a_hands_of, k_hands_of, F_hands_of.binds (ps := ["hands"]) fun _ _ _ _ _ _ us hl => match us, hl with | [_], _ => rfl⟩
  have F_own_copy := fun_mk (st := s_own_copy) l_own_copy c_own_copy k_own_copy
  have CA_own_copy : Cal K mg "own_copy" f_own_copy _ ["value"] := ⟨PySem.W.mg_of X G a_own_copy, k_own_copy, F_own_copy.binds (ps := ["value"]) fun _ _ _ _ _ _ us hl => match us, hl with | [_], _ => rfl⟩
  have F_is_greater := fun_mk (st := s_is_greater) l_is_greater c_is_greater k_is_greater
  have CA_is_greater : Cal K mg "is_greater" f_is_greater _ ["one", "other"] := ⟨PySem.W.mg_of X G a_is_greater, k_is_greater, F_is_greater.binds (ps := ["one", "other"]) fun _ _ _ _ _ _ us hl => match us, hl with | [_, _], _ => rfl⟩
  have F_ballot_of := fun_mk (st := s_ballot_of) l_ballot_of c_ballot_of k_ballot_of
  have CA_ballot_of : Cal K mg "ballot_of" f_ballot_of _ ["yes"] := ⟨PySem.W.mg_of X G a_ballot_of, k_ballot_of, F_ballot_of.binds (ps := ["yes"]) fun _ _ _ _ _ _ us hl => match us, hl with | [_], _ => rfl⟩
  have F_many := fun_mk (st := s_many) l_many c_many k_many
  have CA_many : Cal K mg "many" f_many _ ["hands"] := ⟨PySem.W.mg_of X G a_many, k_many, F_many.binds (ps := ["hands"]) fun _ _ _ _ _ _ us hl => match us, hl with | [_], _ => rfl⟩
  have F_more_than_half := fun_mk (st := s_more_than_half) l_more_than_half c_more_than_half k_more_than_half
  have CA_more_than_half : Cal K mg "more_than_half" f_more_than_half _ ["some", "hands"] := ⟨PySem.W.mg_of X G a_more_than_half, k_more_than_half, F_more_than_half.binds (ps := ["some", "hands"]) fun _ _ _ _ _ _ us hl => match us, hl with | [_, _], _ => rfl⟩
  have F_Change___init__ := fun_mk (st := s_Change___init__) l_Change___init__ c_Change___init__ k_Change___init__
  have B_Change___init__ : Binds K _ ["self", "me", "hands"] [] := F_Change___init__.binds (ps := ["self", "me", "hands"]) fun _ _ _ _ _ _ us hl => match us, hl with | [_, _, _], _ => rfl
  have F_Change_begin := fun_mk (st := s_Change_begin) l_Change_begin c_Change_begin k_Change_begin
  have B_Change_begin : Binds K _ ["self", "more", "report"] [] := F_Change_begin.binds (ps := ["self", "more", "report"]) fun _ _ _ _ _ _ us hl => match us, hl with | [_, _, _], _ => rfl
  have F_Change_message := fun_mk (st := s_Change_message) l_Change_message c_Change_message k_Change_message
  have B_Change_message : Binds K _ ["self", "report"] [] := F_Change_message.binds (ps := ["self", "report"]) fun _ _ _ _ _ _ us hl => match us, hl with | [_, _], _ => rfl
  have F_Change_see_ballot := fun_mk (st := s_Change_see_ballot) l_Change_see_ballot c_Change_see_ballot k_Change_see_ballot
  have B_Change_see_ballot : Binds K _ ["self", "ballot"] [] := F_Change_see_ballot.binds (ps := ["self", "ballot"]) fun _ _ _ _ _ _ us hl => match us, hl with | [_, _], _ => rfl
  have F_Change_see_yes := fun_mk (st := s_Change_see_yes) l_Change_see_yes c_Change_see_yes k_Change_see_yes
  have B_Change_see_yes : Binds K _ ["self", "yes", "votes"] [] := F_Change_see_yes.binds (ps := ["self", "yes", "votes"]) fun _ _ _ _ _ _ us hl => match us, hl with | [_, _, _], _ => rfl
  have F_Change_gathers := fun_mk (st := s_Change_gathers) l_Change_gathers c_Change_gathers k_Change_gathers
  have B_Change_gathers : Binds K _ ["self"] [] := F_Change_gathers.binds (ps := ["self"]) fun _ _ _ _ _ _ us hl => match us, hl with | [_], _ => rfl
  have F_Change_see_votes := fun_mk (st := s_Change_see_votes) l_Change_see_votes c_Change_see_votes k_Change_see_votes
  have B_Change_see_votes : Binds K _ ["self"] [] := F_Change_see_votes.binds (ps := ["self"]) fun _ _ _ _ _ _ us hl => match us, hl with | [_], _ => rfl
  have F_Change_settled := fun_mk (st := s_Change_settled) l_Change_settled c_Change_settled k_Change_settled
  have B_Change_settled : Binds K _ ["self"] [] := F_Change_settled.binds (ps := ["self"]) fun _ _ _ _ _ _ us hl => match us, hl with | [_], _ => rfl
  have F_Change_receive := fun_mk (st := s_Change_receive) l_Change_receive c_Change_receive k_Change_receive
  have B_Change_receive : Binds K _ ["self", "message"] [] := F_Change_receive.binds (ps := ["self", "message"]) fun _ _ _ _ _ _ us hl => match us, hl with | [_, _], _ => rfl
  have F__law_cell_at := fun_mk (st := s__law_cell_at) l__law_cell_at c__law_cell_at k__law_cell_at
  have CA__law_cell_at : Cal K mg "_law_cell_at" f__law_cell_at _ ["_law_script", "_law_k"] := ⟨PySem.W.mg_of X G a__law_cell_at, k__law_cell_at, F__law_cell_at.binds (ps := ["_law_script", "_law_k"]) fun _ _ _ _ _ _ us hl => match us, hl with | [_, _], _ => rfl⟩
  have F__law_stream := fun_mk (st := s__law_stream) l__law_stream c__law_stream k__law_stream
  have CA__law_stream : Cal K mg "_law_stream" f__law_stream _ ["_law_cell", "_law_amount"] := ⟨PySem.W.mg_of X G a__law_stream, k__law_stream, F__law_stream.binds (ps := ["_law_cell", "_law_amount"]) fun _ _ _ _ _ _ us hl => match us, hl with | [_, _], _ => rfl⟩
  have F__law_hands := fun_mk (st := s__law_hands) l__law_hands c__law_hands k__law_hands
  have CA__law_hands : Cal K mg "_law_hands" f__law_hands _ ["_law_cell"] := ⟨PySem.W.mg_of X G a__law_hands, k__law_hands, F__law_hands.binds (ps := ["_law_cell"]) fun _ _ _ _ _ _ us hl => match us, hl with | [_], _ => rfl⟩
  have F__law_greater := fun_mk (st := s__law_greater) l__law_greater c__law_greater k__law_greater
  have CA__law_greater : Cal K mg "_law_greater" f__law_greater _ ["_law_one", "_law_other"] := ⟨PySem.W.mg_of X G a__law_greater, k__law_greater, F__law_greater.binds (ps := ["_law_one", "_law_other"]) fun _ _ _ _ _ _ us hl => match us, hl with | [_, _], _ => rfl⟩
  have F__law_right := fun_mk (st := s__law_right) l__law_right c__law_right k__law_right
  have CA__law_right : Cal K mg "_law_right" f__law_right _ ["_law_change", "_law_ballot"] := ⟨PySem.W.mg_of X G a__law_right, k__law_right, F__law_right.binds (ps := ["_law_change", "_law_ballot"]) fun _ _ _ _ _ _ us hl => match us, hl with | [_, _], _ => rfl⟩
  have F__law_step := fun_mk (st := s__law_step) l__law_step c__law_step k__law_step
  have CA__law_step : Cal K mg "_law_step" f__law_step _ ["_law_xs"] := ⟨PySem.W.mg_of X G a__law_step, k__law_step, F__law_step.binds (ps := ["_law_xs"]) fun _ _ _ _ _ _ us hl => match us, hl with | [_], _ => rfl⟩
  have F_law := fun_mk (st := s_law) l_law c_law k_law
  have m_Change := PySem.W.mg_of X G a_Change
  have T_Change : TChange K C_Change := ⟨⟨pg_Change, hd_Change, po_Change, sa_Change⟩, n_Change_me, n_Change_hands, n_Change_ballot, n_Change_yes, n_Change_votes, n_Change_reports, n_Change_agreed⟩
  have mt_Change_begin : Meth K C_Change "begin" f_Change_begin := ⟨at_Change_begin, i_Change_begin, k_Change_begin⟩
  have mt_Change_gathers : Meth K C_Change "gathers" f_Change_gathers := ⟨at_Change_gathers, i_Change_gathers, k_Change_gathers⟩
  have mt_Change_message : Meth K C_Change "message" f_Change_message := ⟨at_Change_message, i_Change_message, k_Change_message⟩
  have mt_Change_receive : Meth K C_Change "receive" f_Change_receive := ⟨at_Change_receive, i_Change_receive, k_Change_receive⟩
  have mt_Change_see_ballot : Meth K C_Change "see_ballot" f_Change_see_ballot := ⟨at_Change_see_ballot, i_Change_see_ballot, k_Change_see_ballot⟩
  have mt_Change_see_votes : Meth K C_Change "see_votes" f_Change_see_votes := ⟨at_Change_see_votes, i_Change_see_votes, k_Change_see_votes⟩
  have mt_Change_see_yes : Meth K C_Change "see_yes" f_Change_see_yes := ⟨at_Change_see_yes, i_Change_see_yes, k_Change_see_yes⟩
  have mt_Change_settled : Meth K C_Change "settled" f_Change_settled := ⟨at_Change_settled, i_Change_settled, k_Change_settled⟩
  have M_Change : Mk K C_Change f_Change___init__ := ⟨mk_Change, at_Change___init__, i_Change___init__, kc_Change⟩
  have Z_bool : mg "bool" = none := PySem.W.mg_none_of X G z_bool
  have Z_dict : mg "dict" = none := PySem.W.mg_none_of X G z_dict
  have Z_int : mg "int" = none := PySem.W.mg_none_of X G z_int
  have Z_isinstance : mg "isinstance" = none := PySem.W.mg_none_of X G z_isinstance
  have Z_len : mg "len" = none := PySem.W.mg_none_of X G z_len
  have Z_list : mg "list" = none := PySem.W.mg_none_of X G z_list
  have Z_range : mg "range" = none := PySem.W.mg_none_of X G z_range
  have Z_sum : mg "sum" = none := PySem.W.mg_none_of X G z_sum
  have Z_tuple : mg "tuple" = none := PySem.W.mg_none_of X G z_tuple
  refine ⟨PySem.W.fnOf "law" "law" (defArgs s_law) (defBody s_law) (defScope s_law) .none kV_law dc_law pm_law an_law cd_law ct_law, fun s v => .of_eq rfl, fun base _ _ => ?_⟩
  have G_bit_of : FnOk l.prog w K mg base CX0 1 f_bit_of _ ["hand"] (sp_bit_of K) := ok_bit_of F_bit_of
  have G_has : FnOk l.prog w K mg base CX0 2 f_has _ ["hands", "hand"] (sp_has K) := ok_has F_has (G_bit_of.mono (by decide)) CA_bit_of
  have G_hands_of : FnOk l.prog w K mg base CX0 3 f_hands_of _ ["hands"] (sp_hands_of K) := ok_hands_of F_hands_of (G_has.mono (by decide)) CA_has Z_range
  have G_own_copy : FnOk l.prog w K mg base CX0 4 f_own_copy _ ["value"] (sp_own_copy K) := ok_own_copy F_own_copy CA_own_copy Z_dict Z_isinstance Z_list Z_tuple
  have G_is_greater : FnOk l.prog w K mg base CX0 1 f_is_greater _ ["one", "other"] (sp_is_greater K) := ok_is_greater F_is_greater
  have G_ballot_of : FnOk l.prog w K mg base CX0 1 f_ballot_of _ ["yes"] (sp_ballot_of K) := ok_ballot_of F_ballot_of
  have G_many : FnOk l.prog w K mg base CX0 4 f_many _ ["hands"] (sp_many K) := ok_many F_many (G_hands_of.mono (by decide)) CA_hands_of Z_len
  have G_more_than_half : FnOk l.prog w K mg base CX0 5 f_more_than_half _ ["some", "hands"] (sp_more_than_half K) := ok_more_than_half F_more_than_half (G_many.mono (by decide)) CA_many
  have G_Change___init__ : FnOk l.prog w K mg base CX0 1 f_Change___init__ _ ["self", "me", "hands"] (sp_Change___init__ K) := ok_Change___init__ F_Change___init__
  have G_Change_begin : FnOk l.prog w K mg base CX0 5 f_Change_begin _ ["self", "more", "report"] (sp_Change_begin K mg) := ok_Change_begin F_Change_begin (G_own_copy.mono (by decide)) CA_own_copy T_Change m_Change
  have G_Change_message : FnOk l.prog w K mg base CX0 5 f_Change_message _ ["self", "report"] (sp_Change_message K mg) := ok_Change_message F_Change_message (G_own_copy.mono (by decide)) CA_own_copy T_Change m_Change
  have G_Change_see_ballot : FnOk l.prog w K mg base CX0 2 f_Change_see_ballot _ ["self", "ballot"] (sp_Change_see_ballot K mg) := ok_Change_see_ballot F_Change_see_ballot (G_is_greater.mono (by decide)) CA_is_greater T_Change m_Change
  have G_Change_see_yes : FnOk l.prog w K mg base CX0 1 f_Change_see_yes _ ["self", "yes", "votes"] (sp_Change_see_yes K) := ok_Change_see_yes F_Change_see_yes
  have G_Change_gathers : FnOk l.prog w K mg base CX0 2 f_Change_gathers _ ["self"] (sp_Change_gathers K mg) := ok_Change_gathers F_Change_gathers (G_ballot_of.mono (by decide)) CA_ballot_of T_Change m_Change
  have G_Change_see_votes : FnOk l.prog w K mg base CX0 6 f_Change_see_votes _ ["self"] (sp_Change_see_votes K mg) := ok_Change_see_votes F_Change_see_votes (G_more_than_half.mono (by decide)) CA_more_than_half T_Change m_Change
  have G_Change_settled : FnOk l.prog w K mg base CX0 5 f_Change_settled _ ["self"] (sp_Change_settled K mg) := ok_Change_settled F_Change_settled (G_own_copy.mono (by decide)) CA_own_copy T_Change m_Change
  have G_Change_receive : FnOk l.prog w K mg base CX0 7 f_Change_receive _ ["self", "message"] (sp_Change_receive K mg) := ok_Change_receive F_Change_receive (G_own_copy.mono (by decide)) CA_own_copy (G_Change_see_ballot.mono (by decide)) B_Change_see_ballot (G_Change_see_yes.mono (by decide)) B_Change_see_yes (G_Change_gathers.mono (by decide)) B_Change_gathers (G_Change_see_votes.mono (by decide)) B_Change_see_votes T_Change m_Change mt_Change_gathers mt_Change_see_ballot mt_Change_see_votes mt_Change_see_yes
  have G__law_cell_at : FnOk l.prog w K mg base CX0 1 f__law_cell_at _ ["_law_script", "_law_k"] (sp__law_cell_at K) := ok__law_cell_at F__law_cell_at Z_len
  have G__law_stream : FnOk l.prog w K mg base CX0 1 f__law_stream _ ["_law_cell", "_law_amount"] (sp__law_stream K) := ok__law_stream F__law_stream Z_range
  have G__law_hands : FnOk l.prog w K mg base CX0 2 f__law_hands _ ["_law_cell"] (sp__law_hands K) := ok__law_hands F__law_hands (G__law_stream.mono (by decide)) CA__law_stream
  have G__law_greater : FnOk l.prog w K mg base CX0 1 f__law_greater _ ["_law_one", "_law_other"] (sp__law_greater K) := ok__law_greater F__law_greater
  have G__law_right : FnOk l.prog w K mg base CX0 6 f__law_right _ ["_law_change", "_law_ballot"] (sp__law_right K mg) := ok__law_right F__law_right (G_Change_settled.mono (by decide)) B_Change_settled Z_bool Z_int Z_isinstance Z_len Z_tuple T_Change m_Change mt_Change_settled
  have G__law_step : FnOk l.prog w K mg base CX0 1 f__law_step _ ["_law_xs"] (sp__law_step K) := ok__law_step F__law_step
  exact ok_law F_law (G_Change___init__.mono (by decide)) B_Change___init__ (G_Change_begin.mono (by decide)) B_Change_begin (G_Change_message.mono (by decide)) B_Change_message (G_Change_receive.mono (by decide)) B_Change_receive (G__law_cell_at.mono (by decide)) CA__law_cell_at (G__law_stream.mono (by decide)) CA__law_stream (G__law_hands.mono (by decide)) CA__law_hands (G__law_greater.mono (by decide)) CA__law_greater (G__law_right.mono (by decide)) CA__law_right (G__law_step.mono (by decide)) CA__law_step Z_len Z_sum T_Change m_Change M_Change mt_Change_begin mt_Change_message mt_Change_receive
theorem walk {l : PySem.W.OpenLaw} {q : Program} {loose : List Str} {XP : (Str → Option Value) → Heap → Prop} {YP : World → Heap → Prop} {d : DefRec} {K : Params → PySem.W.Frag} (hn : l.most = some 63) (hdf : d.params.defaults = [])
    (hY : ∀ (w : World) (h : Heap), YP w h → (K w.params).In h)
    (F : ∀ (w : World) (mg : Str → Option Value) (fa : Addr) (h : Heap), (K w.params).In h → h.Ns mainGlobals mg → mg d.name = some (.ref fa) →
      ∃ fd : FuncData, (∀ (s : Shared) (u : Value), BindsTo s fd ⟨[u], []⟩ [("_law_script", u)]) ∧ ∀ base : Heap, (K w.params).In base → base.Ns mainGlobals mg → FnOk l.prog w (K w.params) mg base CX0 8 fa fd ["_law_script"] (sp_law (K w.params))) :
    PySem.W.WalkO q loose XP YP l.row.toRowW d [] (fun f vs => PySem.call f vs) :=
  L2.walk_of (n := 63) (k := 8) (x := "_law_script") (CX := fun _ => CX0) (sp := fun w => sp_law (K w.params)) hn (by decide) hdf ⟨rfl, by decide, by decide⟩ hY F (fun _ _ a ns hl _ hS => ⟨a, ns, rfl, hS, hl, fun _ => rfl⟩) fun _ _ _ _ _ z => z
end K61
open PySem PySem.W PyProof.Rows
set_option maxRecDepth 100000 in
set_option maxHeartbeats 0 in
theorem PySem.Challenge.cw_groupcall_k61_ballots_holds : PySem.Challenge.rw_groupcall_k61_ballots.Holds := by
  w_on; o_law; k_head; (case hw => w_witness2)
  k_fill
  refine K61.walk (l := PySem.Challenge.rw_groupcall_k61_ballots) rfl rfl (fun w h Y => PySem.W.kIn_of Y) ?F
  case F =>
    intro w mg fa h KX G hmg
    refine' K61.all_mk KX G hmg ?a_bit_of ?a_has ?a_hands_of ?a_own_copy ?a_is_greater ?a_ballot_of ?a_many ?a_more_than_half ?a__law_cell_at ?a__law_stream ?a__law_hands ?a__law_greater ?a__law_right ?a__law_step ?a_law ?a_Change ?z_bool ?z_dict ?z_int ?z_isinstance ?z_len ?z_list ?z_range ?z_sum ?z_tuple ?at_Change___init__ ?at_Change_begin ?at_Change_gathers ?at_Change_message ?at_Change_receive ?at_Change_see_ballot ?at_Change_see_votes ?at_Change_see_yes ?at_Change_settled ?l_bit_of ?c_bit_of ?k_bit_of ?l_has ?c_has ?k_has ?l_hands_of ?c_hands_of ?k_hands_of ?l_own_copy ?c_own_copy ?k_own_copy ?l_is_greater ?c_is_greater ?k_is_greater ?l_ballot_of ?c_ballot_of ?k_ballot_of ?l_many ?c_many ?k_many ?l_more_than_half ?c_more_than_half ?k_more_than_half ?l_Change___init__ ?c_Change___init__ ?k_Change___init__ ?l_Change_begin ?c_Change_begin ?k_Change_begin ?l_Change_message ?c_Change_message ?k_Change_message ?l_Change_see_ballot ?c_Change_see_ballot ?k_Change_see_ballot ?l_Change_see_yes ?c_Change_see_yes ?k_Change_see_yes ?l_Change_gathers ?c_Change_gathers ?k_Change_gathers ?l_Change_see_votes ?c_Change_see_votes ?k_Change_see_votes ?l_Change_settled ?c_Change_settled ?k_Change_settled ?l_Change_receive ?c_Change_receive ?k_Change_receive ?l__law_cell_at ?c__law_cell_at ?k__law_cell_at ?l__law_stream ?c__law_stream ?k__law_stream ?l__law_hands ?c__law_hands ?k__law_hands ?l__law_greater ?c__law_greater ?k__law_greater ?l__law_right ?c__law_right ?k__law_right ?l__law_step ?c__law_step ?k__law_step ?l_law ?c_law ?k_law ?i_Change___init__ ?i_Change_begin ?i_Change_gathers ?i_Change_message ?i_Change_receive ?i_Change_see_ballot ?i_Change_see_votes ?i_Change_see_yes ?i_Change_settled ?pg_Change ?hd_Change ?po_Change ?sa_Change ?n_Change_me ?n_Change_hands ?n_Change_ballot ?n_Change_yes ?n_Change_votes ?n_Change_reports ?n_Change_agreed ?mk_Change ?kc_Change
    (case a_bit_of => first | k_is | rfl | decide)
    (case a_has => first | k_is | rfl | decide)
    (case a_hands_of => first | k_is | rfl | decide)
    (case a_own_copy => first | k_is | rfl | decide)
    (case a_is_greater => first | k_is | rfl | decide)
    (case a_ballot_of => first | k_is | rfl | decide)
    (case a_many => first | k_is | rfl | decide)
    (case a_more_than_half => first | k_is | rfl | decide)
    (case a__law_cell_at => first | k_is | rfl | decide)
    (case a__law_stream => first | k_is | rfl | decide)
    (case a__law_hands => first | k_is | rfl | decide)
    (case a__law_greater => first | k_is | rfl | decide)
    (case a__law_right => first | k_is | rfl | decide)
    (case a__law_step => first | k_is | rfl | decide)
    (case a_law => first | k_is | rfl | decide)
    (case a_Change => first | k_is | rfl | decide)
    (case z_bool => first | k_is | rfl | decide)
    (case z_dict => first | k_is | rfl | decide)
    (case z_int => first | k_is | rfl | decide)
    (case z_isinstance => first | k_is | rfl | decide)
    (case z_len => first | k_is | rfl | decide)
    (case z_list => first | k_is | rfl | decide)
    (case z_range => first | k_is | rfl | decide)
    (case z_sum => first | k_is | rfl | decide)
    (case z_tuple => first | k_is | rfl | decide)
    (case at_Change___init__ => first | k_is | rfl | decide)
    (case at_Change_begin => first | k_is | rfl | decide)
    (case at_Change_gathers => first | k_is | rfl | decide)
    (case at_Change_message => first | k_is | rfl | decide)
    (case at_Change_receive => first | k_is | rfl | decide)
    (case at_Change_see_ballot => first | k_is | rfl | decide)
    (case at_Change_see_votes => first | k_is | rfl | decide)
    (case at_Change_see_yes => first | k_is | rfl | decide)
    (case at_Change_settled => first | k_is | rfl | decide)
    (case l_bit_of => first | k_is | rfl | decide)
    (case c_bit_of => first | k_is | rfl | decide)
    (case k_bit_of => first | k_is | rfl | decide)
    (case l_has => first | k_is | rfl | decide)
    (case c_has => first | k_is | rfl | decide)
    (case k_has => first | k_is | rfl | decide)
    (case l_hands_of => first | k_is | rfl | decide)
    (case c_hands_of => first | k_is | rfl | decide)
    (case k_hands_of => first | k_is | rfl | decide)
    (case l_own_copy => first | k_is | rfl | decide)
    (case c_own_copy => first | k_is | rfl | decide)
    (case k_own_copy => first | k_is | rfl | decide)
    (case l_is_greater => first | k_is | rfl | decide)
    (case c_is_greater => first | k_is | rfl | decide)
    (case k_is_greater => first | k_is | rfl | decide)
    (case l_ballot_of => first | k_is | rfl | decide)
    (case c_ballot_of => first | k_is | rfl | decide)
    (case k_ballot_of => first | k_is | rfl | decide)
    (case l_many => first | k_is | rfl | decide)
    (case c_many => first | k_is | rfl | decide)
    (case k_many => first | k_is | rfl | decide)
    (case l_more_than_half => first | k_is | rfl | decide)
    (case c_more_than_half => first | k_is | rfl | decide)
    (case k_more_than_half => first | k_is | rfl | decide)
    (case l_Change___init__ => first | k_is | rfl | decide)
    (case c_Change___init__ => first | k_is | rfl | decide)
    (case k_Change___init__ => first | k_is | rfl | decide)
    (case l_Change_begin => first | k_is | rfl | decide)
    (case c_Change_begin => first | k_is | rfl | decide)
    (case k_Change_begin => first | k_is | rfl | decide)
    (case l_Change_message => first | k_is | rfl | decide)
    (case c_Change_message => first | k_is | rfl | decide)
    (case k_Change_message => first | k_is | rfl | decide)
    (case l_Change_see_ballot => first | k_is | rfl | decide)
    (case c_Change_see_ballot => first | k_is | rfl | decide)
    (case k_Change_see_ballot => first | k_is | rfl | decide)
    (case l_Change_see_yes => first | k_is | rfl | decide)
    (case c_Change_see_yes => first | k_is | rfl | decide)
    (case k_Change_see_yes => first | k_is | rfl | decide)
    (case l_Change_gathers => first | k_is | rfl | decide)
    (case c_Change_gathers => first | k_is | rfl | decide)
    (case k_Change_gathers => first | k_is | rfl | decide)
    (case l_Change_see_votes => first | k_is | rfl | decide)
    (case c_Change_see_votes => first | k_is | rfl | decide)
    (case k_Change_see_votes => first | k_is | rfl | decide)
    (case l_Change_settled => first | k_is | rfl | decide)
    (case c_Change_settled => first | k_is | rfl | decide)
    (case k_Change_settled => first | k_is | rfl | decide)
    (case l_Change_receive => first | k_is | rfl | decide)
    (case c_Change_receive => first | k_is | rfl | decide)
    (case k_Change_receive => first | k_is | rfl | decide)
    (case l__law_cell_at => first | k_is | rfl | decide)
    (case c__law_cell_at => first | k_is | rfl | decide)
    (case k__law_cell_at => first | k_is | rfl | decide)
    (case l__law_stream => first | k_is | rfl | decide)
    (case c__law_stream => first | k_is | rfl | decide)
    (case k__law_stream => first | k_is | rfl | decide)
    (case l__law_hands => first | k_is | rfl | decide)
    (case c__law_hands => first | k_is | rfl | decide)
    (case k__law_hands => first | k_is | rfl | decide)
    (case l__law_greater => first | k_is | rfl | decide)
    (case c__law_greater => first | k_is | rfl | decide)
    (case k__law_greater => first | k_is | rfl | decide)
    (case l__law_right => first | k_is | rfl | decide)
    (case c__law_right => first | k_is | rfl | decide)
    (case k__law_right => first | k_is | rfl | decide)
    (case l__law_step => first | k_is | rfl | decide)
    (case c__law_step => first | k_is | rfl | decide)
    (case k__law_step => first | k_is | rfl | decide)
    (case l_law => first | k_is | rfl | decide)
    (case c_law => first | k_is | rfl | decide)
    (case k_law => first | k_is | rfl | decide)
    (case i_Change___init__ => first | k_is | rfl | decide)
    (case i_Change_begin => first | k_is | rfl | decide)
    (case i_Change_gathers => first | k_is | rfl | decide)
    (case i_Change_message => first | k_is | rfl | decide)
    (case i_Change_receive => first | k_is | rfl | decide)
    (case i_Change_see_ballot => first | k_is | rfl | decide)
    (case i_Change_see_votes => first | k_is | rfl | decide)
    (case i_Change_see_yes => first | k_is | rfl | decide)
    (case i_Change_settled => first | k_is | rfl | decide)
    (case pg_Change => first | k_is | rfl | decide)
    (case hd_Change => first | k_is | rfl | decide)
    (case po_Change => first | k_is | rfl | decide)
    (case sa_Change => first | k_is | rfl | decide)
    (case n_Change_me => first | k_is | rfl | decide)
    (case n_Change_hands => first | k_is | rfl | decide)
    (case n_Change_ballot => first | k_is | rfl | decide)
    (case n_Change_yes => first | k_is | rfl | decide)
    (case n_Change_votes => first | k_is | rfl | decide)
    (case n_Change_reports => first | k_is | rfl | decide)
    (case n_Change_agreed => first | k_is | rfl | decide)
    (case mk_Change => first | k_is | rfl | decide)
    (case kc_Change => first | k_is | rfl | decide)

