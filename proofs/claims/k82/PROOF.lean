import PyProof.Rows.All
import Wide.All
import OpenK.AllK
import Wide.FinOn
import Lean
import PyProof.EqAt
import PyProof.EqKinds
import PyProof.TupleCall
import PyProof.CompMap
import PyProof.MinMaxWalk
import KE.KMinBuiltin
import KE.KNest
import KE.KNestM
import PySem.Challenge.RW_groupcall_k82_a_book_folded
set_option Elab.async false
set_option linter.all false
set_option maxRecDepth 100000
namespace L2
open PySem PySem.Spec PyProof.Rows
abbrev Key := Sum Int Str
def keyIs : Key → Value → Bool
  | .inl k, v => Value.isInt k v
  | .inr x, v => Value.isStrOf x v
def keyH (w : World) : Key → Int
  | .inl k => hashInt k
  | .inr x => hashStr w x
theorem keyIs_shape : ∀ {k : Key} {v : Value}, keyIs k v = true → (∃ i t, k = Sum.inl i ∧ v = Value.int i t) ∨ (∃ x t, k = Sum.inr x ∧ v = Value.str x t)
  | .inl i, v, h => by
    obtain ⟨t, e⟩ := Value.isInt_shape (k := i) (v := v) h
    exact .inl ⟨i, t, rfl, e⟩
  | .inr x, v, h => by
    obtain ⟨t, e⟩ := Value.isStrOf_shape (x := x) (v := v) h
    exact .inr ⟨x, t, rfl, e⟩
theorem key_ll (a b : Int) : decide ((Sum.inl a : Key) = Sum.inl b) = (a == b) := by
  by_cases e : a = b
  · subst e; simp
  · have h : ¬ (Sum.inl a : Key) = Sum.inl b := fun q => e (Sum.inl.inj q)
    rw [decide_eq_false h]
    exact (beq_eq_false_iff_ne.mpr e).symm
theorem key_rr (a b : Str) : decide ((Sum.inr a : Key) = Sum.inr b) = decide (a = b) := by
  by_cases e : a = b
  · subst e; simp
  · have h : ¬ (Sum.inr a : Key) = Sum.inr b := fun q => e (Sum.inr.inj q)
    rw [decide_eq_false h, decide_eq_false e]
theorem key_lr (a : Int) (b : Str) : decide ((Sum.inl a : Key) = Sum.inr b) = false := decide_eq_false (fun q => nomatch q)
theorem key_rl (a : Str) (b : Int) : decide ((Sum.inr a : Key) = Sum.inl b) = false := decide_eq_false (fun q => nomatch q)
def mixKind (prog : Program) (w : World) : PySem.KeyKind prog w Key where
  is := keyIs
  hash := keyH w
  inj := fun v a b ha hb => by
    rcases keyIs_shape ha with ⟨i, t, rfl, rfl⟩ | ⟨x, t, rfl, rfl⟩
    · rcases keyIs_shape hb with ⟨j, u, rfl, e⟩ | ⟨y, u, rfl, e⟩
      · injection e with e1 _; rw [e1]
      · exact nomatch e
    · rcases keyIs_shape hb with ⟨j, u, rfl, e⟩ | ⟨y, u, rfl, e⟩
      · exact nomatch e
      · injection e with e1 _; rw [e1]
  byValue := fun k v h => by
    rcases keyIs_shape h with ⟨i, t, rfl, rfl⟩ | ⟨x, t, rfl, rfl⟩ <;> rfl
  pyHash := fun hv h => by
    rcases keyIs_shape hv with ⟨i, t, rfl, rfl⟩ | ⟨x, t, rfl, rfl⟩
    · exact wpAny_pyHash_int h
    · exact wpAny_pyHash_str h
  eqBool := fun hu hv h => by
    rcases keyIs_shape hu with ⟨i, t, rfl, rfl⟩ | ⟨x, t, rfl, rfl⟩
    · rcases keyIs_shape hv with ⟨j, u, rfl, rfl⟩ | ⟨y, u, rfl, rfl⟩
      · rw [key_ll] at h; exact wpAny_eqBool_int h
      · rw [key_lr] at h; exact SeqAt.EqAt.int_str i t y u _ _ _ _ h
    · rcases keyIs_shape hv with ⟨j, u, rfl, rfl⟩ | ⟨y, u, rfl, rfl⟩
      · rw [key_rl] at h; exact SeqAt.EqAt.str_int x t j u _ _ _ _ h
      · rw [key_rr] at h; exact wpAny_eqBool_str h
  «strs» := fun k x t v h => by
    rcases keyIs_shape h with ⟨i, u, rfl, e⟩ | ⟨y, u, rfl, e⟩
    · exact nomatch e
    · injection e with e1 _
      subst e1
      cases v <;> rfl
end L2
namespace L2
open PySem PySem.Spec PyProof.Rows
inductive V where
  | non | bl (b : Bool) | int (i : Int) | str (x : Str) | byt (b : Array UInt8) | flt (b : UInt64) | ref (a : Addr) | ty (n : String)
  deriving DecidableEq
def RelV : V → Value → Prop
  | .non, u => u = Value.none
  | .bl b, u => u = Value.bool b
  | .int i, u => ∃ t, u = Value.int i t
  | .str x, u => ∃ t, u = Value.str x t
  | .byt b, u => ∃ t, u = Value.bytes b t
  | .flt b, u => ∃ t, u = Value.float b t
  | .ref a, u => u = Value.ref a
  | .ty n, u => u = Value.type n
abbrev Vals : List V → List Value → Prop := Paired RelV
theorem Vals.length {xs : List V} {us : List Value} (r : Vals xs us) : xs.length = us.length := Paired.length r
theorem Vals.get : ∀ {xs : List V} {us : List Value} {i : Nat} {x : V}, Vals xs us → xs[i]? = some x → ∃ u, us[i]? = some u ∧ RelV x u
  | _, _, _, _, .nil, e => by simp at e
  | _, _, 0, _, .cons r _, e => by simp at e; subst e; exact ⟨_, rfl, r⟩
  | _, _, i + 1, x, .cons _ t, e => by
    obtain ⟨u, h1, h2⟩ := Vals.get (i := i) (x := x) t (by simpa using e)
    exact ⟨u, by simpa using h1, h2⟩
theorem Vals.set {x : V} {u : Value} (r : RelV x u) : ∀ {xs : List V} {us : List Value} (i : Nat), Vals xs us → Vals (xs.set i x) (us.set i u)
  | _, _, _, .nil => .nil
  | _, _, 0, .cons _ t => .cons r t
  | _, _, i + 1, .cons q t => .cons q (Vals.set r i t)
theorem Vals.append : ∀ {xs ys : List V} {us ws : List Value}, Vals xs us → Vals ys ws → Vals (xs ++ ys) (us ++ ws)
  | _, _, _, _, .nil, s => s
  | _, _, _, _, .cons r t, s => .cons r (Vals.append t s)
theorem Vals.take : ∀ {xs : List V} {us : List Value} (n : Nat), Vals xs us → Vals (xs.take n) (us.take n)
  | _, _, 0, _ => .nil
  | _, _, _ + 1, .nil => .nil
  | _, _, n + 1, .cons r t => .cons r (Vals.take n t)
theorem Vals.drop : ∀ {xs : List V} {us : List Value} (n : Nat), Vals xs us → Vals (xs.drop n) (us.drop n)
  | _, _, 0, r => r
  | _, _, _ + 1, .nil => .nil
  | _, _, n + 1, .cons _ t => Vals.drop n t
def RelO : Option V → Option Value → Prop
  | some v, some u => RelV v u
  | none, none => True
  | _, _ => False
def KV {κ : Type} : List (κ × V) → List (κ × Value) → Prop := Paired fun (p : κ × V) (q : κ × Value) => p.1 = q.1 ∧ RelV p.2 q.2
def kV : Key → V
  | .inl i => .int i
  | .inr x => .str x
inductive HO where
  | lst (xs : List V)
  | tup (xs : List V)
  | dK (kvs : List (Key × V)) | dT (kvs : List (List Key × V))
  | set (S : Int → Bool) (n : Nat)
  | ins (C dx : Addr) (fs : List (Str × V))
  | own (x : Addr)
  | xd (fs : List (Str × V))
  | met (f x : Addr)
  | rng (lo hi : Int)
  | frz (o : Obj) (u : HO)
  | tbl (ps : Array Value)
  | ext (φ : Heap → Prop)
abbrev Hp := Addr → Option HO
def upd (H : Hp) (a : Addr) (o : HO) : Hp := fun b => if b = a then some o else H b
theorem upd_same {H : Hp} {a : Addr} {o : HO} : upd H a o a = some o := by unfold upd; rw [if_pos rfl]
theorem upd_ne {H : Hp} {a b : Addr} {o : HO} (h : b ≠ a) : upd H a o b = H b := by unfold upd; rw [if_neg h]
theorem ne_of {H : Hp} {a b : Addr} {o u : HO} (h : H a = some o) (h' : H b = some u) (d : o ≠ u) : a ≠ b := by
  intro e; subst e; rw [h] at h'; exact d (Option.some.inj h')
theorem ne_of_none {H : Hp} {a b : Addr} {o : HO} (h : H a = some o) (h' : H b = none) : a ≠ b := by
  intro e; subst e; rw [h] at h'; cases h'
def IsTpl (h : Heap) (a : Addr) (items : Array Value) : Prop := ∃ o, h.get? a = some o ∧ o.cls = .type "tuple" ∧ ∃ n, o.data = .seq items n ∧ o.dict = none ∧ o.slots = #[]
theorem IsTpl.tup {h : Heap} {a : Addr} {items : Array Value} (x : IsTpl h a items) : IsTup h a items := let ⟨o, e, c, n, d, _⟩ := x; ⟨o, e, c, n, d⟩
theorem IsTpl.lt {h : Heap} {a : Addr} {items : Array Value} (x : IsTpl h a items) : a < h.objs.size := x.tup.lt
theorem IsTpl.new (h : Heap) (items : Array Value) : IsTpl (h.push { cls := .type "tuple", data := .seq items }) h.objs.size items := ⟨_, Heap.get?_push_size _ rfl, rfl, _, rfl, rfl, rfl⟩
theorem IsTpl.obj {h : Heap} {a : Addr} {items : Array Value} (x : IsTpl h a items) : ∃ n, h.get? a = some { cls := .type "tuple", dict := none, data := .seq items n, slots := #[] } := by
  obtain ⟨⟨c, d, t, l⟩, e, c1, n, c2, c3, c4⟩ := x
  cases c1
  cases c2
  cases c3
  cases c4
  exact ⟨n, e⟩
section
variable (P : Program) (w : World)
def ObjOk (H : Hp) (h : Heap) (a : Addr) : HO → Prop
  | .lst xs => xs.length ≤ sizeLine ∧ ∃ (its : List Value) (n : Nat), Vals xs its ∧ h.get? a = some { cls := .type "list", data := .seq its.toArray n }
  | .tup xs => xs.length ≤ sizeLine ∧ ∃ its : List Value, Vals xs its ∧ IsTpl h a its.toArray
  | .dK kvs => kvs.length ≤ sizeLine ∧ (a == sysModules) = false ∧ ∃ vs, KV kvs vs ∧ h.DictOf (mixKind P w) a vs
  | .dT kvs => kvs.length ≤ sizeLine ∧ (a == sysModules) = false ∧ ∃ xs : List (List Key × Addr × Value),
      Paired (fun (p : List Key × V) (q : List Key × Addr × Value) => p.1 = q.1 ∧ H q.2.1 = some (.tup (p.1.map kV)) ∧ RelV p.2 q.2.2) kvs xs ∧
      ∃ o es ep, h.get? a = some o ∧ o.ExactDict ∧ o.data = .dict es ep ∧ es.toList = xs.map (entryOfKey (tupleKind (mixKind P w))) ∧ (xs.map (·.1)).Nodup
  | .set S n => h.SetOf (intKind P w) a S n
  | .ins C dx fs => H dx = some (.own a) ∧ fs.length ≤ 1000 ∧ dx ≠ a ∧ h.get? a = some (PySem.W.instObj C dx) ∧
      ∃ mA, h.Ns1 dx mA ∧ (∀ f, RelO (fs.lookup f) (mA f)) ∧ PySem.Within mA (fs.map (·.1))
  | .own _ => ∃ o, h.get? a = some o
  | .xd fs => ∃ mA, h.Ns1 a mA ∧ ∀ f, RelO (fs.lookup f) (mA f)
  | .rng lo hi => ∃ t u v, h.get? a = some { cls := .type "range", data := .fields #[.int lo t, .int hi u, .int 1 v] }
  | .frz o u => h.get? a = some o ∧ ObjOk H h a u
  | .tbl ps => h.get? a = some { cls := .none, data := .fields ps }
  | .met f x => h.get? a = some (PySem.W.methodObj (.ref f) (.ref x))
  | .ext φ => φ h ∧ (∃ o, h.get? a = some o) ∧ ∀ h1 h2 : Heap, φ h1 → (∀ o, h1.get? a = some o → h2.get? a = some o) → φ h2
def HOk (H : Hp) (h : Heap) : Prop := ∀ a o, H a = some o → ObjOk P w H h a o
end
section
variable {P : Program} {w : World} {H H' : Hp} {h h' : Heap} {a : Addr} {o : HO}
theorem ObjOk.lt (x : ObjOk P w H h a o) : a < h.objs.size := by
  cases o with
  | lst xs => obtain ⟨_, _, _, _, e⟩ := x; exact Heap.lt_size e
  | tup xs => obtain ⟨_, _, _, p⟩ := x; exact p.lt
  | dK kvs => obtain ⟨_, _, _, _, o, _, _, e, _⟩ := x; exact Heap.lt_size e
  | dT kvs => obtain ⟨_, _, _, _, o, _, _, e, _⟩ := x; exact Heap.lt_size e
  | set S n => obtain ⟨o, _, _, _, e, _⟩ := x; exact Heap.lt_size e
  | ins C dx fs => obtain ⟨_, _, _, e, _⟩ := x; exact Heap.lt_size e
  | own y => obtain ⟨_, e⟩ := x; exact Heap.lt_size e
  | xd fs => obtain ⟨_, ⟨_, _, _, e, _⟩, _⟩ := x; exact Heap.lt_size e
  | rng lo hi => obtain ⟨_, _, _, e⟩ := x; exact Heap.lt_size e
  | frz ob u => obtain ⟨e, _⟩ := x; exact Heap.lt_size e
  | tbl ps => exact Heap.lt_size (show h.get? a = some _ from x)
  | met f y => exact Heap.lt_size (show h.get? a = some _ from x)
  | ext φ => obtain ⟨_, ⟨_, e⟩, _⟩ := x; exact Heap.lt_size e
theorem Paired.mapP {α β : Type} {F G : α → β → Prop} : ∀ {l₁ : List α} {l₂ : List β}, Paired F l₁ l₂ → (∀ a b, F a b → G a b) → Paired G l₁ l₂
  | _, _, .nil, _ => .nil
  | _, _, .cons r t, f => .cons (f _ _ r) (Paired.mapP t f)
theorem ObjOk.stay (x : ObjOk P w H h a o) (k : ∀ b u, (b = a ∨ H b = some (.own a)) → h.get? b = some u → h'.get? b = some u)
    (ho : ∀ b, H b = some (.own a) → H' b = some (.own a)) (ht : ∀ b xs, H b = some (.tup xs) → H' b = some (.tup xs)) : ObjOk P w H' h' a o := by
  induction o with
  | lst xs => obtain ⟨z, its, n, r, e⟩ := x; exact ⟨z, its, n, r, k _ _ (.inl rfl) e⟩
  | tup xs => obtain ⟨z, its, r, ob, e, c⟩ := x; exact ⟨z, its, r, ob, k _ _ (.inl rfl) e, c⟩
  | dK kvs => obtain ⟨z, y, vs, r, ob, es, ep, e, c⟩ := x; exact ⟨z, y, vs, r, ob, es, ep, k _ _ (.inl rfl) e, c⟩
  | dT kvs =>
    obtain ⟨z, y, xs, r, ob, es, ep, e, c⟩ := x
    exact ⟨z, y, xs, Paired.mapP r fun p q z => ⟨z.1, ht _ _ z.2.1, z.2.2⟩, ob, es, ep, k _ _ (.inl rfl) e, c⟩
  | set S n => obtain ⟨ob, es, ep, t, e, c⟩ := x; exact ⟨ob, es, ep, t, k _ _ (.inl rfl) e, c⟩
  | ins C dx fs =>
    obtain ⟨d, z, ne, e, mA, ⟨od, es, ep, e2, c⟩, r⟩ := x
    exact ⟨ho _ d, z, ne, k _ _ (.inl rfl) e, mA, ⟨od, es, ep, k _ _ (.inr d) e2, c⟩, r⟩
  | own y => obtain ⟨ob, e⟩ := x; exact ⟨ob, k _ _ (.inl rfl) e⟩
  | xd fs => obtain ⟨mA, ⟨od, es, ep, e, c⟩, r⟩ := x; exact ⟨mA, ⟨od, es, ep, k _ _ (.inl rfl) e, c⟩, r⟩
  | rng lo hi => obtain ⟨t, u, v, e⟩ := x; exact ⟨t, u, v, k _ _ (.inl rfl) e⟩
  | frz ob u ih => obtain ⟨e, q⟩ := x; exact ⟨k _ _ (.inl rfl) e, ih q⟩
  | tbl ps =>
    have e : h.get? a = some { cls := .none, data := .fields ps } := x
    show h'.get? a = some { cls := .none, data := .fields ps }
    exact k a _ (.inl rfl) e
  | met f y =>
    have e : h.get? a = some (PySem.W.methodObj (.ref f) (.ref y)) := x
    show h'.get? a = some (PySem.W.methodObj (.ref f) (.ref y))
    exact k a _ (.inl rfl) e
  | ext φ => obtain ⟨p, ⟨o, e⟩, st⟩ := x; exact ⟨st _ _ p fun o q => k _ _ (.inl rfl) q, ⟨o, k _ _ (.inl rfl) e⟩, st⟩
theorem HOk.lt (x : HOk P w H h) (e : H a = some o) : a < h.objs.size := (x a o e).lt
theorem HOk.fresh (x : HOk P w H h) (e : h.objs.size ≤ a) : H a = none := by
  cases q : H a with
  | none => rfl
  | some u => exact absurd (Nat.lt_of_lt_of_le (x.lt q) e) (Nat.lt_irrefl _)
theorem HOk.kept (x : HOk P w H h) (k : ∀ b u, h.get? b = some u → h'.get? b = some u) : HOk P w H h' := fun a o e =>
  (x a o e).stay (fun b u _ q => k b u q) (fun _ q => q) fun _ _ q => q
theorem HOk.laid (x : HOk P w H h) (k : ∀ b u, h.get? b = some u → h'.get? b = some u) (hp : h.objs.size ≤ a) (new : ObjOk P w (upd H a o) h' a o) : HOk P w (upd H a o) h' := fun b u e => by
  have hn := x.fresh hp
  by_cases hb : b = a
  · subst hb; rw [upd_same] at e; cases e; exact new
  · rw [upd_ne hb] at e
    exact (x b u e).stay (fun c v _ q => k c v q) (fun c q => by rw [upd_ne (ne_of_none q hn)]; exact q) fun c xs q => by rw [upd_ne (ne_of_none q hn)]; exact q
end
def Rd (H : Hp) (a : Addr) (u : HO) : Prop := H a = some u ∨ ∃ o, H a = some (.frz o u)
theorem Rd.of {H : Hp} {a : Addr} {u : HO} (h : H a = some u) : Rd H a u := .inl h
theorem Rd.ok {P : Program} {w : World} {H : Hp} {h : Heap} {a : Addr} {u : HO} (r : Rd H a u) (x : HOk P w H h) : ObjOk P w H h a u := by
  rcases r with r | ⟨o, r⟩
  · exact x a u r
  · obtain ⟨_, q⟩ := x a _ r
    exact q
def Mut : Option HO → Prop
  | some (.lst _) => True
  | some (.dK _) => True
  | some (.dT _) => True
  | some (.set _ _) => True
  | some (.ins _ _ _) => True
  | some (.ext _) => True
  | _ => False
section
variable {P : Program} {w : World} {H : Hp} {h h' : Heap} {x e : Addr} {o' : HO}
theorem HOk.write (ok : HOk P w H h) (mu : Mut (H x)) (he : e = x ∨ H e = some (.own x)) (k : ∀ b u, b ≠ e → h.get? b = some u → h'.get? b = some u) (heo : ∃ u, h'.get? e = some u)
    (new : ObjOk P w (upd H x o') h' x o') : HOk P w (upd H x o') h' := fun b u q => by
  have nown : ∀ c y, H c = some (.own y) → c ≠ x := fun c y r z => by subst z; rw [r] at mu; exact mu
  have ntup : ∀ c xs, H c = some (.tup xs) → c ≠ x := fun c xs r z => by subst z; rw [r] at mu; exact mu
  by_cases hb : b = x
  · subst hb; rw [upd_same] at q; cases q; exact new
  · rw [upd_ne hb] at q
    by_cases hbe : b = e
    · have q' : H b = some (.own x) := by
        rcases he with z | z
        · exact absurd (hbe.trans z) hb
        · rw [hbe]; exact z
      rw [q] at q'; cases q'
      obtain ⟨v, hv⟩ := heo
      exact ⟨v, by rw [hbe]; exact hv⟩
    · refine (ok b u q).stay (fun c v hc r => k c v ?_ r) (fun c r => by rw [upd_ne (nown c b r)]; exact r) fun c xs r => by rw [upd_ne (ntup c xs r)]; exact r
      rcases hc with rfl | hc
      · exact hbe
      · rintro rfl
        rcases he with z | z
        · exact nown c b hc z
        · rw [hc] at z; cases z; exact hb rfl
end
structure Un (fs ex : List Addr) (H H' : Hp) (h h' : Heap) : Prop where
  keep : ∀ b o, h.get? b = some o → H b = none → b ∉ fs → b ∉ ex → h'.get? b = some o
  slot : ∀ b o, h.get? b = some o → H b = none → b ∈ fs → b ∉ ex → ∃ sl, h'.get? b = some { o with slots := sl }
  free : ∀ b o, h.get? b = some o → H b = none → b ∉ ex → H' b = none
  there : ∀ b o, h.get? b = some o → b ∉ ex → ∃ o', h'.get? b = some o'
  tups : ∀ b xs, H b = some (.tup xs) → H' b = some (.tup xs)
  frzs : ∀ b o u, H b = some (.frz o u) → H' b = some (.frz o u)
  tbls : ∀ b ps, H b = some (.tbl ps) → ∃ more, H' b = some (.tbl (ps ++ more))
section
variable {fs fs' ex ex' : List Addr} {H H1 H2 : Hp} {h h1 h2 h' : Heap} {a x e : Addr} {o : HO}
theorem Un.any (u : Un fs ex H H1 h h1) {b : Addr} {ob : Obj} (q : h.get? b = some ob) (n : H b = none) (hx : b ∉ ex) : ∃ sl, h1.get? b = some { ob with slots := sl } := by
  by_cases hb : b ∈ fs
  · exact u.slot b ob q n hb hx
  · exact ⟨ob.slots, u.keep b ob q n hb hx⟩
theorem Un.trans (a : Un fs ex H H1 h h1) (b : Un fs ex H1 H2 h1 h2) : Un fs ex H H2 h h2 where
  keep := fun c ob q n hc hx => b.keep c ob (a.keep c ob q n hc hx) (a.free c ob q n hx) hc hx
  slot := fun c ob q n hc hx => by
    obtain ⟨sl, e1⟩ := a.slot c ob q n hc hx
    obtain ⟨sl', e2⟩ := b.slot c _ e1 (a.free c ob q n hx) hc hx
    exact ⟨sl', e2⟩
  free := fun c ob q n hx => by
    obtain ⟨o', e1⟩ := a.there c ob q hx
    exact b.free c o' e1 (a.free c ob q n hx) hx
  there := fun c ob q hx => by
    obtain ⟨o', e1⟩ := a.there c ob q hx
    exact b.there c o' e1 hx
  tups := fun c xs q => b.tups c xs (a.tups c xs q)
  frzs := fun c ob xs q => b.frzs c ob xs (a.frzs c ob xs q)
  tbls := fun c ps q => by
    obtain ⟨m1, e1⟩ := a.tbls c ps q
    obtain ⟨m2, e2⟩ := b.tbls c _ e1
    exact ⟨m1 ++ m2, by rw [e2, Array.append_assoc]⟩
theorem Un.kept (k : ∀ b u, h.get? b = some u → h'.get? b = some u) : Un fs ex H H h h' :=
  ⟨fun b ob q _ _ _ => k b ob q, fun b ob q _ _ _ => ⟨ob.slots, k b ob q⟩, fun _ _ _ n _ => n, fun b ob q _ => ⟨ob, k b ob q⟩, fun _ _ q => q, fun _ _ _ q => q, fun _ ps q => ⟨#[], by rw [q]; simp⟩⟩
theorem Un.refl : Un fs ex H H h h := Un.kept fun _ _ q => q
theorem Un.laid (k : ∀ b u, h.get? b = some u → h'.get? b = some u) (hp : h.objs.size ≤ a) (hn : H a = none) : Un fs ex H (upd H a o) h h' where
  keep := fun b u q _ _ _ => k b u q
  slot := fun b u q _ _ _ => ⟨u.slots, k b u q⟩
  free := fun b u q n _ => by rw [upd_ne (Nat.ne_of_lt (Nat.lt_of_lt_of_le (Heap.lt_size q) hp))]; exact n
  there := fun b u q _ => ⟨u, k b u q⟩
  tups := fun b xs q => by rw [upd_ne (ne_of_none q hn)]; exact q
  frzs := fun b u xs q => by rw [upd_ne (ne_of_none q hn)]; exact q
  tbls := fun b ps q => ⟨#[], by rw [upd_ne (ne_of_none q hn), q]; simp⟩
theorem Un.write (mu : Mut (H x)) (he : e = x ∨ H e = some (.own x)) (k : ∀ b u, b ≠ e → h.get? b = some u → h'.get? b = some u) (heo : ∃ u, h'.get? e = some u) : Un fs ex H (upd H x o) h h' := by
  have hx : ∀ b, H b = none → b ≠ x := fun b n z => by subst z; rw [n] at mu; exact mu
  have hb : ∀ b, H b = none → b ≠ e := fun b n z => by
    subst z
    rcases he with r | r
    · exact hx b n r
    · rw [n] at r; cases r
  have hm : ∀ b u, H b = some u → ¬ Mut (some u) → b ≠ x := fun b u q nm z => by subst z; rw [q] at mu; exact nm mu
  refine ⟨fun b u q n _ _ => k b u (hb b n) q, fun b u q n _ _ => ⟨u.slots, k b u (hb b n) q⟩, fun b u q n _ => by rw [upd_ne (hx b n)]; exact n, fun b u q _ => ?_,
    fun b xs q => by rw [upd_ne (hm b _ q fun z => z)]; exact q, fun b u xs q => by rw [upd_ne (hm b _ q fun z => z)]; exact q, fun b ps q => ⟨#[], by rw [upd_ne (hm b _ q fun z => z), q]; simp⟩⟩
  by_cases hbe : b = e
  · subst hbe; exact heo
  · exact ⟨u, k b u hbe q⟩
end
def trk (h : Heap) (H : Hp) : List Addr := (List.range h.objs.size).filter fun a => (H a).isSome
def hidT (h : Heap) (H : Hp) : Heap := PySem.W.hideAll h (trk h H)
theorem hidT_size (h : Heap) (H : Hp) : (hidT h H).objs.size = h.objs.size := PySem.W.hideAll_size _ _
theorem hidT_get {h : Heap} {H : Hp} {b : Addr} {o : Obj} (e : h.get? b = some o) (n : H b = none) : (hidT h H).get? b = some o :=
  PySem.W.hideAll_get _ e fun hm => by
    have q : (H b).isSome = true := (List.mem_filter.mp hm).2
    rw [n] at q; simp at q
theorem of_hidT {h : Heap} {H : Hp} {b : Addr} {o : Obj} (e : (hidT h H).get? b = some o) : h.get? b = some o ∧ H b = none := by
  have e' : h.get? b = some o := PySem.W.of_hideAll (trk h H) e
  refine ⟨e', ?_⟩
  cases q : H b with
  | none => rfl
  | some x =>
    have hm : b ∈ trk h H := List.mem_filter.mpr ⟨List.mem_range.mpr (Heap.lt_size e'), by simp [q]⟩
    have z : (hidT h H).get? b = none := PySem.W.hideAll_none (trk h H) hm
    rw [z] at e; cases e
end L2
namespace L2
open PySem PySem.Spec PyProof.Rows
structure Mod (K : PySem.W.Frag) (mg : Str → Option Value) (base : Heap) : Prop where
  kin : K.In base
  glob : base.Ns mainGlobals mg
  blt : ∃ mb, base.Ns builtinsNs mb ∧ ∀ x : Str, x ≠ "__name__" → mb x = bootBuiltins x
  nolimit : base.NoLimit
structure Cx where
  prog : Program
  w : World
  K : PySem.W.Frag
  mg : Str → Option Value
  base : Heap
  A : Around
  N : List Str
  s₀ : Shared
  H₀ : Hp
  env : Env
  outer : List Env
  stack : List Env
  ex : List Addr
  fn : Str → Bool
  calm : Bool
  pn : List (Addr × Obj)
  xe : Value → Shared → Prop
def frs (l : List Env) : List Addr := l.filterMap (·.frame)
abbrev Cx.fs (X : Cx) : List Addr := frs X.outer
def Vis (sc : Scope) (x : Str) : Prop := sc.names.lookup x = some .local ∨ sc.names.lookup x = some .cell ∨ sc.names.lookup x = some .free
def Loc (sc : Scope) (x : Str) : Prop := sc.names.lookup x = some .local ∨ sc.names.lookup x = some .cell
def Look (env : Env) (h : Heap) (m : Str → Option Value) (x : Str) (u : Value) : Prop :=
  (env.kindOf x = some .local ∧ m x = some u) ∨ ((env.kindOf x = some .cell ∨ env.kindOf x = some .free) ∧ ∃ c, env.cells.lookup x = some c ∧ h.IsCell c (some u))
structure Cx.Ok (X : Cx) : Prop where
  mod : Mod X.K X.mg X.base
  kind : X.env.scope.kind = .function
  glob : X.env.globals = mainGlobals
  blt : X.env.builtins = builtinsNs
  above : X.s₀.heap.objs.size ≤ X.env.locals
  inj : ∀ x y c, X.env.cells.lookup x = some c → X.env.cells.lookup y = some c → x = y
  has : ∀ x, (X.env.kindOf x = some .cell ∨ X.env.kindOf x = some .free) → ∃ c, X.env.cells.lookup x = some c
  cab : ∀ x c, X.fn x = true → X.env.cells.lookup x = some c → X.s₀.heap.objs.size ≤ c
  hd : X.calm = true → X.A.handled = none
  frames : X.A.frames = some X.stack
  stk : X.stack = X.outer ∨ (X.stack = X.env :: X.outer ∧ X.env.frame = some X.env.locals)
  exf : ∀ b ∈ X.ex, b ≠ X.env.locals ∧ ∀ x c, X.env.cells.lookup x = some c → c ≠ b
  bs : ∀ b o, X.base.get? b = some o → X.s₀.heap.get? b = some o ∧ X.H₀ b = none
  bsz : X.base.objs.size ≤ X.s₀.heap.objs.size
  noex : ∀ b o, X.base.get? b = some o → b ∉ X.ex
  exfs : ∀ b ∈ X.ex, b ∉ X.fs
  funs : X.s₀.heap.FunFrames X.base X.outer
  frf : ∀ b ∈ X.fs, X.H₀ b = none
structure Inv (X : Cx) (pins : List (Addr × Obj)) (σ : List (Option V)) (H : Hp) (s : Shared) : Prop where
  ok : X.Ok
  os : s.os = X.s₀.os
  bare : AllBare s.gens
  base : Un X.fs X.ex X.H₀ H X.s₀.heap s.heap
  loc : ∃ m, s.heap.Ns X.env.locals m ∧ ∀ (i : Nat) (x : Str) (v : V), X.N[i]? = some x → σ[i]? = some (some v) → Vis X.env.scope x → ∃ u, RelV v u ∧ Look X.env s.heap m x u
  cell : ∀ x c, X.env.cells.lookup x = some c → ∃ v, s.heap.IsCell c v
  free : H X.env.locals = none
  freeC : ∀ x c, X.env.cells.lookup x = some c → H c = none
  pin : ∀ p ∈ X.pn ++ pins, s.heap.get? p.1 = some p.2 ∧ H p.1 = none ∧ p.1 ≠ X.env.locals ∧ p.1 ∉ X.fs ∧ ∀ v, p.2.data ≠ .cell v
  hok : HOk X.prog X.w H s.heap
  len : σ.length = X.N.length
section
variable {X : Cx} {pins : List (Addr × Obj)} {σ : List (Option V)} {H H' : Hp} {s : Shared} {h' : Heap}
theorem Cx.Ok.nofr (ok : X.Ok) {b : Addr} {o : Obj} (e : X.base.get? b = some o) : b ∉ X.fs := fun hb => by
  have := (ok.funs.mem hb).1
  rw [e] at this; cases this
theorem Inv.bs (I : Inv X pins σ H s) : ∀ b o, X.base.get? b = some o → s.heap.get? b = some o ∧ H b = none := fun b o e =>
  ⟨I.base.keep b o (I.ok.bs b o e).1 (I.ok.bs b o e).2 (I.ok.nofr e) (I.ok.noex b o e), I.base.free b o (I.ok.bs b o e).1 (I.ok.bs b o e).2 (I.ok.noex b o e)⟩
theorem Inv.bk (I : Inv X pins σ H s) : ∀ b o, X.base.get? b = some o → s.heap.get? b = some o := fun b o e => (I.bs b o e).1
theorem Inv.mod (I : Inv X pins σ H s) : Mod X.K X.mg X.base := I.ok.mod
theorem Inv.kIn (I : Inv X pins σ H s) : X.K.In s.heap := I.ok.mod.kin.keeps I.bk
theorem Inv.lt (I : Inv X pins σ H s) : X.env.locals < s.heap.objs.size := let ⟨_, hn, _⟩ := I.loc; hn.lt
theorem Inv.sz (I : Inv X pins σ H s) : X.s₀.heap.objs.size ≤ s.heap.objs.size := Nat.le_trans I.ok.above (Nat.le_of_lt I.lt)
theorem Inv.nofs (I : Inv X pins σ H s) {a : Addr} (h : s.heap.objs.size ≤ a) : a ∉ X.fs := fun hb => by
  obtain ⟨_, o, ho, _⟩ := I.ok.funs.mem hb
  exact absurd (Nat.lt_of_lt_of_le (Heap.lt_size ho) (Nat.le_trans I.sz h)) (Nat.lt_irrefl _)
theorem Inv.cne (I : Inv X pins σ H s) : ∀ x c, X.env.cells.lookup x = some c → c ≠ X.env.locals := fun x c e z => by
  obtain ⟨v, o, ho, hd⟩ := I.cell x c e
  obtain ⟨m, ⟨o', es, ep, ho', hd', _⟩, _⟩ := I.loc
  rw [z, ho'] at ho; cases ho; rw [hd'] at hd; cases hd
theorem Inv.funs (I : Inv X pins σ H s) : s.heap.FunFrames X.base X.outer := by
  have all : ∀ (l : List Env), (∀ b ∈ frs l, b ∈ X.fs) → X.s₀.heap.FunFrames X.base l → s.heap.FunFrames X.base l := by
    intro l
    induction l with
    | nil => intro _ _; trivial
    | cons env r ih =>
      intro hs hl
      obtain ⟨hk, ⟨L, o, hf, hn, ho, hd⟩, hr⟩ := hl
      have hL : L ∈ X.fs := hs L (by unfold frs; rw [List.filterMap_cons, hf]; exact List.mem_cons_self)
      obtain ⟨sl, e⟩ := I.base.slot L o ho (I.ok.frf L hL) hL fun z => I.ok.exfs L z hL
      exact ⟨hk, ⟨L, _, hf, hn, e, hd⟩, ih (fun b hb => hs b (by unfold frs; rw [List.filterMap_cons, hf]; exact List.mem_cons_of_mem _ hb)) hr⟩
  exact all X.outer (fun _ hb => hb) I.ok.funs
theorem Inv.stack (I : Inv X pins σ H s) : s.heap.FunFrames X.base X.stack := by
  rcases I.ok.stk with e | ⟨e, hf⟩
  · rw [e]; exact I.funs
  · rw [e]
    obtain ⟨m, hn, _⟩ := I.loc
    refine .cons (by rw [I.ok.kind]; decide) hf hn ?_ I.funs
    exact Heap.get?_none_of_le (Nat.le_trans I.ok.bsz I.ok.above)
theorem Inv.stkSub (I : Inv X pins σ H s) : ∀ b ∈ frs X.stack, b ∈ X.env.locals :: X.fs := fun b hb => by
  rcases I.ok.stk with e | ⟨e, hf⟩
  · rw [e] at hb; exact List.mem_cons_of_mem _ hb
  · rw [e] at hb
    unfold frs at hb
    rw [List.filterMap_cons, hf] at hb
    exact hb
theorem Inv.stkFree (I : Inv X pins σ H s) : ∀ b ∈ frs X.stack, H b = none := fun b hb => by
  rcases List.mem_cons.mp (I.stkSub b hb) with e | hb
  · rw [e]; exact I.free
  · obtain ⟨_, o, ho, _⟩ := I.ok.funs.mem hb
    exact I.base.free b o ho (I.ok.frf b hb) fun z => I.ok.exfs b z hb
theorem Inv.step {g' : Array GenState} {t' : Nat} {d' : Drawn} {ch : List Addr} (I : Inv X pins σ H s)
    (hch : ∀ b ∈ ch, (b ∈ X.ex ∨ X.s₀.heap.objs.size ≤ b) ∧ b ≠ X.env.locals ∧ (∀ x c, X.env.cells.lookup x = some c → c ≠ b) ∧ ∀ p ∈ X.pn ++ pins, p.1 ≠ b)
    (keep : ∀ b o, b ≠ X.env.locals → b ∉ X.fs → b ∉ ch → s.heap.get? b = some o → H b = none → h'.get? b = some o)
    (slot : ∀ b o, b ≠ X.env.locals → b ∈ X.fs → b ∉ ch → s.heap.get? b = some o → H b = none → ∃ sl, h'.get? b = some { o with slots := sl }) (free : ∀ b o, b ∉ ch → s.heap.get? b = some o → H b = none → H' b = none)
    (there : ∀ b o, b ∉ ch → s.heap.get? b = some o → ∃ o', h'.get? b = some o')
    (tups : ∀ b xs, H b = some (.tup xs) → H' b = some (.tup xs)) (frzs : ∀ b o u, H b = some (.frz o u) → H' b = some (.frz o u)) (tbls : ∀ b ps, H b = some (.tbl ps) → ∃ more, H' b = some (.tbl (ps ++ more)))
    (ns : ∀ m, s.heap.Ns X.env.locals m → h'.Ns X.env.locals m) (hok : HOk X.prog X.w H' h') (hg : AllBare g') :
    Inv X pins σ H' { s with heap := h', gens := g', drawn := d', toks := t' } := by
  have neL : ∀ b o, X.s₀.heap.get? b = some o → b ≠ X.env.locals := fun b o e => Nat.ne_of_lt (Nat.lt_of_lt_of_le (Heap.lt_size e) I.ok.above)
  have neC : ∀ b o, X.s₀.heap.get? b = some o → b ∉ X.ex → b ∉ ch := fun b o e hx hb => by
    rcases (hch b hb).1 with z | z
    · exact hx z
    · exact absurd (Nat.lt_of_lt_of_le (Heap.lt_size e) z) (Nat.lt_irrefl _)
  have cellK : ∀ x c, X.env.cells.lookup x = some c → ∀ v, s.heap.IsCell c v → h'.IsCell c v := fun x c e v ⟨o, ho, hd⟩ => by
    have nch : c ∉ ch := fun z => (hch c z).2.2.1 x c e rfl
    by_cases hc : c ∈ X.fs
    · obtain ⟨sl, q⟩ := slot c o (I.cne x c e) hc nch ho (I.freeC x c e)
      exact ⟨_, q, hd⟩
    · exact ⟨o, keep c o (I.cne x c e) hc nch ho (I.freeC x c e), hd⟩
  refine ⟨I.ok, I.os, hg, ⟨fun b o e n hb hx => ?_, fun b o e n hb hx => ?_, fun b o e n hx => ?_, fun b o e hx => ?_, fun b xs e => tups b xs (I.base.tups b xs e), fun b o xs e => frzs b o xs (I.base.frzs b o xs e), fun b ps e => ?_⟩, ?_, fun x c e => ?_, ?_, fun x c e => ?_, fun p hp => ?_, hok, I.len⟩
  · exact keep b o (neL b o e) hb (neC b o e hx) (I.base.keep b o e n hb hx) (I.base.free b o e n hx)
  · obtain ⟨sl, e1⟩ := I.base.slot b o e n hb hx
    obtain ⟨sl', e2⟩ := slot b _ (neL b o e) hb (neC b o e hx) e1 (I.base.free b o e n hx)
    exact ⟨sl', e2⟩
  · obtain ⟨o', e1⟩ := I.base.there b o e hx
    exact free b o' (neC b o e hx) e1 (I.base.free b o e n hx)
  · obtain ⟨o', e1⟩ := I.base.there b o e hx
    exact there b o' (neC b o e hx) e1
  · obtain ⟨m1, e1⟩ := I.base.tbls b ps e
    obtain ⟨m2, e2⟩ := tbls b _ e1
    exact ⟨m1 ++ m2, by rw [e2, Array.append_assoc]⟩
  · obtain ⟨m, hn, hl⟩ := I.loc
    refine ⟨m, ns m hn, fun i x v e1 e2 e3 => ?_⟩
    obtain ⟨u, r, l⟩ := hl i x v e1 e2 e3
    refine ⟨u, r, ?_⟩
    rcases l with l | ⟨k, c, e, z⟩
    · exact .inl l
    · exact .inr ⟨k, c, e, cellK x c e _ z⟩
  · obtain ⟨v, z⟩ := I.cell x c e
    exact ⟨v, cellK x c e v z⟩
  · obtain ⟨m, ⟨o, _, _, ho, _⟩, _⟩ := I.loc
    exact free _ o (fun z => (hch _ z).2.1 rfl) ho I.free
  · obtain ⟨v, o, ho, hd⟩ := I.cell x c e
    exact free c o (fun z => (hch c z).2.2.1 x c e rfl) ho (I.freeC x c e)
  · obtain ⟨e, n, ne, nf, d⟩ := I.pin p hp
    have nch : p.1 ∉ ch := fun z => (hch p.1 z).2.2.2 p hp rfl
    exact ⟨keep p.1 p.2 ne nf nch e n, free p.1 p.2 nch e n, ne, nf, d⟩
theorem Inv.un {t' : Nat} (I : Inv X pins σ H s) (u : Un X.fs [] H H' s.heap h') (hok : HOk X.prog X.w H' h') : Inv X pins σ H' { s with heap := h', toks := t' } := by
  obtain ⟨m, ⟨o, es, ep, ho, r⟩, _⟩ := id I.loc
  obtain ⟨sl, hL⟩ := u.any ho I.free (by simp)
  exact I.step (g' := s.gens) (d' := s.drawn) (ch := []) (fun _ z => nomatch z) (fun b o _ hb _ e n => u.keep b o e n hb (by simp)) (fun b o _ hb _ e n => u.slot b o e n hb (by simp)) (fun b o _ e n => u.free b o e n (by simp)) (fun b o _ e => u.there b o e (by simp)) u.tups u.frzs u.tbls (fun m' hm => by
    obtain ⟨o', es', ep', ho', r'⟩ := hm
    rw [ho] at ho'; cases ho'
    exact ⟨_, es', ep', hL, r'⟩) hok I.bare
theorem Inv.call {g' : Array GenState} {t' : Nat} {d' : Drawn} {ch : List Addr} (I : Inv X pins σ H s) (u : Un (frs X.stack) ch H H' s.heap h') (hok : HOk X.prog X.w H' h') (hg : AllBare g')
    (hch : ∀ b ∈ ch, (b ∈ X.ex ∨ X.s₀.heap.objs.size ≤ b) ∧ b ≠ X.env.locals ∧ (∀ x c, X.env.cells.lookup x = some c → c ≠ b) ∧ ∀ p ∈ X.pn ++ pins, p.1 ≠ b) :
    Inv X pins σ H' { s with heap := h', gens := g', drawn := d', toks := t' } := by
  obtain ⟨m, ⟨o, es, ep, ho, r⟩, _⟩ := id I.loc
  obtain ⟨sl, hL⟩ := u.any ho I.free fun z => (hch _ z).2.1 rfl
  exact I.step (ch := ch) hch (fun b o hL hb hc e n => u.keep b o e n (fun z => (List.mem_cons.mp (I.stkSub b z)).elim hL hb) hc) (fun b o _ _ hc e n => u.any e n hc) (fun b o hc e n => u.free b o e n hc) (fun b o hc e => u.there b o e hc) u.tups u.frzs u.tbls (fun m' hm => by
    obtain ⟨o', es', ep', ho', r'⟩ := hm
    rw [ho] at ho'; cases ho'
    exact ⟨_, es', ep', hL, r'⟩) hok hg
theorem Inv.turned {t' : Nat} {it : Addr} (I : Inv X pins σ H s) (k : ∀ b o, b ≠ it → s.heap.get? b = some o → h'.get? b = some o) (hn : H it = none) (hL : it ≠ X.env.locals)
    (h1 : it ∈ X.ex ∨ X.s₀.heap.objs.size ≤ it) (h2 : ∀ x c, X.env.cells.lookup x = some c → c ≠ it) (h3 : ∀ p ∈ X.pn ++ pins, p.1 ≠ it) : Inv X pins σ H { s with heap := h', toks := t' } := by
  have nit : ∀ b u, H b = some u → b ≠ it := fun b u e z => by rw [z, hn] at e; cases e
  refine I.step (g' := s.gens) (d' := s.drawn) (ch := [it]) (fun b hb => ?_) (fun b o _ _ hc e _ => k b o (fun z => hc (by simp [z])) e) (fun b o _ _ hc e _ => ⟨o.slots, k b o (fun z => hc (by simp [z])) e⟩) (fun _ _ _ _ n => n)
    (fun b o hc e => ⟨o, k b o (fun z => hc (by simp [z])) e⟩) (fun _ _ e => e) (fun _ _ _ e => e) (fun b ps e => ⟨#[], by rw [e]; simp⟩) (fun m hm => ?_) (fun b u e => ?_) I.bare
  · have e : b = it := by simpa using hb
    subst e
    exact ⟨h1, hL, h2, h3⟩
  · obtain ⟨o, es, ep, ho, r⟩ := hm
    exact ⟨o, es, ep, k _ o (Ne.symm hL) ho, r⟩
  · refine (I.hok b u e).stay (fun c v hc q => k c v ?_ q) (fun _ q => q) fun _ _ q => q
    rcases hc with z | z
    · rw [z]; exact nit b u e
    · exact nit c _ z
theorem Inv.tok (I : Inv X pins σ H s) (t : Nat) : Inv X pins σ H { s with toks := t } := I.un (h' := s.heap) (t' := t) Un.refl I.hok
theorem Inv.kept {t' : Nat} (I : Inv X pins σ H s) (k : ∀ b u, s.heap.get? b = some u → h'.get? b = some u) : Inv X pins σ H { s with heap := h', toks := t' } := I.un (Un.kept k) (I.hok.kept k)
theorem Inv.laid {a : Addr} {o : HO} {t' : Nat} (I : Inv X pins σ H s) (k : ∀ b u, s.heap.get? b = some u → h'.get? b = some u) (hp : s.heap.objs.size ≤ a) (new : ObjOk X.prog X.w (upd H a o) h' a o) :
    Inv X pins σ (upd H a o) { s with heap := h', toks := t' } := I.un (Un.laid k hp (I.hok.fresh hp)) (I.hok.laid k hp new)
theorem Inv.write {x e : Addr} {o : HO} {t' : Nat} (I : Inv X pins σ H s) (mu : Mut (H x)) (he : e = x ∨ H e = some (.own x)) (k : ∀ b u, b ≠ e → s.heap.get? b = some u → h'.get? b = some u) (heo : ∃ u, h'.get? e = some u)
    (new : ObjOk X.prog X.w (upd H x o) h' x o) : Inv X pins σ (upd H x o) { s with heap := h', toks := t' } := I.un (Un.write mu he k heo) (I.hok.write mu he k heo new)
theorem Inv.pins_of {pins' : List (Addr × Obj)} (I : Inv X pins σ H s) (h : ∀ p ∈ pins', s.heap.get? p.1 = some p.2 ∧ H p.1 = none ∧ p.1 ≠ X.env.locals ∧ p.1 ∉ X.fs ∧ ∀ v, p.2.data ≠ .cell v) : Inv X pins' σ H s :=
  ⟨I.ok, I.os, I.bare, I.base, I.loc, I.cell, I.free, I.freeC, fun p hp => (List.mem_append.mp hp).elim (fun z => I.pin p (List.mem_append_left _ z)) (h p), I.hok, I.len⟩
theorem nodup_ix {N : List Str} (hN : N.Nodup) {i j : Nat} {x : Str} (a : N[i]? = some x) (b : N[j]? = some x) : i = j := by
  obtain ⟨h1, e1⟩ := List.getElem?_eq_some_iff.mp a
  obtain ⟨h2, e2⟩ := List.getElem?_eq_some_iff.mp b
  exact (List.getElem_inj hN).mp (e1.trans e2.symm)
theorem store_ok2 {M : Model} {A : Around} {E : Value → Shared → Prop} {i : Nat} {x : Str} {v : V} {u : Value} {Q : Unit → Shared → Prop} (I : Inv X pins σ H s) (hN : X.N.Nodup) (hi : X.N[i]? = some x) (hx : Loc X.env.scope x) (r : RelV v u)
    (h : ∀ s', Inv X pins (σ.set i (some v)) H s' → (∃ a, Heap.SameBut a s.heap s'.heap ∧ (a = X.env.locals ∨ X.env.cells.lookup x = some a)) → Q () s') (hf : X.fn x = true ∨ X.env.scope.names.lookup x = some .local := by first | exact .inl rfl | exact .inr rfl | assumption) : wpAny M A (storeName X.env x u) Q E s := by
  obtain ⟨m, hn, hl⟩ := id I.loc
  have hcls : (X.env.scope.kind == .class || (X.env.scope.kind == .module && X.env.locals != X.env.globals)) = false := by rw [I.ok.kind]; rfl
  have hiσ : i < σ.length := by rw [I.len]; exact (List.getElem?_eq_some_iff.mp hi).1
  have cne := I.cne
  have tracked : ∀ {a : Addr} {h' : Heap}, (∃ o, s.heap.get? a = some o ∧ H a = none) → Heap.SameBut a s.heap h' → HOk X.prog X.w H h' := fun {a h'} ha hs b ob e => by
    obtain ⟨_, _, hfree⟩ := ha
    refine (I.hok b ob e).stay (fun c w' hc q => (hs.2 c ?_).trans q) (fun _ q => q) fun _ _ q => q
    rintro rfl
    rcases hc with rfl | hc
    · rw [hfree] at e; cases e
    · rw [hfree] at hc; cases hc
  rcases hx with hk | hk
  · refine wpAny_storeName_local hk hn (fun h' hn' hs => ?_) hcls
    obtain ⟨oL, _, _, hoL, _⟩ := id hn
    refine h _ ⟨I.ok, I.os, I.bare, ⟨fun b o e n hb hx => ?_, fun b o e n hb hx => ?_, I.base.free, fun b o e hx => ?_, I.base.tups, I.base.frzs, I.base.tbls⟩, ⟨_, hn', fun j y v' e1 e2 e3 => ?_⟩, fun y c e => ?_, I.free, I.freeC, fun p hp => ?_, tracked ⟨oL, hoL, I.free⟩ hs, by simpa using I.len⟩ ⟨_, hs, .inl rfl⟩
    · exact (hs.2 b (Nat.ne_of_lt (Nat.lt_of_lt_of_le (Heap.lt_size e) I.ok.above))).trans (I.base.keep b o e n hb hx)
    · obtain ⟨sl, e1⟩ := I.base.slot b o e n hb hx
      exact ⟨sl, (hs.2 b (Nat.ne_of_lt (Nat.lt_of_lt_of_le (Heap.lt_size e) I.ok.above))).trans e1⟩
    · obtain ⟨o', e1⟩ := I.base.there b o e hx
      exact ⟨o', (hs.2 b (Nat.ne_of_lt (Nat.lt_of_lt_of_le (Heap.lt_size e) I.ok.above))).trans e1⟩
    · by_cases hj : j = i
      · subst hj
        rw [hi] at e1; cases e1
        rw [List.getElem?_set_self hiσ] at e2
        cases e2
        exact ⟨u, r, .inl ⟨hk, by simp⟩⟩
      · rw [List.getElem?_set_ne (Ne.symm hj)] at e2
        obtain ⟨u', r', q⟩ := hl j y v' e1 e2 e3
        refine ⟨u', r', ?_⟩
        rcases q with ⟨k, e⟩ | ⟨k, c, e, z⟩
        · refine .inl ⟨k, ?_⟩
          have : y ≠ x := fun e => hj (nodup_ix hN e1 (e ▸ hi))
          simp [this, e]
        · exact .inr ⟨k, c, e, z.sameBut hs (cne y c e)⟩
    · obtain ⟨w', z⟩ := I.cell y c e
      exact ⟨w', z.sameBut hs (cne y c e)⟩
    · obtain ⟨e, n, ne, nf, d⟩ := I.pin p hp
      exact ⟨(hs.2 p.1 ne).trans e, n, ne, nf, d⟩
  · have hfn : X.fn x = true := by
      rcases hf with z | z
      · exact z
      · rw [z] at hk; cases hk
    obtain ⟨c, hc⟩ := I.ok.has x (.inl hk)
    obtain ⟨w', z⟩ := I.cell x c hc
    refine wpAny_storeName_cell I.ok.kind hk hc z (fun h' hc' hs => ?_)
    obtain ⟨oc, hoc, hocd⟩ := id z
    refine h { s with heap := h' } ⟨I.ok, I.os, I.bare, ⟨fun b o e n hb hx => ?_, fun b o e n hb hx => ?_, I.base.free, fun b o e hx => ?_, I.base.tups, I.base.frzs, I.base.tbls⟩, ⟨m, hn.sameBut hs (Ne.symm (cne x c hc)), fun j y v' e1 e2 e3 => ?_⟩, fun y c' e => ?_, I.free, I.freeC, fun p hp => ?_, tracked ⟨oc, hoc, I.freeC x c hc⟩ hs, by simpa using I.len⟩ ⟨c, hs, .inr hc⟩
    · exact (hs.2 b (Nat.ne_of_lt (Nat.lt_of_lt_of_le (Heap.lt_size e) (I.ok.cab x c hfn hc)))).trans (I.base.keep b o e n hb hx)
    · obtain ⟨sl, e1⟩ := I.base.slot b o e n hb hx
      exact ⟨sl, (hs.2 b (Nat.ne_of_lt (Nat.lt_of_lt_of_le (Heap.lt_size e) (I.ok.cab x c hfn hc)))).trans e1⟩
    · obtain ⟨o', e1⟩ := I.base.there b o e hx
      exact ⟨o', (hs.2 b (Nat.ne_of_lt (Nat.lt_of_lt_of_le (Heap.lt_size e) (I.ok.cab x c hfn hc)))).trans e1⟩
    · by_cases hj : j = i
      · subst hj
        rw [hi] at e1; cases e1
        rw [List.getElem?_set_self hiσ] at e2
        cases e2
        exact ⟨u, r, .inr ⟨.inl hk, c, hc, hc'⟩⟩
      · rw [List.getElem?_set_ne (Ne.symm hj)] at e2
        obtain ⟨u', r', q⟩ := hl j y v' e1 e2 e3
        refine ⟨u', r', ?_⟩
        rcases q with q | ⟨k, c', e, z'⟩
        · exact .inl q
        · refine .inr ⟨k, c', e, z'.sameBut hs ?_⟩
          rintro rfl
          exact hj (nodup_ix hN e1 (I.ok.inj _ _ _ e hc ▸ hi))
    · by_cases hcc : c' = c
      · subst hcc; exact ⟨_, hc'⟩
      · obtain ⟨w2, z2⟩ := I.cell y c' e
        exact ⟨w2, z2.sameBut hs hcc⟩
    · obtain ⟨e, n, ne, nf, d⟩ := I.pin p hp
      refine ⟨(hs.2 p.1 ?_).trans e, n, ne, nf, d⟩
      intro q
      rw [q, hoc] at e
      have q' : oc = p.2 := Option.some.inj e
      exact d w' (by rw [← q']; exact hocd)
theorem store_ok {M : Model} {A : Around} {E : Value → Shared → Prop} {i : Nat} {x : Str} {v : V} {u : Value} {Q : Unit → Shared → Prop} (I : Inv X pins σ H s) (hN : X.N.Nodup) (hi : X.N[i]? = some x) (hx : Loc X.env.scope x) (r : RelV v u)
    (h : ∀ s', Inv X pins (σ.set i (some v)) H s' → Q () s') (hf : X.fn x = true ∨ X.env.scope.names.lookup x = some .local := by first | exact .inl rfl | exact .inr rfl | assumption) : wpAny M A (storeName X.env x u) Q E s :=
  store_ok2 I hN hi hx r (fun s' I' _ => h s' I') hf
theorem Inv.call' {s' : Shared} {ch : List Addr} (I : Inv X pins σ H s) (ho : s'.os = s.os) (u : Un (frs X.stack) ch H H' s.heap s'.heap) (hok : HOk X.prog X.w H' s'.heap) (hg : AllBare s'.gens)
    (hch : ∀ b ∈ ch, (b ∈ X.ex ∨ X.s₀.heap.objs.size ≤ b) ∧ b ≠ X.env.locals ∧ (∀ x c, X.env.cells.lookup x = some c → c ≠ b) ∧ ∀ p ∈ X.pn ++ pins, p.1 ≠ b) : Inv X pins σ H' s' := by
  obtain ⟨h', g', d', t', o'⟩ := s'
  have e : o' = s.os := ho
  subst e
  exact I.call (g' := g') (t' := t') (d' := d') u hok hg hch
end
abbrev XK := Value → Option Addr → Hp → Prop
abbrev St := List (Option V)
abbrev VK := V → Hp → Prop
abbrev TE := St → Hp → VK → Prop
abbrev TT := St → Hp → (Bool → Hp → Prop) → Prop
abbrev TA := St → Hp → (List V → Hp → Prop) → Prop
structure Ends where
  nx : St → Hp → Prop
  rt : VK
  bk : St → Hp → Prop := fun _ _ => False
  ct : St → Hp → Prop := fun _ _ => False
abbrev TS := Ends → St → Hp → Prop
def EP (X : Cx) (pins : List (Addr × Obj)) (σ : St) (Q : VK) (u : Value) (s' : Shared) : Prop := ∃ v H', Inv X pins σ H' s' ∧ RelV v u ∧ Q v H'
def TP (X : Cx) (pins : List (Addr × Obj)) (σ : St) (Q : Bool → Hp → Prop) (b : Bool) (s' : Shared) : Prop := ∃ H', Inv X pins σ H' s' ∧ Q b H'
def AP (X : Cx) (pins : List (Addr × Obj)) (σ : St) (Q : List V → Hp → Prop) (us : List Value) (s' : Shared) : Prop := ∃ vs H', Inv X pins σ H' s' ∧ Vals vs us ∧ Q vs H'
def SP (X : Cx) (pins : List (Addr × Obj)) (D : Ends) (f : Flow) (s' : Shared) : Prop :=
  match f with
  | .next => ∃ σ' H', Inv X pins σ' H' s' ∧ D.nx σ' H'
  | .brk => ∃ σ' H', Inv X pins σ' H' s' ∧ D.bk σ' H'
  | .cont => ∃ σ' H', Inv X pins σ' H' s' ∧ D.ct σ' H'
  | .ret u => ∃ v σ' H', Inv X pins σ' H' s' ∧ RelV v u ∧ D.rt v H'
def PE (X : Cx) (e : Expr) (t : TE) : Prop :=
  ∀ (pins : List (Addr × Obj)) (s : Shared) (σ : St) (H : Hp) (Q : VK), Inv X pins σ H s → t σ H Q → wpAny (model X.prog X.w) X.A (eval e X.env) (EP X pins σ Q) X.xe s
def PT (X : Cx) (e : Expr) (t : TT) : Prop :=
  ∀ (pins : List (Addr × Obj)) (s : Shared) (σ : St) (H : Hp) (Q : Bool → Hp → Prop), Inv X pins σ H s → t σ H Q → wpAny (model X.prog X.w) X.A (isTrue e X.env (eval e X.env)) (TP X pins σ Q) X.xe s
def PW (X : Cx) (e : Expr) (t : TT) : Prop :=
  ∀ (whole : Sem Value) (pins : List (Addr × Obj)) (s : Shared) (σ : St) (H : Hp) (Q : Bool → Hp → Prop), Inv X pins σ H s → t σ H Q → wpAny (model X.prog X.w) X.A (isTrue e X.env whole) (TP X pins σ Q) X.xe s
theorem PW.pt {X : Cx} {e : Expr} {t : TT} (h : PW X e t) : PT X e t := h _
def PA (X : Cx) (es : List Expr) (t : TA) : Prop :=
  ∀ (pos : Pos) (pins : List (Addr × Obj)) (s : Shared) (σ : St) (H : Hp) (Q : List V → Hp → Prop), Inv X pins σ H s → t σ H Q → wpAny (model X.prog X.w) X.A (spliced (backTo pos (starEach es X.env))) (AP X pins σ Q) X.xe s
def PS (X : Cx) (st : Stmt) (t : TS) : Prop :=
  ∀ (pins : List (Addr × Obj)) (s : Shared) (σ : St) (H : Hp) (D : Ends), Inv X pins σ H s → t D σ H → wpAny (model X.prog X.w) X.A (exec st X.env) (SP X pins D) X.xe s
def PSs (X : Cx) (st : List Stmt) (t : TS) : Prop :=
  ∀ (pins : List (Addr × Obj)) (s : Shared) (σ : St) (H : Hp) (D : Ends), Inv X pins σ H s → t D σ H → wpAny (model X.prog X.w) X.A (execs st X.env) (SP X pins D) X.xe s
theorem thn {α : Type} {t : Sem α} {Q Q' : α → Shared → Prop} {M : Model} {A : Around} {E : Value → Shared → Prop} {s : Shared} (h : wpAny M A t Q E s) (hQ : ∀ a s, Q a s → Q' a s) : wpAny M A t Q' E s := wpAny_mono h hQ fun _ _ x => x
end L2
namespace L2
open PySem PySem.Spec PyProof.Rows
section
variable {X : Cx}
theorem bin {a b : Expr} {ta tb : TE} (ha : PE X a ta) (hb : PE X b tb) {pins : List (Addr × Obj)} {s : Shared} {σ : St} {H : Hp} {R : V → V → Hp → Prop} (I : Inv X pins σ H s) (h : ta σ H fun x H1 => tb σ H1 fun y H2 => R x y H2)
    {α : Type} {Q : α → Shared → Prop} {f : Value → Value → Sem α}
    (hf : ∀ v u s2 x y H2, Inv X pins σ H2 s2 → RelV x v → RelV y u → R x y H2 → wpAny (model X.prog X.w) X.A (f v u) Q X.xe s2) :
    wpAny (model X.prog X.w) X.A (eval a X.env) (fun v s₁ => wpAny (model X.prog X.w) X.A (eval b X.env) (fun u s₂ => wpAny (model X.prog X.w) X.A (f v u) Q X.xe s₂) X.xe s₁) X.xe s := by
  refine thn (ha pins s σ H _ I h) fun v s1 ⟨x, H1, I1, r1, q1⟩ => ?_
  refine thn (hb pins s1 σ H1 _ I1 q1) fun u s2 ⟨y, H2, I2, r2, q2⟩ => ?_
  exact hf v u s2 x y H2 I2 r1 r2 q2
def tVar (i : Nat) : TE := fun σ H Q => ∃ v, σ[i]? = some (some v) ∧ Q v H
def tC (v : V) : TE := fun _ H Q => Q v H
theorem pe_var {i : Nat} {x : Str} {pos : Pos} (hN : X.N[i]? = some x) (hv : Vis X.env.scope x) (hd : (x == ("__debug__" : Str)) = false := by decide) (hcd : (x == ("__classdict__" : Str)) = false := by decide) : PE X (.Name x pos) (tVar i) := by
  intro pins s σ H Q I h
  obtain ⟨v, e, h⟩ := h
  obtain ⟨m, hn, hl⟩ := I.loc
  obtain ⟨u, r, l⟩ := hl i x v hN e hv
  have fin : EP X pins σ Q u s := ⟨v, H, I, r, h⟩
  rcases l with ⟨hk, hm⟩ | ⟨hk, c, hc, hcell⟩
  · exact wpAny_Name (wpAny_loadName_local I.ok.kind hk hn hm fin) hd
  · rcases hk with hk | hk
    · exact wpAny_Name (wpAny_loadName_cell I.ok.kind hk hc hcell fin) hd
    · exact wpAny_Name (wpAny_loadName_free I.ok.kind hk hc hcell fin hcd) hd
theorem pe_int {i j pos} : PE X (.Constant (.int i) j pos) (tC (.int i)) := fun _ _ _ H _ I h => wpAny_Constant_int ⟨.int i, H, I.tok _, ⟨_, rfl⟩, h⟩
theorem pe_bl {b j pos} : PE X (.Constant (.bool b) j pos) (tC (.bl b)) := fun _ _ _ H _ I h => Constant_bool ⟨.bl b, H, I, rfl, h⟩
theorem pe_non {j pos} : PE X (.Constant .none j pos) (tC .non) := fun _ _ _ H _ I h => Constant_none ⟨.non, H, I, rfl, h⟩
theorem pe_str {x j pos} : PE X (.Constant (.str x) j pos) (tC (.str x)) := fun _ _ _ H _ I h => Calls.Constant_str ⟨.str x, H, I.tok _, ⟨_, rfl⟩, h⟩
def Gl (X : Cx) (x : Str) : Prop := X.env.kindOf x = some .globalImplicit
theorem ld_glob {E : Value → Shared → Prop} {pins : List (Addr × Obj)} {s : Shared} {σ : St} {H : Hp} {x : Str} {u : Value} {pos : Pos} {Q : Value → Shared → Prop} (I : Inv X pins σ H s) (hg : Gl X x) (hm : X.mg x = some u) (h : Q u s)
    (hd : (x == ("__debug__" : Str)) = false := by decide) : wpAny (model X.prog X.w) X.A (eval (.Name x pos) X.env) Q E s :=
  Calls.Name_function_global I.ok.kind hg (Calls.loadGlobal_global (by rw [I.ok.glob]; exact I.mod.glob.keeps I.bk) hm h) hd
theorem ld_blt {E : Value → Shared → Prop} {pins : List (Addr × Obj)} {s : Shared} {σ : St} {H : Hp} {x : Str} {u : Value} {pos : Pos} {Q : Value → Shared → Prop} (I : Inv X pins σ H s) (hg : Gl X x) (hm : X.mg x = none) (hv : bootBuiltins x = some u) (h : Q u s)
    (hn : x ≠ "__name__" := by decide) (hd : (x == ("__debug__" : Str)) = false := by decide) : wpAny (model X.prog X.w) X.A (eval (.Name x pos) X.env) Q E s := by
  obtain ⟨mb, h1, h2⟩ := I.mod.blt
  exact Calls.Name_function_global I.ok.kind hg (Calls.loadGlobal_builtin (by rw [I.ok.glob]; exact I.mod.glob.keeps I.bk) hm (by rw [I.ok.blt]; exact h1.keeps I.bk) ((h2 x hn).trans hv) h) hd
theorem pe_bltn {x : Str} {v : V} {u : Value} {pos : Pos} (hg : Gl X x) (hm : X.mg x = none) (hv : bootBuiltins x = some u) (r : RelV v u) (hn : x ≠ "__name__" := by decide) (hd : (x == ("__debug__" : Str)) = false := by decide) : PE X (.Name x pos) (tC v) :=
  fun _ _ _ H _ I h => ld_blt I hg hm hv ⟨v, H, I, r, h⟩ hn hd
variable {a b : Expr} {ta tb : TE} {pos : Pos}
variable {tA tB' : TT} {rest : List Expr}
def tOr (t u : TT) : TT := fun σ H Q => t σ H fun c H1 => if c = true then Q true H1 else u σ H1 Q
theorem pw_or1 (ha : PT X a tA) : PW X (.BoolOp .Or [a] pos) tA := by
  intro wh pins s σ H Q I h
  refine isTrue_or (thn (ha pins s σ H Q I h) fun c s1 e => ?_)
  cases c with
  | false => exact isTrue_or_nil e
  | true => exact e
theorem pw_or (ha : PT X a tA) (hb : PW X (.BoolOp .Or (b :: rest) pos) tB') : PW X (.BoolOp .Or (a :: b :: rest) pos) (tOr tA tB') := by
  intro wh pins s σ H Q I h
  refine isTrue_or (thn (ha pins s σ H _ I h) fun c s1 ⟨H1, I1, q1⟩ => ?_)
  cases c with
  | true => exact ⟨H1, I1, q1⟩
  | false => exact hb wh pins s1 σ H1 Q I1 q1
def tAndV (ta tb : TE) : TE := fun σ H Q => ta σ H fun x H1 => ∃ c, x = .bl c ∧ if c = true then tb σ H1 Q else Q (.bl false) H1
theorem pe_one {op} {t : TE} (h : PE X a t) : PE X (.BoolOp op [a] pos) t := fun pins s σ H Q I hw => BoolOp_one (h pins s σ H Q I hw)
theorem pe_and (ha : PE X a ta) (hb : PE X (.BoolOp .And (b :: rest) pos) tb) : PE X (.BoolOp .And (a :: b :: rest) pos) (tAndV ta tb) := by
  intro pins s σ H Q I h
  refine BoolOp_and (thn (ha pins s σ H _ I h) fun v s1 ⟨x, H1, I1, r1, q1⟩ => ?_)
  obtain ⟨c, rfl, q1⟩ := q1
  cases r1
  refine wpAny_truthy_bool ?_
  cases c with
  | true => exact hb pins s1 σ H1 Q I1 q1
  | false => exact ⟨.bl false, H1, I1, rfl, q1⟩
end
end L2
namespace L2
open PySem PySem.Spec PyProof.Rows
def SqL (K : PySem.W.Frag) (H : Hp) (a : Addr) (xs : List V) : Prop :=
  Rd H a (.lst xs) ∨
    ∃ (o : Obj) (its : Array Value) (n : Nat), K.lookup a = some o ∧ o.cls = .type "list" ∧ o.dict = none ∧ o.data = .seq its n ∧ its.size ≤ sizeLine ∧ Vals xs its.toList
def SqT (K : PySem.W.Frag) (H : Hp) (a : Addr) (xs : List V) : Prop :=
  Rd H a (.tup xs) ∨
    ∃ (o : Obj) (its : Array Value) (n : Nat), K.lookup a = some o ∧ o.cls = .type "tuple" ∧ o.data = .seq its n ∧ its.size ≤ sizeLine ∧ Vals xs its.toList
def absV : Value → Option V
  | .none => some .non
  | .bool b => some (.bl b)
  | .int i _ => some (.int i)
  | .str x _ => some (.str x)
  | .bytes b _ => some (.byt b)
  | .float b _ => some (.flt b)
  | .ref a => some (.ref a)
  | .type n => some (.ty n)
  | _ => none
theorem RelV.abs {x : V} {u : Value} (r : RelV x u) : absV u = some x := by
  cases x with
  | non => cases r; rfl
  | bl _ => cases r; rfl
  | int _ => obtain ⟨t, rfl⟩ := r; rfl
  | str _ => obtain ⟨t, rfl⟩ := r; rfl
  | byt _ => obtain ⟨t, rfl⟩ := r; rfl
  | flt _ => obtain ⟨t, rfl⟩ := r; rfl
  | ref _ => cases r; rfl
  | ty _ => cases r; rfl
theorem RelV.inj {x y : V} {u : Value} (r : RelV x u) (q : RelV y u) : x = y := Option.some.inj (r.abs.symm.trans q.abs)
theorem Vals.inj : ∀ {xs ys : List V} {us : List Value}, Vals xs us → Vals ys us → xs = ys
  | _, _, _, .nil, .nil => rfl
  | _, _, _, .cons r t, .cons r' t' => by rw [r.inj r', Vals.inj t t']
section
variable {X : Cx} {pins : List (Addr × Obj)} {σ : St} {H : Hp} {s : Shared} {a : Addr} {xs ys : List V}
theorem SqL.of {K : PySem.W.Frag} (h : H a = some (.lst xs)) : SqL K H a xs := .inl (.inl h)
theorem SqT.of {K : PySem.W.Frag} (h : H a = some (.tup xs)) : SqT K H a xs := .inl (.inl h)
theorem Inv.list (I : Inv X pins σ H s) (h : SqL X.K H a xs) : ∃ its : List Value, Vals xs its ∧ PlainL s.heap a its.toArray ∧ xs.length ≤ sizeLine := by
  rcases h with h | ⟨o, its, n, hk, hc, hd, hs, hz, r⟩
  · obtain ⟨z, its, n, r, e⟩ := h.ok I.hok
    exact ⟨its, r, ⟨_, n, e, rfl, rfl, rfl⟩, z⟩
  · refine ⟨its.toList, r, ⟨o, n, I.kIn a o hk, hc, hd, by simpa using hs⟩, ?_⟩
    have e := r.length
    simp only [Array.length_toList] at e
    omega
theorem Inv.tuple (I : Inv X pins σ H s) (h : SqT X.K H a xs) : ∃ its : List Value, Vals xs its ∧ IsTup s.heap a its.toArray ∧ xs.length ≤ sizeLine := by
  rcases h with h | ⟨o, its, n, hk, hc, hs, hz, r⟩
  · obtain ⟨z, its, r, p⟩ := h.ok I.hok
    exact ⟨its, r, p.tup, z⟩
  · refine ⟨its.toList, r, ⟨o, I.kIn a o hk, hc, n, by simpa using hs⟩, ?_⟩
    have e := r.length
    simp only [Array.length_toList] at e
    omega
theorem Inv.list_inj (I : Inv X pins σ H s) (h : SqL X.K H a xs) (h' : SqL X.K H a ys) : xs = ys := by
  obtain ⟨its, r, ⟨o, n, e, _, _, d⟩, _⟩ := I.list h
  obtain ⟨its', r', ⟨o', n', e', _, _, d'⟩, _⟩ := I.list h'
  rw [e] at e'; cases e'
  rw [d] at d'
  injection d' with d1 _
  have : its = its' := by simpa using congrArg Array.toList d1
  subst this
  exact r.inj r'
theorem Inv.tuple_inj (I : Inv X pins σ H s) (h : SqT X.K H a xs) (h' : SqT X.K H a ys) : xs = ys := by
  obtain ⟨its, r, ⟨o, e, _, n, d⟩, _⟩ := I.tuple h
  obtain ⟨its', r', ⟨o', e', _, n', d'⟩, _⟩ := I.tuple h'
  rw [e] at e'; cases e'
  rw [d] at d'
  injection d' with d1 _
  have : its = its' := by simpa using congrArg Array.toList d1
  subst this
  exact r.inj r'
end
abbrev Cx.wish (X : Cx) (E : Value → Shared → Prop) : Cx := { X with xe := E }
abbrev Cx.nox (X : Cx) : Cx := X.wish fun _ _ => False
theorem Cx.Ok.wish {X : Cx} (ok : X.Ok) (E : Value → Shared → Prop) : (X.wish E).Ok :=
  ⟨ok.mod, ok.kind, ok.glob, ok.blt, ok.above, ok.inj, ok.has, ok.cab, ok.hd, ok.frames, ok.stk, ok.exf, ok.bs, ok.bsz, ok.noex, ok.exfs, ok.funs, ok.frf⟩
theorem Cx.Ok.unwish {X : Cx} {E : Value → Shared → Prop} (ok : (X.wish E).Ok) : X.Ok :=
  ⟨ok.mod, ok.kind, ok.glob, ok.blt, ok.above, ok.inj, ok.has, ok.cab, ok.hd, ok.frames, ok.stk, ok.exf, ok.bs, ok.bsz, ok.noex, ok.exfs, ok.funs, ok.frf⟩
section
variable {X : Cx} {pins : List (Addr × Obj)} {σ : St} {H : Hp} {s : Shared} {E : Value → Shared → Prop}
theorem Inv.wish (I : Inv X pins σ H s) (E : Value → Shared → Prop) : Inv (X.wish E) pins σ H s := ⟨I.ok.wish E, I.os, I.bare, I.base, I.loc, I.cell, I.free, I.freeC, I.pin, I.hok, I.len⟩
theorem Inv.unwish (I : Inv (X.wish E) pins σ H s) : Inv X pins σ H s := ⟨I.ok.unwish, I.os, I.bare, I.base, I.loc, I.cell, I.free, I.freeC, I.pin, I.hok, I.len⟩
theorem SP.unwish {D : Ends} {f : Flow} {s' : Shared} (h : SP (X.wish E) pins D f s') : SP X pins D f s' := by
  cases f with
  | next => obtain ⟨σ', H', I, q⟩ := h; exact ⟨σ', H', I.unwish, q⟩
  | brk => obtain ⟨σ', H', I, q⟩ := h; exact ⟨σ', H', I.unwish, q⟩
  | cont => obtain ⟨σ', H', I, q⟩ := h; exact ⟨σ', H', I.unwish, q⟩
  | ret u => obtain ⟨v, σ', H', I, r, q⟩ := h; exact ⟨v, σ', H', I.unwish, r, q⟩
theorem PSs.nox {st : List Stmt} {t : TS} (h : PSs X.nox st t) : PSs X st t := fun pins s σ H D I hw =>
  wpAny_mono (h pins s σ H D (I.wish _) hw) (fun _ _ q => q.unwish) fun _ _ z => False.elim z
end
section
variable {X : Cx} {st : Stmt} {rest : List Stmt} {t u : TS} {e : Expr} {te : TE} {pos : Pos}
def tNext : TS := fun D σ H => D.nx σ H
def tSeq (t u : TS) : TS := fun D σ H => t { D with nx := u D } σ H
theorem pss_nil : PSs X [] tNext := fun _ _ σ H _ I h => wpAny_execs_nil ⟨σ, H, I, h⟩
theorem pss_cons (h1 : PS X st t) (h2 : PSs X rest u) : PSs X (st :: rest) (tSeq t u) := by
  intro pins s σ H D I h
  refine wpAny_execs_cons (thn (h1 pins s σ H { D with nx := u D } I h) fun f s1 q => ?_)
  cases f with
  | next =>
    obtain ⟨σ', H', I', q⟩ := q
    exact h2 pins s1 σ' H' D I' q
  | ret v => exact q
  | brk => exact q
  | cont => exact q
theorem pss_one (h1 : PS X st t) : PSs X [st] t := by
  intro pins s σ H D I h
  refine wpAny_execs_cons (thn (h1 pins s σ H D I h) fun f s1 q => ?_)
  cases f with
  | next => exact wpAny_execs_nil q
  | ret v => exact q
  | brk => exact q
  | cont => exact q
theorem Inv.quiet {pins : List (Addr × Obj)} {σ : St} {H : Hp} {s : Shared} (I : Inv X pins σ H s) : interactive X.env = false := by simp [interactive, I.ok.kind]
def tDrop (te : TE) : TS := fun D σ H => te σ H fun _ H1 => D.nx σ H1
theorem ps_expr (he : PE X e te) (hs : swapsWith e none pos.line X.env = pure false := by rfl) : PS X (.Expr e pos) (tDrop te) := by
  intro pins s σ H D I h
  exact wpAny_Expr_any (thn (he pins s σ H _ I h) fun v s1 ⟨x, H1, I1, r1, q1⟩ => ⟨σ, H1, I1, q1⟩) I.quiet hs
def tRet (te : TE) : TS := fun D σ H => te σ H D.rt
theorem ps_ret (he : PE X e te) : PS X (.Return (some e) pos) (tRet te) := by
  intro pins s σ H D I h
  exact wpAny_Return_some (thn (he pins s σ H _ I h) fun v s1 ⟨x, H1, I1, r1, q1⟩ => ⟨x, σ, H1, I1, r1, q1⟩)
def tIfS (c : TT) (t u : TS) : TS := fun D σ H => c σ H fun b H1 => if b = true then t D σ H1 else u D σ H1
theorem ps_if {c : Expr} {a b : List Stmt} {tc : TT} (hc : PT X c tc) (ha : PSs X a t) (hb : PSs X b u) : PS X (.If c a b pos) (tIfS tc t u) := by
  intro pins s σ H D I h
  refine wpAny_If (thn (hc pins s σ H _ I h) fun d s1 ⟨H1, I1, q1⟩ => ?_)
  cases d with
  | true => exact ha pins s1 σ H1 D I1 q1
  | false => exact hb pins s1 σ H1 D I1 q1
def tNever : TS := fun _ _ _ => False
theorem ps_never : PS X st tNever := fun _ _ _ _ _ _ h => h.elim
end
abbrev TG := V → St → Hp → (St → Hp → Prop) → Prop
def PG (X : Cx) (target : Expr) (t : TG) : Prop :=
  ∀ (pins : List (Addr × Obj)) (s : Shared) (σ : St) (H : Hp) (v : V) (u : Value) (Q : St → Hp → Prop), Inv X pins σ H s → RelV v u → t v σ H Q →
    wpAny (model X.prog X.w) X.A (assign target X.env u) (fun _ s' => ∃ σ' H', Inv X pins σ' H' s' ∧ Q σ' H') X.xe s
section
variable {X : Cx} {pos : Pos}
def gName (i : Nat) : TG := fun v σ H Q => Q (σ.set i (some v)) H
theorem pg_name {i : Nat} {x : Str} (hN : X.N.Nodup) (hi : X.N[i]? = some x) (hx : Loc X.env.scope x) (hf : X.fn x = true ∨ X.env.scope.names.lookup x = some .local := by first | exact .inl rfl | exact .inr rfl | assumption) : PG X (.Name x pos) (gName i) := by
  intro pins s σ H v u Q I r h
  exact wpAny_assign_Name (store_ok I hN hi hx r (fun s' I' => ⟨_, H, I', h⟩) hf)
def tAsg (te : TE) (g : TG) : TS := fun D σ H => te σ H fun x H1 => g x σ H1 D.nx
theorem ps_set {i : Nat} {x : Str} {e : Expr} {te : TE} {pos' : Pos} (hN : X.N.Nodup) (hi : X.N[i]? = some x) (hx : Loc X.env.scope x) (he : PE X e te) (hs : swapsWith e (some (.Name x pos')) pos.line X.env = pure false := by rfl) (hf : X.fn x = true ∨ X.env.scope.names.lookup x = some .local := by first | exact .inl rfl | exact .inr rfl | assumption) :
    PS X (.Assign [.Name x pos'] e pos) (tAsg te (gName i)) := by
  intro pins s σ H D I h
  refine wpAny_Assign_Name (thn (he pins s σ H _ I h) fun v s1 ⟨y, H1, I1, r1, q1⟩ => ?_) hs
  exact store_ok I1 hN hi hx r1 (fun s2 I2 => ⟨_, H1, I2, q1⟩) hf
end
section
variable {X : Cx} {pos : Pos}
end
structure It where
  go : Nat → Hp → Prop
  yld : Nat → Hp → V → Hp → Prop
  stop : Nat → Hp → Prop
def FpOk (X : Cx) (pins : List (Addr × Obj)) (H : Hp) (b : Addr) : Prop :=
  H b = none ∧ b ≠ X.env.locals ∧ b ∉ X.fs ∧ (b ∈ X.ex ∨ X.s₀.heap.objs.size ≤ b) ∧ (∀ x c, X.env.cells.lookup x = some c → c ≠ b) ∧ ∀ p ∈ X.pn ++ pins, p.1 ≠ b
theorem Inv.fpOk {X : Cx} {pins : List (Addr × Obj)} {σ : St} {H H' : Hp} {s : Shared} {b : Addr} (I : Inv X pins σ H s) (hb : s.heap.objs.size ≤ b) (hn : H' b = none) : FpOk X pins H' b := by
  refine ⟨hn, Nat.ne_of_gt (Nat.lt_of_lt_of_le I.lt hb), I.nofs hb, .inr (Nat.le_trans I.sz hb), fun x c e z => ?_, fun p hp z => ?_⟩
  · obtain ⟨v, q⟩ := I.cell x c e
    exact absurd (Nat.lt_of_lt_of_le q.lt (by rw [z]; exact hb)) (Nat.lt_irrefl _)
  · exact absurd (Nat.lt_of_lt_of_le (Heap.lt_size (I.pin p hp).1) (by rw [z]; exact hb)) (Nat.lt_irrefl _)
structure Turn (P : Program) (w : World) (K : PySem.W.Frag) (tg : Expr) (J : It) (fp : List Addr) (it : Addr) (tn : Nat → Heap → Prop) : Prop where
  mem : it ∈ fp
  obj : ∀ i h, tn i h → ∀ b ∈ fp, ∃ o, h.get? b = some o ∧ ∀ v, o.data ≠ .cell v
  keep : ∀ i h h', tn i h → (∀ b ∈ fp, ∀ o, h.get? b = some o → h'.get? b = some o) → tn i h'
  item : ∀ (X : Cx), X.prog = P → X.w = w → X.K = K → X.calm = true → ∀ (i : Nat) (pins : List (Addr × Obj)) (s : Shared) (σ : St) (H : Hp) (E : Value → Shared → Prop), Inv X pins σ H s → (∀ b ∈ fp, FpOk X pins H b) → tn i s.heap → J.go i H →
    wpAny (model P w) X.A (pyNext (.ref it)) (fun r s1 => ∃ u, r = some u ∧
      wpAny (model P w) X.A (letOwnedTupleGo tg (.ref it) u) (fun _ s2 => ∃ x H', Inv X pins σ H' s2 ∧ RelV x u ∧ J.yld i H x H' ∧ tn (i + 1) s2.heap ∧ ∀ b ∈ fp, H' b = none) E s1) E s
  done : ∀ (X : Cx), X.prog = P → X.w = w → X.K = K → X.calm = true → ∀ (i : Nat) (pins : List (Addr × Obj)) (s : Shared) (σ : St) (H : Hp) (E : Value → Shared → Prop), Inv X pins σ H s → (∀ b ∈ fp, FpOk X pins H b) → tn i s.heap → J.stop i H →
    wpAny (model P w) X.A (pyNext (.ref it)) (fun r s1 => r = none ∧ Inv X pins σ H s1) E s
  self : ∀ (A : Around) (i : Nat) (s : Shared) (Q : Value → Shared → Prop) (E : Value → Shared → Prop), tn i s.heap → Q (.ref it) s → wpAny (model P w) A (pyIter (.ref it)) Q E s
abbrev TI := St → Hp → (It → Hp → Prop) → Prop
def PIE (X : Cx) (pins : List (Addr × Obj)) (σ : St) (tg : Expr) (R : It → Hp → Prop) (itv : Value) (s2 : Shared) : Prop :=
  ∃ (it : Addr) (fp : List Addr) (tn : Nat → Heap → Prop) (J : It) (H' : Hp), itv = .ref it ∧ Inv X pins σ H' s2 ∧ Turn X.prog X.w X.K tg J fp it tn ∧ tn 0 s2.heap ∧ (∀ b ∈ fp, FpOk X pins H' b) ∧ R J H'
def PI (X : Cx) (tg iter : Expr) (wi : TI) : Prop :=
  ∀ (pins : List (Addr × Obj)) (s : Shared) (σ : St) (H : Hp) (R : It → Hp → Prop), Inv X pins σ H s → wi σ H R →
    wpAny (model X.prog X.w) X.A (eval iter X.env) (fun v s1 => wpAny (model X.prog X.w) X.A (pyIter v) (PIE X pins σ tg R) X.xe s1) X.xe s
theorem go_of {M : Model} {A : Around} {E : Value → Shared → Prop} {s : Shared} {tg : Expr} {it : Addr} {u : Value} {o : Obj} {n : String} {vs : Array Value} {Q : Unit → Shared → Prop} (ho : s.heap.get? it = some o) (hc : o.cls = .type n) (hd : o.data = .fields vs)
    (hn : ["enumerate", "zip", "dict_itemiterator", "dict_reverseitemiterator", "odict_iterator", "itertools.zip_longest", "itertools.pairwise"].contains n = false) (hQ : Q () s) : wpAny M A (letOwnedTupleGo tg (.ref it) u) Q E s := by
  unfold letOwnedTupleGo
  cases tg <;> first
    | exact wpAny_pure hQ
    | (cases u <;> first
        | exact wpAny_pure hQ
        | (refine wpAny_bind (wpAny_load ho ?_)
           rw [hc, hd]
           show wpAny M A (if (["enumerate", "zip", "dict_itemiterator", "dict_reverseitemiterator", "odict_iterator", "itertools.zip_longest", "itertools.pairwise"].contains n && vs[0]? == some (rawInt _)) = true then _ else _) Q E s
           rw [if_neg (by intro h; rw [hn, Bool.false_and] at h; cases h)]
           exact wpAny_pure hQ))
def Itl (K : PySem.W.Frag) (a : Addr) : It :=
  ⟨fun i H => ∃ xs x, SqL K H a xs ∧ xs[i]? = some x, fun i H x H' => H' = H ∧ ∀ xs, SqL K H a xs → xs[i]? = some x, fun i H => ∃ xs, SqL K H a xs ∧ xs.length ≤ i⟩
def Itt (K : PySem.W.Frag) (a : Addr) : It :=
  ⟨fun i H => ∃ xs x, SqT K H a xs ∧ xs[i]? = some x, fun i H x H' => H' = H ∧ ∀ xs, SqT K H a xs → xs[i]? = some x, fun i H => ∃ xs, SqT K H a xs ∧ xs.length ≤ i⟩
theorem turn_list {P : Program} {w : World} {K : PySem.W.Frag} {tg : Expr} (a it : Addr) : Turn P w K tg (Itl K a) [it] it (fun i h => h.IsListIter it a i) where
  mem := by simp
  obj := fun i h st b hb => by
    have e : b = it := by simpa using hb
    subst e
    obtain ⟨o, e, c, d⟩ := st
    exact ⟨o, e, fun v z => by rw [d] at z; cases z⟩
  keep := fun i h h' st k => st.at fun o e => k it (by simp) o e
  item := by
    intro X hP hw hK hc i pins s σ H E I hf st hg
    subst hP hw hK
    obtain ⟨xs, x, hq, hx⟩ := hg
    obtain ⟨its, rv, p, hz⟩ := I.list hq
    obtain ⟨u, hu, ru⟩ := rv.get hx
    obtain ⟨f0, f1, f2, f3, f4, f5⟩ := hf it (by simp)
    refine wpAny_pyNext_list_item st p.isList (x := u) (by simpa using hu) fun h' st' sb => ?_
    have I1 : Inv X pins σ H { s with heap := h' } := I.turned (t' := s.toks) (fun b o hb e => (sb.2 b hb).trans e) f0 f1 f3 f4 f5
    obtain ⟨o, e, c, d⟩ := id st'
    exact ⟨u, rfl, go_of (s := { s with heap := h' }) e c d (by decide) ⟨x, H, I1, ru, ⟨rfl, fun ys hy => by rw [I.list_inj hy hq]; exact hx⟩, st', fun b hb => (hf b hb).1⟩⟩
  done := by
    intro X hP hw hK hc i pins s σ H E I hf st hg
    subst hP hw hK
    obtain ⟨xs, hq, hx⟩ := hg
    obtain ⟨its, rv, p, hz⟩ := I.list hq
    obtain ⟨f0, f1, f2, f3, f4, f5⟩ := hf it (by simp)
    have hl := rv.length
    exact wpAny_pyNext_list_end (I.ok.hd hc) st p.isList (by simp; omega) fun h' eb => ⟨rfl, I.turned (t' := s.toks) (fun b o hb e => eb b o hb e) f0 f1 f3 f4 f5⟩
  self := fun _ _ _ _ _ st h => wpAny_pyIter_listiter st h
theorem turn_tuple {P : Program} {w : World} {K : PySem.W.Frag} {tg : Expr} (a it : Addr) : Turn P w K tg (Itt K a) [it] it (fun i h => h.IsTupleIter it a i) where
  mem := by simp
  obj := fun i h st b hb => by
    have e : b = it := by simpa using hb
    subst e
    obtain ⟨o, e, c, d⟩ := st
    exact ⟨o, e, fun v z => by rw [d] at z; cases z⟩
  keep := fun i h h' st k => st.at fun o e => k it (by simp) o e
  item := by
    intro X hP hw hK hc i pins s σ H E I hf st hg
    subst hP hw hK
    obtain ⟨xs, x, hq, hx⟩ := hg
    obtain ⟨its, rv, p, hz⟩ := I.tuple hq
    obtain ⟨u, hu, ru⟩ := rv.get hx
    obtain ⟨f0, f1, f2, f3, f4, f5⟩ := hf it (by simp)
    refine wpAny_pyNext_tuple_item st (show s.heap.IsTuple a its.toArray from p) (x := u) (by simpa using hu) fun h' st' sb => ?_
    have I1 : Inv X pins σ H { s with heap := h' } := I.turned (t' := s.toks) (fun b o hb e => (sb.2 b hb).trans e) f0 f1 f3 f4 f5
    obtain ⟨o, e, c, d⟩ := id st'
    exact ⟨u, rfl, go_of (s := { s with heap := h' }) e c d (by decide) ⟨x, H, I1, ru, ⟨rfl, fun ys hy => by rw [I.tuple_inj hy hq]; exact hx⟩, st', fun b hb => (hf b hb).1⟩⟩
  done := by
    intro X hP hw hK hc i pins s σ H E I hf st hg
    subst hP hw hK
    obtain ⟨xs, hq, hx⟩ := hg
    obtain ⟨its, rv, p, hz⟩ := I.tuple hq
    obtain ⟨f0, f1, f2, f3, f4, f5⟩ := hf it (by simp)
    have hl := rv.length
    exact wpAny_pyNext_tuple_end (I.ok.hd hc) st (show s.heap.IsTuple a its.toArray from p) (by simp; omega) fun h' eb => ⟨rfl, I.turned (t' := s.toks) (fun b o hb e => eb b o hb e) f0 f1 f3 f4 f5⟩
  self := fun _ _ _ _ _ st h => wpAny_pyIter_tupleiter st h
end L2
namespace L2
open PySem PySem.Spec PyProof.Rows
section
variable {X : Cx} {tg : Expr}
def iList (K : PySem.W.Frag) (tl : TE) : TI := fun σ H R => tl σ H fun x H1 => ∃ a, x = .ref a ∧ (∃ xs, SqL K H1 a xs) ∧ R (Itl K a) H1
def iTup (K : PySem.W.Frag) (tl : TE) : TI := fun σ H R => tl σ H fun x H1 => ∃ a, x = .ref a ∧ (∃ xs, SqT K H1 a xs) ∧ R (Itt K a) H1
theorem pi_list {l : Expr} {tl : TE} (hl : PE X l tl) : PI X tg l (iList X.K tl) := by
  intro pins s σ H R I h
  refine thn (hl pins s σ H _ I h) fun v s1 ⟨x, H1, I1, r1, q1⟩ => ?_
  obtain ⟨a, e, ⟨xs, hq⟩, q⟩ := q1
  subst e
  cases r1
  obtain ⟨its, rv, p, hz⟩ := I1.list hq
  refine wpAny_pyIter_list p.isList ?_
  refine ⟨s1.heap.objs.size, [s1.heap.objs.size], _, _, H1, rfl, I1.kept (t' := s1.toks) fun b o e => Heap.get?_push_of_some _ e, turn_list a _, ⟨_, Heap.get?_push_size _ rfl, rfl, rfl⟩, fun b hb => ?_, q⟩
  have e : b = s1.heap.objs.size := by simpa using hb
  subst e
  exact I1.fpOk (Nat.le_refl _) (I1.hok.fresh (Nat.le_refl _))
theorem pi_tup {l : Expr} {tl : TE} (hl : PE X l tl) : PI X tg l (iTup X.K tl) := by
  intro pins s σ H R I h
  refine thn (hl pins s σ H _ I h) fun v s1 ⟨x, H1, I1, r1, q1⟩ => ?_
  obtain ⟨a, e, ⟨xs, hq⟩, q⟩ := q1
  subst e
  cases r1
  obtain ⟨its, rv, p, hz⟩ := I1.tuple hq
  refine wpAny_pyIter_tuple (show s1.heap.IsTuple a its.toArray from p) ?_
  refine ⟨s1.heap.objs.size, [s1.heap.objs.size], _, _, H1, rfl, I1.kept (t' := s1.toks) fun b o e => Heap.get?_push_of_some _ e, turn_tuple a _, ⟨_, Heap.get?_push_size _ rfl, rfl, rfl⟩, fun b hb => ?_, q⟩
  have e : b = s1.heap.objs.size := by simpa using hb
  subst e
  exact I1.fpOk (Nat.le_refl _) (I1.hok.fresh (Nat.le_refl _))
def tFor (wi : TI) (g : TG) (tb : TS) : TS := fun D σ H => wi σ H fun J H1 => ∃ W : Nat → Nat → St → Hp → Prop, (∃ m, W 0 m σ H1) ∧ ∀ i m σ H, W i m σ H →
  (J.stop i H ∧ D.nx σ H) ∨ (J.go i H ∧ ∃ N : St → Hp → Prop, (∀ σ' H', N σ' H' → ∃ m', m' < m ∧ W (i + 1) m' σ' H') ∧ ∀ x H', J.yld i H x H' → g x σ H' fun σ2 H2 => tb { D with nx := N, ct := N, bk := D.nx } σ2 H2)
def pinsAt (fp : List Addr) (h : Heap) : List (Addr × Obj) := fp.filterMap fun b => (h.get? b).map fun o => (b, o)
theorem mem_pinsAt {fp : List Addr} {h : Heap} {b : Addr} {o : Obj} (hb : b ∈ fp) (e : h.get? b = some o) : (b, o) ∈ pinsAt fp h := List.mem_filterMap.mpr ⟨b, hb, by rw [e]; rfl⟩
theorem of_pinsAt {fp : List Addr} {h : Heap} {p : Addr × Obj} (hp : p ∈ pinsAt fp h) : p.1 ∈ fp ∧ h.get? p.1 = some p.2 := by
  obtain ⟨b, hb, e⟩ := List.mem_filterMap.mp hp
  cases q : h.get? b with
  | none => rw [q] at e; cases e
  | some o =>
    rw [q] at e
    have e' : (b, o) = p := Option.some.inj e
    subst e'
    exact ⟨hb, q⟩
theorem Inv.pinned {pins : List (Addr × Obj)} {σ : St} {H : Hp} {s : Shared} {fp : List Addr} (I : Inv X pins σ H s) (hf : ∀ b ∈ fp, FpOk X pins H b) (ho : ∀ b ∈ fp, ∃ o, s.heap.get? b = some o ∧ ∀ v, o.data ≠ .cell v) : Inv X (pins ++ pinsAt fp s.heap) σ H s :=
  I.pins_of fun p hp => (List.mem_append.mp hp).elim (fun z => I.pin p (List.mem_append_right _ z)) fun z => by
    obtain ⟨hb, e⟩ := of_pinsAt z
    obtain ⟨f0, f1, f2, _⟩ := hf p.1 hb
    obtain ⟨o, e', d⟩ := ho p.1 hb
    rw [e] at e'; cases e'
    exact ⟨e, f0, f1, f2, d⟩
theorem Inv.unpinned {pins pl : List (Addr × Obj)} {σ : St} {H : Hp} {s : Shared} (I : Inv X (pins ++ pl) σ H s) : Inv X pins σ H s := I.pins_of fun p hp => I.pin p (List.mem_append_right _ (List.mem_append_left _ hp))
theorem ps_for {iter : Expr} {body : List Stmt} {wi : TI} {g : TG} {tb : TS} {pos : Pos} (hp : PassesOwn (model X.prog X.w) X.A X.env X.xe) (hc : X.calm = true) (hi : PI X tg iter wi) (hg : PG X tg g) (hb : PSs X body tb)
    (hs : ∀ x, foldedSetIterable iter X.env x = pure x := by intro _; rfl) : PS X (.For tg iter body [] pos) (tFor wi g tb) := by
  intro pins s σ H D I h
  refine wpAny_For (thn (hi pins s σ H _ I h) fun v s1 h1 => thn h1 fun itv s2 h2 => ?_) hs
  obtain ⟨it, fp, tn, J, H2, e, I2, T, st2, f2, W, ⟨m0, w0⟩, turn⟩ := h2
  subst e
  -- what stays true of the iterator's objects through the loop
  have stat : ∀ {H' : Hp}, (∀ b ∈ fp, H' b = none) → ∀ b ∈ fp, FpOk X pins H' b := fun hn b hb => ⟨hn b hb, (f2 b hb).2⟩
  refine codeAny_forLoop_any (fun n s' => ∃ i σ' H', Inv X pins σ' H' s' ∧ tn i s'.heap ∧ (∀ b ∈ fp, H' b = none) ∧ W i n σ' H') ?_ m0 ⟨0, σ, H2, I2, st2, fun b hb => (f2 b hb).1, w0⟩
  rintro n s3 ⟨i, σ3, H3, I3, st3, fr3, w3⟩
  rcases turn i n σ3 H3 w3 with ⟨stop, qn⟩ | ⟨go, N, hN, step⟩
  · refine wpAny_passesOwn hp (thn (T.done X rfl rfl rfl hc i pins s3 σ3 H3 X.xe I3 (stat fr3) st3 stop) fun r s4 ⟨hr, I4⟩ => ?_)
    subst hr
    exact wpAny_execs_nil ⟨σ3, H3, I4, qn⟩
  · refine wpAny_passesOwn hp (thn (T.item X rfl rfl rfl hc i pins s3 σ3 H3 X.xe I3 (stat fr3) st3 go) fun r s4 ⟨u, hr, h4⟩ => ?_)
    subst hr
    refine wpAny_passesOwn hp (thn h4 fun _ s5 ⟨x, H5, I5, r5, y5, st5, fr5⟩ => ?_)
    have I5' := I5.pinned (stat fr5) (T.obj _ _ st5)
    refine wpAny_passesOwn hp (thn (hg _ s5 σ3 H5 x u _ I5' r5 (step x H5 y5)) fun _ s6 ⟨σ6, H6, I6, q6⟩ => ?_)
    refine wpAny_passesOwn hp (thn (hb _ s6 σ6 H6 _ I6 q6) fun f s7 q7 => ?_)
    have again : ∀ {σ7 : St} {H7 : Hp}, Inv X (pins ++ pinsAt fp s5.heap) σ7 H7 s7 → N σ7 H7 → ∃ m, m < n ∧ ∃ i σ' H', Inv X pins σ' H' s7 ∧ tn i s7.heap ∧ (∀ b ∈ fp, H' b = none) ∧ W i m σ' H' := fun {σ7 H7} I7 n7 => by
      obtain ⟨m', hm, w7⟩ := hN σ7 H7 n7
      refine ⟨m', hm, i + 1, σ7, H7, I7.unpinned, T.keep _ _ _ st5 fun b hb o e => (I7.pin (b, o) (List.mem_append_right _ (List.mem_append_right _ (mem_pinsAt hb e)))).1, fun b hb => ?_, w7⟩
      obtain ⟨o, e, d⟩ := T.obj _ _ st5 b hb
      exact (I7.pin (b, o) (List.mem_append_right _ (List.mem_append_right _ (mem_pinsAt hb e)))).2.1
    cases f with
    | next => obtain ⟨σ7, H7, I7, n7⟩ := q7; exact again I7 n7
    | cont => obtain ⟨σ7, H7, I7, n7⟩ := q7; exact again I7 n7
    | brk => obtain ⟨σ7, H7, I7, q7⟩ := q7; exact ⟨σ7, H7, I7.unpinned, q7⟩
    | ret v => obtain ⟨x7, σ7, H7, I7, r7, q7⟩ := q7; exact ⟨x7, σ7, H7, I7.unpinned, r7, q7⟩
end
theorem for_list {K : PySem.W.Frag} {a : Addr} {xs : List V} {g : TG} {tb : TS} {D : Ends} {σ : St} {H : Hp} (Pv : Nat → St → Hp → Prop) (h0 : Pv 0 σ H) (hl : ∀ i σ H, i ≤ xs.length → Pv i σ H → SqL K H a xs)
    (hs : ∀ i x σ H, xs[i]? = some x → Pv i σ H → g x σ H fun σ2 H2 => tb { D with nx := Pv (i + 1), ct := Pv (i + 1), bk := D.nx } σ2 H2) (hd : ∀ σ H, Pv xs.length σ H → D.nx σ H) :
    ∃ W : Nat → Nat → St → Hp → Prop, (∃ m, W 0 m σ H) ∧ ∀ i m σ H, W i m σ H →
      ((Itl K a).stop i H ∧ D.nx σ H) ∨ ((Itl K a).go i H ∧ ∃ N : St → Hp → Prop, (∀ σ' H', N σ' H' → ∃ m', m' < m ∧ W (i + 1) m' σ' H') ∧ ∀ x H', (Itl K a).yld i H x H' → g x σ H' fun σ2 H2 => tb { D with nx := N, ct := N, bk := D.nx } σ2 H2) := by
  refine ⟨fun i m σ H => m = xs.length - i ∧ i ≤ xs.length ∧ Pv i σ H, ⟨xs.length, by simp, Nat.zero_le _, h0⟩, ?_⟩
  rintro i m σ H ⟨rfl, hi, p⟩
  have q := hl i σ H hi p
  by_cases hlt : i < xs.length
  · refine .inr ⟨⟨xs, xs[i], q, by simp [hlt]⟩, Pv (i + 1), fun σ' H' p' => ⟨xs.length - (i + 1), by omega, rfl, hlt, p'⟩, fun x H' y => ?_⟩
    obtain ⟨e, y⟩ := y
    subst e
    exact hs i x σ _ (y xs q) p
  · have e : i = xs.length := by omega
    subst e
    exact .inl ⟨⟨xs, q, Nat.le_refl _⟩, hd σ H p⟩
theorem for_tup {K : PySem.W.Frag} {a : Addr} {xs : List V} {g : TG} {tb : TS} {D : Ends} {σ : St} {H : Hp} (Pv : Nat → St → Hp → Prop) (h0 : Pv 0 σ H) (hl : ∀ i σ H, i ≤ xs.length → Pv i σ H → SqT K H a xs)
    (hs : ∀ i x σ H, xs[i]? = some x → Pv i σ H → g x σ H fun σ2 H2 => tb { D with nx := Pv (i + 1), ct := Pv (i + 1), bk := D.nx } σ2 H2) (hd : ∀ σ H, Pv xs.length σ H → D.nx σ H) :
    ∃ W : Nat → Nat → St → Hp → Prop, (∃ m, W 0 m σ H) ∧ ∀ i m σ H, W i m σ H →
      ((Itt K a).stop i H ∧ D.nx σ H) ∨ ((Itt K a).go i H ∧ ∃ N : St → Hp → Prop, (∀ σ' H', N σ' H' → ∃ m', m' < m ∧ W (i + 1) m' σ' H') ∧ ∀ x H', (Itt K a).yld i H x H' → g x σ H' fun σ2 H2 => tb { D with nx := N, ct := N, bk := D.nx } σ2 H2) := by
  refine ⟨fun i m σ H => m = xs.length - i ∧ i ≤ xs.length ∧ Pv i σ H, ⟨xs.length, by simp, Nat.zero_le _, h0⟩, ?_⟩
  rintro i m σ H ⟨rfl, hi, p⟩
  have q := hl i σ H hi p
  by_cases hlt : i < xs.length
  · refine .inr ⟨⟨xs, xs[i], q, by simp [hlt]⟩, Pv (i + 1), fun σ' H' p' => ⟨xs.length - (i + 1), by omega, rfl, hlt, p'⟩, fun x H' y => ?_⟩
    obtain ⟨e, y⟩ := y
    subst e
    exact hs i x σ _ (y xs q) p
  · have e : i = xs.length := by omega
    subst e
    exact .inl ⟨⟨xs, q, Nat.le_refl _⟩, hd σ H p⟩
end L2
namespace L2
open PySem PySem.Spec PyProof.Rows
abbrev R2 := V → V → Hp → VK → Prop
def OpR (X : Cx) (f : Value → Value → Sem Value) (r : R2) : Prop :=
  ∀ (pins : List (Addr × Obj)) (s : Shared) (σ : St) (H : Hp) (x y : V) (v u : Value) (Q : VK), Inv X pins σ H s → RelV x v → RelV y u → r x y H Q →
    wpAny (model X.prog X.w) X.A (f v u) (EP X pins σ Q) X.xe s
def CallR (X : Cx) (f : Value) (r : List V → Hp → VK → Prop) : Prop :=
  ∀ (pins : List (Addr × Obj)) (s : Shared) (σ : St) (H : Hp) (xs : List V) (us : List Value) (Q : VK), Inv X pins σ H s → Vals xs us → r xs H Q →
    wpAny (model X.prog X.w) X.A (call f us) (EP X pins σ Q) X.xe s
def TruR (X : Cx) (r : V → Hp → (Bool → Hp → Prop) → Prop) : Prop :=
  ∀ (pins : List (Addr × Obj)) (s : Shared) (σ : St) (H : Hp) (x : V) (v : Value) (Q : Bool → Hp → Prop), Inv X pins σ H s → RelV x v → r x H Q →
    wpAny (model X.prog X.w) X.A (truthy v) (TP X pins σ Q) X.xe s
def tOp (r : R2) (ta tb : TE) : TE := fun σ H Q => ta σ H fun x H1 => tb σ H1 fun y H2 => r x y H2 Q
def rI (C : Int → Int → Prop) (g : Int → Int → V) : R2 := fun x y H Q => ∃ i j, x = .int i ∧ y = .int j ∧ C i j ∧ Q (g i j) H
def rI0 (g : Int → Int → V) : R2 := fun x y H Q => ∃ i j, x = .int i ∧ y = .int j ∧ Q (g i j) H
section
variable {X : Cx} {a b c : Expr} {ta tb tc : TE} {pos : Pos}
theorem binT (ha : PE X a ta) (hb : PE X b tb) {pins : List (Addr × Obj)} {s : Shared} {σ : St} {H : Hp} {R : V → V → Hp → Prop} (I : Inv X pins σ H s)
    (h : ta σ H fun x H1 => tb σ H1 fun y H2 => R x y H2) {Q : Value → Shared → Prop} {f : Value → Value → Sem Value}
    (hf : ∀ v u s2 x y H2, Inv X pins σ H2 s2 → RelV x v → RelV y u → R x y H2 → wpAny (model X.prog X.w) X.A (f v u) Q X.xe s2) :
    wpAny (model X.prog X.w) X.A (eval a X.env) (fun v s₁ => wpAny (model X.prog X.w) X.A (eval b X.env) (fun u s₂ => wpAny (model X.prog X.w) X.A (f v u) Q X.xe s₂) X.xe s₁) X.xe s := by
  refine thn (ha pins s σ H _ I h) fun v s1 ⟨x, H1, I1, r1, q1⟩ => ?_
  refine thn (hb pins s1 σ H1 _ I1 q1) fun u s2 ⟨y, H2, I2, r2, q2⟩ => ?_
  exact hf v u s2 x y H2 I2 r1 r2 q2
theorem pe_op {op : Operator} {r : R2} (ho : OpR X (binaryOp op) r) (ha : PE X a ta) (hb : PE X b tb) : PE X (.BinOp a op b pos) (tOp r ta tb) := by
  intro pins s σ H Q I h
  exact wpAny_BinOp (binT ha hb I h fun v u s2 x y H2 I2 rx ry q => ho pins s2 σ H2 x y v u Q I2 rx ry q)
theorem opI {f : Value → Value → Sem Value} {C : Int → Int → Prop} {g : Int → Int → Int}
    (rule : ∀ (i j : Int) (t u : Tok) (s : Shared) (Q : Value → Shared → Prop) (E : Value → Shared → Prop), C i j → Q (.int (g i j) s.toks) { s with toks := s.toks + 1 } → wpAny (model X.prog X.w) X.A (f (.int i t) (.int j u)) Q E s) :
    OpR X f (rI C fun i j => .int (g i j)) := by
  intro pins s σ H x y v u Q I rx ry h
  obtain ⟨i, j, rfl, rfl, hc, q⟩ := h
  obtain ⟨t, rfl⟩ := rx
  obtain ⟨t', rfl⟩ := ry
  exact rule i j t t' s _ _ hc ⟨.int (g i j), H, I.tok _, ⟨_, rfl⟩, q⟩
theorem opI0 {f : Value → Value → Sem Value} {g : Int → Int → Int}
    (rule : ∀ (i j : Int) (t u : Tok) (s : Shared) (Q : Value → Shared → Prop) (E : Value → Shared → Prop), Q (.int (g i j) s.toks) { s with toks := s.toks + 1 } → wpAny (model X.prog X.w) X.A (f (.int i t) (.int j u)) Q E s) :
    OpR X f (rI0 fun i j => .int (g i j)) := by
  intro pins s σ H x y v u Q I rx ry h
  obtain ⟨i, j, rfl, rfl, q⟩ := h
  obtain ⟨t, rfl⟩ := rx
  obtain ⟨t', rfl⟩ := ry
  exact rule i j t t' s _ _ ⟨.int (g i j), H, I.tok _, ⟨_, rfl⟩, q⟩
theorem opB0 {f : Value → Value → Sem Value} {g : Int → Int → Bool}
    (rule : ∀ (i j : Int) (t u : Tok) (s : Shared) (Q : Value → Shared → Prop) (E : Value → Shared → Prop), Q (.bool (g i j)) s → wpAny (model X.prog X.w) X.A (f (.int i t) (.int j u)) Q E s) :
    OpR X f (rI0 fun i j => .bl (g i j)) := by
  intro pins s σ H x y v u Q I rx ry h
  obtain ⟨i, j, rfl, rfl, q⟩ := h
  obtain ⟨t, rfl⟩ := rx
  obtain ⟨t', rfl⟩ := ry
  exact rule i j t t' s _ _ ⟨.bl (g i j), H, I, rfl, q⟩
def CDiv (i j : Int) : Prop := 0 < j ∧ j < 1073741824
def CPow (i j : Int) : Prop := 0 ≤ j ∧ j ≤ 1000000 ∧ i.natAbs < 2 ^ 64
def CMul (i j : Int) : Prop := (-(2 ^ 64) < i ∧ i < 2 ^ 64) ∨ (-(2 ^ 64) < j ∧ j < 2 ^ 64)
theorem CMul.ok {i j : Int} (h : CMul i j) : IntMulOk i j := by
  rcases h with ⟨h1, h2⟩ | ⟨h1, h2⟩
  · exact .of_left (intBits_le_64 h1 h2)
  · exact .of_right (intBits_le_64 h1 h2)
theorem op_add : OpR X (binaryOp .Add) (rI0 fun i j => .int (i + j)) := opI0 fun _ _ _ _ _ _ _ q => add_int q
theorem op_sub : OpR X (binaryOp .Sub) (rI0 fun i j => .int (i - j)) := opI0 fun _ _ _ _ _ _ _ q => sub_int q
theorem op_mul : OpR X (binaryOp .Mult) (rI CMul fun i j => .int (i * j)) := opI fun _ _ _ _ _ _ _ hc q => mul_int q hc.ok
theorem op_fdiv : OpR X (binaryOp .FloorDiv) (rI CDiv fun i j => .int (i / j)) := opI fun i j _ _ _ _ _ hc q => by
  have h1 : (0 : Int) < j := hc.1
  have h2 : j < 1073741824 := hc.2
  exact floordiv_int (by omega) (by rw [Int.fdiv_eq_ediv_of_nonneg i (by omega)]; exact q) (.inl (PyProof.noPylong_small (by omega)))
theorem op_mod : OpR X (binaryOp .Mod) (rI (fun _ j => 0 < j) fun i j => .int (i % j)) := opI fun i j _ _ _ _ _ hc q => by
  have h1 : (0 : Int) < j := hc
  exact mod_int' (by omega) (by rw [Int.fmod_eq_emod_of_nonneg i (by omega)]; exact q)
theorem op_pow : OpR X (binaryOp .Pow) (rI CPow fun i j => .int (i ^ j.toNat)) := opI fun _ _ _ _ _ _ _ hc q => pow_int_small hc.1 hc.2.1 hc.2.2 q
end
section
variable {X : Cx} {a b c : Expr} {ta tb tc : TE} {pos : Pos}
theorem fin_bl {pins : List (Addr × Obj)} {σ : St} {H : Hp} {s : Shared} {Q : VK} {k k' : Bool} (I : Inv X pins σ H s) (q : Q (.bl k) H) (e : k = k') : EP X pins σ Q (.bool k') s := by
  subst e
  exact ⟨.bl k, H, I, rfl, q⟩
theorem op_lt : OpR X (compareOp .Lt) (rI0 fun i j => .bl (decide (i < j))) := opB0 fun _ _ _ _ _ _ _ q => lt_int q
theorem op_notN : OpR X (compareOp .IsNot) (fun x y H Q => y = .non ∧ Q (.bl (!decide (x = .non))) H) := by
  intro pins s σ H x y v u Q I rx ry h
  obtain ⟨rfl, q⟩ := h
  cases ry
  refine isnot_none_gen (fin_bl I q ?_)
  cases x <;> first
    | (cases rx; rfl)
    | (obtain ⟨t, rfl⟩ := rx; rfl)
theorem nomark (b : Expr) {op : CmpOp} (h : op ≠ .In := by decide) (h2 : op ≠ .NotIn := by decide) : behindInMarks op b = false := by
  have e1 : (op == CmpOp.In) = false := by cases op <;> first | rfl | exact absurd rfl h
  have e2 : (op == CmpOp.NotIn) = false := by cases op <;> first | rfl | exact absurd rfl h2
  cases b <;> simp [behindInMarks, e1, e2]
theorem pe_cmpR {op : CmpOp} {r : R2} (ho : OpR X (compareOp op) r) (ha : PE X a ta) (hb : PE X b tb) (hm : behindInMarks op b = false) : PE X (.Compare a [op] [b] pos) (tOp r ta tb) := by
  intro pins s σ H Q I h
  exact wpAny_Compare1 (binT ha hb I h fun v u s2 x y H2 I2 rx ry q => ho pins s2 σ H2 x y v u Q I2 rx ry q) hm
def tTest (t : TE) : TT := fun σ H Q => t σ H fun x H' => ∃ k, x = .bl k ∧ Q k H'
theorem pt_cmpR {op : CmpOp} {r : R2} (ho : OpR X (compareOp op) r) (ha : PE X a ta) (hb : PE X b tb) (hm : behindInMarks op b = false) : PT X (.Compare a [op] [b] pos) (tTest (tOp r ta tb)) := by
  intro pins s σ H Q I h
  refine wpAny_isTrue_Compare1 (thn (ha pins s σ H _ I h) fun v s1 ⟨x, H1, I1, r1, q1⟩ => thn (hb pins s1 σ H1 _ I1 q1) fun u s2 ⟨y, H2, I2, r2, q2⟩ =>
    thn (ho pins s2 σ H2 x y v u _ I2 r1 r2 q2) fun c s3 ⟨z, H3, I3, r3, k, e, q3⟩ => ?_) hm
  subst e
  cases r3
  exact wpAny_truthy_bool ⟨H3, I3, q3⟩
def TruV (K : PySem.W.Frag) (x : V) (H : Hp) (k : Bool) : Prop :=
  match x with
  | .non => k = false
  | .bl b => k = b
  | .int i => k = (i != 0)
  | .str y => y.length ≤ sizeLine ∧ k = ((y.length : Int) != 0)
  | .byt y => y.size ≤ sizeLine ∧ k = ((y.size : Int) != 0)
  | .ref p => (∃ xs, SqL K H p xs ∧ k = !xs.isEmpty) ∨ (∃ xs, SqT K H p xs ∧ k = !xs.isEmpty) ∨ ∃ kvs, H p = some (.dK kvs) ∧ k = !kvs.isEmpty
  | _ => False
theorem isEmpty_kv {κ : Type} {kvs : List (κ × V)} {vs : List (κ × Value)} (r : KV kvs vs) : (!vs.isEmpty) = !kvs.isEmpty := by
  cases r <;> rfl
theorem isEmpty_of {xs : List V} {its : List Value} (r : Vals xs its) : (!its.toArray.isEmpty) = !xs.isEmpty := by
  cases r <;> simp
theorem line63 : (sizeLine : Nat) < 2 ^ 63 := by rw [sizeLine_eq]; decide
theorem tru_ok : TruR X (fun x H Q => ∃ k, TruV X.K x H k ∧ Q k H) := by
  intro pins s σ H x v Q I rx h
  obtain ⟨k, e, q⟩ := h
  have hl := line63
  have hs : sizeLine = 16777216 := sizeLine_eq
  cases x with
  | non =>
    cases rx
    have e' : k = false := e
    subst e'
    exact truthy_none ⟨H, I, q⟩
  | bl b =>
    cases rx
    have e' : k = b := e
    subst e'
    exact wpAny_truthy_bool ⟨H, I, q⟩
  | int i =>
    obtain ⟨t, rfl⟩ := rx
    have e' : k = (i != 0) := e
    subst e'
    exact PySem.P.truthy_int ⟨H, I, q⟩
  | str y =>
    obtain ⟨t, rfl⟩ := rx
    obtain ⟨hy, e'⟩ : y.length ≤ sizeLine ∧ k = ((y.length : Int) != 0) := e
    subst e'
    exact PySem.P.truthy_str (by omega) ⟨H, I.tok _, q⟩
  | byt y =>
    obtain ⟨t, rfl⟩ := rx
    obtain ⟨hy, e'⟩ : y.size ≤ sizeLine ∧ k = ((y.size : Int) != 0) := e
    subst e'
    exact PySem.W.truthy_bytes (by omega) ⟨H, I.tok _, q⟩
  | ref p =>
    cases rx
    have e' : (∃ xs, SqL X.K H p xs ∧ k = !xs.isEmpty) ∨ (∃ xs, SqT X.K H p xs ∧ k = !xs.isEmpty) ∨ ∃ kvs, H p = some (.dK kvs) ∧ k = !kvs.isEmpty := e
    rcases e' with ⟨xs, hx, e'⟩ | ⟨xs, hx, e'⟩ | ⟨kvs, hx, e'⟩
    · subst e'
      obtain ⟨its, r, pl, hz⟩ := I.list hx
      have hlen := r.length
      exact wpAny_truthy_list pl.isList (by simp only [List.size_toArray]; omega) ⟨H, I.tok _, by rw [isEmpty_of r]; exact q⟩
    · subst e'
      obtain ⟨its, r, pl, hz⟩ := I.tuple hx
      have hlen := r.length
      exact truthy_tuple pl (by simp only [List.size_toArray]; omega) ⟨H, I.tok _, by rw [isEmpty_of r]; exact q⟩
    · subst e'
      obtain ⟨hz, hS, vs, r, m⟩ : kvs.length ≤ sizeLine ∧ (p == sysModules) = false ∧ ∃ vs, KV kvs vs ∧ s.heap.DictOf (mixKind X.prog X.w) p vs := I.hok p _ hx
      have hlen : kvs.length = vs.length := Paired.length r
      exact wpAny_truthy_dict hS m (by omega) ⟨H, I.tok _, by rw [isEmpty_kv r]; exact q⟩
  | _ => exact (show False from e).elim
theorem pt_truth (ha : PE X a ta) (he : ∀ whole, isTrue a X.env whole = (do let v ← whole; standAt a.pos; holding [v] (truthy v))) :
    PT X a (fun σ H Q => ta σ H fun x H' => ∃ k, TruV X.K x H' k ∧ Q k H') := by
  intro pins s σ H Q I h
  exact isTrue_plain (thn (ha pins s σ H _ I h) fun v s1 ⟨x, H1, I1, r1, q1⟩ => tru_ok pins s1 σ H1 x v Q I1 r1 q1) (he _)
theorem vals1 {x : V} {us : List Value} (r : Vals [x] us) : ∃ u, us = [u] ∧ RelV x u := by
  cases r with
  | cons r1 r2 => cases r2; exact ⟨_, rfl, r1⟩
theorem vals2 {x y : V} {us : List Value} (r : Vals [x, y] us) : ∃ u w', us = [u, w'] ∧ RelV x u ∧ RelV y w' := by
  cases r with
  | cons r1 r2 =>
    cases r2 with
    | cons r3 r4 => cases r4; exact ⟨_, _, rfl, r1, r3⟩
theorem call_max2 (hc : X.calm = true) : CallR X (.builtin "max") (fun xs H Q => ∃ i j, xs = [.int i, .int j] ∧ Q (.int (if j > i then j else i)) H) := by
  intro pins s σ H xs us Q I r h
  obtain ⟨i, j, rfl, q⟩ := h
  obtain ⟨u, w', rfl, ⟨t, rfl⟩, ⟨t', rfl⟩⟩ := vals2 r
  refine max_two_ints (I.ok.hd hc) fun h' tk k => ⟨_, H, I.kept k, ?_, q⟩
  by_cases hj : j > i
  · rw [if_pos hj, if_pos hj]; exact ⟨_, rfl⟩
  · rw [if_neg hj, if_neg hj]; exact ⟨_, rfl⟩
end
end L2
namespace L2
open PySem PySem.Spec PyProof.Rows
structure ObjM (h : Heap) (x dx C : Addr) (mA : Str → Option Value) : Prop where
  obj : h.get? x = some (PySem.W.instObj C dx)
  ns : h.Ns1 dx mA
  ne : dx ≠ x
theorem lookIn_ns {h : Heap} {dx : Addr} {mA : Str → Option Value} (n : h.Ns1 dx mA) : ∃ od, h.get? dx = some od ∧ ∀ name, PySem.W.lookIn name od = some (mA name) := by
  obtain ⟨o, es, ep, ho, hd, hk, _, hm⟩ := n
  refine ⟨o, ho, fun name => ?_⟩
  have e := hm name
  unfold nsFind findBy at e
  rw [← Array.find?_toList] at e
  unfold PySem.W.lookIn
  rw [hd]
  dsimp only
  split
  · rename_i y q
    rw [q] at e
    exact congrArg some e
  · rename_i q
    rw [q] at e
    have a : es.toList.any (·.refKey) = false := by
      rw [List.any_eq_false]
      intro y hy
      obtain ⟨z, t, hkey⟩ := hk y (Array.mem_toList_iff.mp hy)
      simp [DictEntry.refKey, hkey]
    have a' : ¬ es.toList.any (·.refKey) = true := by rw [a]; exact Bool.false_ne_true
    rw [if_neg a']
    exact congrArg some e
theorem ObjM.look {h : Heap} {x dx C : Addr} {mA : Str → Option Value} (I : ObjM h x dx C mA) : ∃ od, PySem.W.InstAt h x (PySem.W.instObj C dx) C (some od) ∧ ∀ name, PySem.W.lookIn name od = some (mA name) :=
  let ⟨od, ho, hl⟩ := lookIn_ns I.ns
  ⟨od, ⟨I.obj, rfl, rfl, ho⟩, hl⟩
section
variable {prog : Program} {w : World} {A : Around} {E : Value → Shared → Prop} {s : Shared} {K : PySem.W.Frag} {x dx C f : Addr} {mA : Str → Option Value} {name : Str} {v : Value}
end
section
variable {P : Program} {w : World} {H H' : Hp} {h h' : Heap} {a C dx : Addr} {fs fs' : List (Str × V)}
theorem ins_get (hok : HOk P w H h) (e : H a = some (.ins C dx fs)) : ∃ mA, ObjM h a dx C mA ∧ (∀ f, RelO (fs.lookup f) (mA f)) ∧ PySem.Within mA (fs.map (·.1)) ∧ fs.length ≤ 1000 ∧ H dx = some (.own a) := by
  obtain ⟨d, z, ne, ob, mA, n, r, q⟩ := (show ObjOk P w H h a (.ins C dx fs) from hok a _ e)
  exact ⟨mA, ⟨ob, n, ne⟩, r, q, z, d⟩
end
structure Cls (K : PySem.W.Frag) (C : Addr) : Prop where
  pg : PySem.W.plainGet K C Str.empty = true
  hd : PySem.W.hasDictIn K C = true
  po : PySem.W.plainOver K C = true
  sa : PySem.W.findIn K (.ref C) "__setattr__" = some (some (.builtin "object.__setattr__"))
theorem Cls.get {K : PySem.W.Frag} {C : Addr} (c : Cls K C) (f : Str) : PySem.W.plainGet K C f = true := c.pg
structure Meth (K : PySem.W.Frag) (C : Addr) (m : Str) (f : Addr) : Prop where
  at_ : PySem.W.findIn K (.ref C) m = some (some (.ref f))
  fn : PySem.W.isFn K (.ref f) = true
  kp : PySem.W.keepIn K (.ref f) = true
section
variable {X : Cx} {pins : List (Addr × Obj)} {σ : St} {H : Hp} {s : Shared} {a C dx : Addr} {fs : List (Str × V)} {f : Str} {v : V} {A : Around} {E : Value → Shared → Prop}
end
section
variable {X : Cx} {o e value : Expr} {f : Str} {pos pos' tpos : Pos} {ta tv : TE}
end
section
variable {X : Cx} {pins : List (Addr × Obj)} {σ : St} {H : Hp} {s : Shared} {A : Around} {E : Value → Shared → Prop} {Q : Value → Shared → Prop} {c : Value} {b : Bool}
inductive TyOf (K : PySem.W.Frag) (H : Hp) : V → Value → Prop where
  | non : TyOf K H .non (.type "NoneType")
  | bl (x : Bool) : TyOf K H (.bl x) (.type "bool")
  | int (i : Int) : TyOf K H (.int i) (.type "int")
  | str (x : Str) : TyOf K H (.str x) (.type "str")
  | flt (x : UInt64) : TyOf K H (.flt x) (.type "float")
  | lst {a : Addr} {xs : List V} (e : H a = some (.lst xs)) : TyOf K H (.ref a) (.type "list")
  | frz {a : Addr} {o : Obj} {xs : List V} (e : H a = some (.frz o (.lst xs))) : TyOf K H (.ref a) (.type "list")
  | tup {a : Addr} {xs : List V} (e : H a = some (.tup xs)) : TyOf K H (.ref a) (.type "tuple")
  | dK {a : Addr} {kvs : List (Key × V)} (e : H a = some (.dK kvs)) : TyOf K H (.ref a) (.type "dict")
  | dT {a : Addr} {kvs : List (List Key × V)} (e : H a = some (.dT kvs)) : TyOf K H (.ref a) (.type "dict")
  | ins {a C dx : Addr} {fs : List (Str × V)} (e : H a = some (.ins C dx fs)) (cl : Cls K C) (ha : PySem.W.findIn K (.ref C) "__class__" = some (some (.builtin "object.__class__")))
      (hn : PySem.W.specialIn K (.builtin "object.__class__") "__get__" = some (some (.builtin "getset_descriptor.__get__"))) (htk : PySem.W.takesIn K (.builtin "object.__class__") = some true)
      (hm : PySem.W.mroIn K C (.type "object") = some true) : TyOf K H (.ref a) (.ref C)
theorem isinst_ok {x : V} {u t : Value} (I : Inv X pins σ H s) (rx : RelV x u) (ty : TyOf X.K H x t) (e : PySem.W.kitOne X.K t c = some b) (h : ∀ tk, Q (.bool b) { s with toks := tk }) :
    wpAny (model X.prog X.w) A (call (.builtin "isinstance") [u, c]) Q E s := by
  cases ty with
  | non => cases (show u = Value.none from rx); exact PySem.W.kia_one PySem.W.kitx_none I.kIn True.intro e (fun z => nomatch z) h
  | bl y => cases (show u = Value.bool y from rx); exact PySem.W.kia_one PySem.W.kitx_bool I.kIn True.intro e (fun z => nomatch z) h
  | int i => obtain ⟨t, q⟩ := (show ∃ t, u = Value.int i t from rx); cases q; exact PySem.W.kia_one PySem.W.kitx_int I.kIn True.intro e (fun z => nomatch z) h
  | str y => obtain ⟨t, q⟩ := (show ∃ t, u = Value.str y t from rx); cases q; exact PySem.W.kia_one PySem.W.kitx_str I.kIn True.intro e (fun z => nomatch z) h
  | flt y => obtain ⟨t, q⟩ := (show ∃ t, u = Value.float y t from rx); cases q; exact PySem.W.kia_one PySem.W.kitx_float I.kIn True.intro e (fun z => nomatch z) h
  | @lst a xs ea =>
    cases (show u = Value.ref a from rx)
    obtain ⟨_, _, n, _, h1⟩ := (show ObjOk X.prog X.w H s.heap a (.lst xs) from I.hok a _ ea)
    exact PySem.W.kia_one PySem.W.kitx_list I.kIn ⟨_, h1, rfl⟩ e (fun z => nomatch z) h
  | @frz a ob xs ea =>
    cases (show u = Value.ref a from rx)
    obtain ⟨_, _, _, n, _, h1⟩ := (show ObjOk X.prog X.w H s.heap a (.frz ob (.lst xs)) from I.hok a _ ea)
    exact PySem.W.kia_one PySem.W.kitx_list I.kIn ⟨_, h1, rfl⟩ e (fun z => nomatch z) h
  | @tup a xs ea =>
    cases (show u = Value.ref a from rx)
    obtain ⟨_, _, _, p⟩ := (show ObjOk X.prog X.w H s.heap a (.tup xs) from I.hok a _ ea)
    obtain ⟨o, h1, h2, _⟩ := p
    exact PySem.W.kia_one PySem.W.kitx_tuple I.kIn ⟨o, h1, h2⟩ e (fun z => nomatch z) h
  | @dK a kvs ea =>
    cases (show u = Value.ref a from rx)
    obtain ⟨_, _, vs, _, p⟩ := (show ObjOk X.prog X.w H s.heap a (.dK kvs) from I.hok a _ ea)
    obtain ⟨o, es, ep, h1, h2, _⟩ := p
    exact PySem.W.kia_one PySem.W.kitx_dict I.kIn ⟨o, h1, h2.1⟩ e (fun z => nomatch z) h
  | @dT a kvs ea =>
    cases (show u = Value.ref a from rx)
    obtain ⟨_, _, xs, _, o, es, ep, h1, h2, _⟩ := (show ObjOk X.prog X.w H s.heap a (.dT kvs) from I.hok a _ ea)
    exact PySem.W.kia_one PySem.W.kitx_dict I.kIn ⟨o, h1, h2.1⟩ e (fun z => nomatch z) h
  | @ins a C dx fs ea cl ha hn htk hm =>
    cases (show u = Value.ref a from rx)
    obtain ⟨mA, O, _⟩ := ins_get I.hok ea
    obtain ⟨od, J, _⟩ := O.look
    exact PySem.W.kia_one (PySem.W.kitx_own (cl.get _) cl.hd ha hn htk hm) I.kIn J e (fun z => nomatch z) h
end
end L2
namespace L2
open PySem PySem.Spec PyProof.Rows
structure Room (k : Nat) (A : Around) : Prop where
  hd : A.handled = none
  dp : A.depth + 3 * k + 5 < recursionLimit
  un : A.units + 16 * k + 200 < cLine
theorem Room.mono {j k : Nat} {A : Around} (r : Room k A) (h : j ≤ k) : Room j A := ⟨r.hd, by have := r.dp; omega, by have := r.un; omega⟩
theorem Room.deeper {k : Nat} {A : Around} (r : Room (k + 1) A) (env : Env) : Room k (A.deeper env) :=
  ⟨r.hd, by have := r.dp; show A.depth + 1 + 3 * k + 5 < _; omega, by have := r.un; show A.units + 3 + 16 * k + 200 < _; omega⟩
theorem Room.in1 {k : Nat} {A : Around} (r : Room (k + 1) A) : Room k A.in1 :=
  ⟨r.hd, by have := r.dp; show A.depth + 3 * k + 5 < _; omega, by have := r.un; show A.units + 1 + 16 * k + 200 < _; omega⟩
theorem Room.depth {k : Nat} {A : Around} (r : Room k A) : A.depth < recursionLimit := by have := r.dp; omega
theorem Room.units {k : Nat} {A : Around} (r : Room k A) : A.units + 64 < cLine := by have := r.un; omega
theorem Room.units0 {k : Nat} {A : Around} (r : Room k A) : A.units < cLine := by have := r.un; omega
def tNil : TA := fun _ H Q => Q [] H
def tCons (ta : TE) (tr : TA) : TA := fun σ H Q => ta σ H fun x H1 => tr σ H1 fun xs H2 => Q (x :: xs) H2
section
variable {X : Cx} {e : Expr} {es : List Expr} {te : TE} {t : TA} {pos : Pos}
theorem pa_nil : PA X [] tNil := fun _ _ _ _ H Q I h => Calls.spliced_nil ⟨[], H, I, .nil, h⟩
theorem pa_cons (ha : PE X e te) (hr : PA X es t) (hs : starEach (e :: es) X.env = (false, eval e X.env) :: starEach es X.env := by rfl) : PA X (e :: es) (tCons te t) := by
  intro pos pins s σ H Q I h
  rw [hs]
  show wpAny _ _ (spliced ((false, eval e X.env) :: backTo pos (starEach es X.env))) _ _ s
  refine Calls.spliced_cons (thn (ha pins s σ H _ I h) fun u s1 ⟨x, H1, I1, r1, q1⟩ => ?_)
  exact thn (hr pos pins s1 σ H1 _ I1 q1) fun us s2 ⟨xs, H2, I2, r2, q2⟩ => ⟨x :: xs, H2, I2, .cons r1 r2, q2⟩
def tTup (t : TA) : TE := fun σ H Q => t σ H fun xs H1 => xs.length ≤ sizeLine ∧ ∀ p, H1 p = none → Q (.ref p) (upd H1 p (.tup xs))
def tLst (t : TA) : TE := fun σ H Q => t σ H fun xs H1 => xs.length ≤ sizeLine ∧ ∀ p, H1 p = none → Q (.ref p) (upd H1 p (.lst xs))
theorem pe_tup {x1} (h : PA X es t) : PE X (.Tuple es x1 pos) (tTup t) := by
  intro pins s σ H Q I hq
  refine wpAny_Tuple_spliced (thn (h pos pins s σ H _ I hq) fun us s1 ⟨xs, H1, I1, r, z, q⟩ => ⟨by rw [← r.length]; exact z, ?_⟩)
  have hf : H1 s1.heap.objs.size = none := I1.hok.fresh (Nat.le_refl _)
  refine ⟨.ref s1.heap.objs.size, upd H1 s1.heap.objs.size (.tup xs), I1.laid (t' := s1.toks) (fun b u e => Heap.get?_push_of_some _ e) (Nat.le_refl _) ?_, rfl, q _ hf⟩
  exact ⟨z, us, r, IsTpl.new _ _⟩
theorem pe_lst (h : PA X es t) : PE X (.List es pos) (tLst t) := by
  intro pins s σ H Q I hq
  refine wpAny_List_spliced (thn (h pos pins s σ H _ I hq) fun us s1 ⟨xs, H1, I1, r, z, q⟩ => ⟨by rw [← r.length]; exact z, ?_⟩)
  have hf : H1 s1.heap.objs.size = none := I1.hok.fresh (Nat.le_refl _)
  refine ⟨.ref s1.heap.objs.size, upd H1 s1.heap.objs.size (.lst xs), I1.laid (t' := s1.toks) (fun b u e => Heap.get?_push_of_some _ e) (Nat.le_refl _) ?_, rfl, q _ hf⟩
  exact ⟨z, us, 0, r, Heap.get?_push_size _ rfl⟩
end
abbrev Sp := List V → Hp → VK → XK → Prop
abbrev CXT := List Env → Hp → Shared → XK → Value → Shared → Prop
structure Env0 (P : Program) (w : World) (K : PySem.W.Frag) (mg : Str → Option Value) (base : Heap) (A : Around) (outer : List Env) (s : Shared) (H : Hp) : Prop where
  frames : A.frames = some outer
  mod : Mod K mg base
  bs : ∀ b o, base.get? b = some o → s.heap.get? b = some o ∧ H b = none
  bsz : base.objs.size ≤ s.heap.objs.size
  funs : s.heap.FunFrames base outer
  frf : ∀ b ∈ frs outer, H b = none
  hok : HOk P w H s.heap
  bare : AllBare s.gens
def CE (outer : List Env) (P : Program) (w : World) (H : Hp) (s : Shared) (Q : VK) (u : Value) (s' : Shared) : Prop :=
  ∃ v H', s'.os = s.os ∧ AllBare s'.gens ∧ Un (frs outer) [] H H' s.heap s'.heap ∧ HOk P w H' s'.heap ∧ RelV v u ∧ Q v H'
def CR (CX : CXT) (outer : List Env) (P : Program) (w : World) (H : Hp) (s : Shared) (Q : VK) (E : XK) (r : Result) (s' : Shared) : Prop :=
  match r with
  | .ok (.ret u) => CE outer P w H s Q u s'
  | .ok _ => False
  | .error e => CX outer H s E e s'
structure FnOk (P : Program) (w : World) (K : PySem.W.Frag) (mg : Str → Option Value) (base : Heap) (CX : CXT) (k : Nat) (f : Addr) (fd : FuncData) (ps : List Str) (sp : Sp) : Prop where
  len : ∀ vs H Q E, sp vs H Q E → vs.length = ps.length
  run : ∀ (A : Around) (outer : List Env) (s : Shared) (H : Hp) (args : Args) (us : List Value) (vs : List V) (Q : VK) (E : XK), Room k A → Env0 P w K mg base A outer s H → BindsTo s fd args (ps.zip us) → Vals vs us → sp vs H Q E →
    codeAny (model P w) A (.call (.ref f) args) (CR CX outer P w H s Q E) s
theorem FnOk.mono {P : Program} {w : World} {K : PySem.W.Frag} {mg : Str → Option Value} {base : Heap} {CX : CXT} {j k : Nat} {f : Addr} {fd : FuncData} {ps : List Str} {sp : Sp} (F : FnOk P w K mg base CX j f fd ps sp) (h : j ≤ k) :
    FnOk P w K mg base CX k f fd ps sp := ⟨F.len, fun A outer s H args us vs Q E hr => F.run A outer s H args us vs Q E (hr.mono h)⟩
theorem Env0.in1 {P : Program} {w : World} {K : PySem.W.Frag} {mg : Str → Option Value} {base : Heap} {A : Around} {outer : List Env} {s : Shared} {H : Hp} (e : Env0 P w K mg base A outer s H) :
    Env0 P w K mg base A.in1 outer s H := ⟨e.frames, e.mod, e.bs, e.bsz, e.funs, e.frf, e.hok, e.bare⟩
section
variable {X : Cx} {pins : List (Addr × Obj)} {σ : St} {H : Hp} {s s' : Shared}
theorem Inv.env0 (I : Inv X pins σ H s) : Env0 X.prog X.w X.K X.mg X.base X.A X.stack s H :=
  ⟨I.ok.frames, I.ok.mod, I.bs, Nat.le_trans I.ok.bsz I.sz, I.stack, I.stkFree, I.hok, I.bare⟩
theorem Inv.after {Q : VK} {u : Value} (I : Inv X pins σ H s) (h : CE X.stack X.prog X.w H s Q u s') : EP X pins σ Q u s' := by
  obtain ⟨v, H', os, bare, un, hok, r, q⟩ := h
  obtain ⟨hh, g, d, t, os'⟩ := s'
  obtain rfl : os' = s.os := os
  exact ⟨v, H', I.call (h' := hh) (g' := g) (d' := d) (t' := t) (ch := []) un hok bare (fun b z => absurd z (by simp)), r, q⟩
end
def tCall (sp : Sp) (dvs : List V) (E : XK) (t : TA) : TE := fun σ H Q => t σ H fun vs H1 => sp (vs ++ dvs) H1 Q E
def Binds (K : PySem.W.Frag) (fd : FuncData) (ps : List Str) (ds : List Value) : Prop :=
  ∀ (s : Shared) (us : List Value), K.In s.heap → (us ++ ds).length = ps.length → BindsTo s fd ⟨us, []⟩ (ps.zip (us ++ ds))
theorem Binds.all {K : PySem.W.Frag} {fd : FuncData} {ps : List Str} (h : ∀ us : List Value, us.length = ps.length → bindArgs fd ⟨us, []⟩ = pure (ps.zip us)) : Binds K fd ps [] := fun s us _ hl => by
  rw [List.append_nil] at hl ⊢
  exact .of_eq (h us hl)
def Passes (CX : CXT) (X : Cx) (E : XK) : Prop := ∀ (pins : List (Addr × Obj)) (σ : St) (H : Hp) (s : Shared) (e : Value) (s' : Shared), Inv X pins σ H s → CX X.stack H s E e s' → X.xe e s'
section
variable {X : Cx} {CX : CXT} {k : Nat} {f C : Addr} {fd : FuncData} {ps : List Str} {sp : Sp} {dvs : List V} {ds : List Value} {E : XK} {x m : Str} {p pos apos : Pos} {e o : Expr} {es : List Expr} {ta : TE} {t : TA}
theorem run_fn {pins : List (Addr × Obj)} {σ : St} {H : Hp} {s : Shared} {Q : VK} {us : List Value} {vs : List V} (F : FnOk X.prog X.w X.K X.mg X.base CX k f fd ps sp) (hr : Room k X.A) (hb : Binds X.K fd ps ds) (hd : Vals dvs ds) (hx : Passes CX X E)
    (I : Inv X pins σ H s) (r : Vals vs us) (h : sp (vs ++ dvs) H Q E) : wpAny (model X.prog X.w) X.A (call (.ref f) us) (EP X pins σ Q) X.xe s := by
  have r2 : Vals (vs ++ dvs) (us ++ ds) := r.append hd
  have hl : (us ++ ds).length = ps.length := by rw [← r2.length]; exact F.len _ _ _ _ h
  refine wpAny_call (codeAny_mono (F.run X.A X.stack s H ⟨us, []⟩ (us ++ ds) (vs ++ dvs) Q E hr I.env0 (hb s us I.kIn hl) r2 h) fun r s' hq => ?_)
  cases r with
  | error e => exact hx pins σ H s e s' I hq
  | ok fl =>
    cases fl with
    | ret u => exact I.after hq
    | next => exact False.elim hq
    | brk => exact False.elim hq
    | cont => exact False.elim hq
theorem pe_call (F : FnOk X.prog X.w X.K X.mg X.base CX k f fd ps sp) (hr : Room k X.A) (hg : Gl X x) (hm : X.mg x = some (.ref f)) (hk : PySem.W.keepIn X.K (.ref f) = true) (hb : Binds X.K fd ps ds) (hd : Vals dvs ds) (hx : Passes CX X E)
    (ha : PA X (e :: es) t) (hdb : (x == ("__debug__" : Str)) = false := by decide) (he : starEach (e :: es) X.env = (false, eval e X.env) :: starEach es X.env := by rfl) (hpl : (backTo pos (starEach es X.env)).any (·.1) = false := by rfl) :
    PE X (.Call (.Name x p) (e :: es) [] pos) (tCall sp dvs E t) := by
  intro pins s σ H Q I h
  refine wpAny_Call_Name_kw (ld_glob I hg hm ?_ hdb)
  refine PySem.W.callWith_K (h₀ := X.base) I.ok.mod.kin hk (thn (ha pos pins s σ H _ I h) fun us s1 ⟨vs, H1, I1, r, q⟩ => ⟨I1.kIn, ?_⟩) he hpl
  exact run_fn F hr hb hd hx I1 r q
end
section
variable {X : Cx} {CX : CXT} {k : Nat} {f C : Addr} {fd : FuncData} {ps ks : List Str} {sp : Sp} {E : XK} {x m : Str} {p pos apos kpos : Pos} {e o : Expr} {es : List Expr} {kws : List Keyword} {te ta : TE} {t tk : TA} {nm : Option Str}
variable {g : List Value → List Value → List Value} {gV : List V → List V → List V}
end
structure FnScope (N P : List Str) (sc : Scope) : Prop where
  kind : sc.kind = .function
  co : sc.isCoroutine = false
  gen : sc.isGenerator = false
  nd : N.Nodup
  pre : N.take P.length = P
  par : ∀ x ∈ P, sc.names.lookup x = some .local ∨ sc.names.lookup x = some .cell
  nofree : ∀ y ∈ sc.names, y.2 ≠ .free
theorem bindL_out {kindOf : Str → Option NameKind} {x : Str} : ∀ {binds : List (Str × Value)} {m : Str → Option Value}, (∀ v, (x, v) ∉ binds) → bindL kindOf binds m x = m x
  | [], _, _ => rfl
  | (n, v) :: r, m, h => by
    unfold bindL
    rw [bindL_out fun w hw => h w (List.mem_cons_of_mem _ hw)]
    split
    · have : x ≠ n := by rintro rfl; exact h v List.mem_cons_self
      simp [this]
    · rfl
theorem bindC_out {kindOf : Str → Option NameKind} {x : Str} : ∀ {binds : List (Str × Value)} {m : Str → Option Value}, (∀ v, (x, v) ∉ binds) → bindC kindOf binds m x = m x
  | [], _, _ => rfl
  | (n, v) :: r, m, h => by
    unfold bindC
    rw [bindC_out fun w hw => h w (List.mem_cons_of_mem _ hw)]
    split
    · rfl
    · have : x ≠ n := by rintro rfl; exact h v List.mem_cons_self
      simp [this]
theorem bindL_get {kindOf : Str → Option NameKind} {x : Str} {v : Value} : ∀ {P : List Str} {vs : List Value} {i : Nat} {m : Str → Option Value}, P.Nodup → P[i]? = some x → vs[i]? = some v → kindOf x = some .local →
    bindL kindOf (P.zip vs) m x = some v
  | [], _, _, _, _, h, _, _ => by simp at h
  | _ :: _, [], _, _, _, _, h, _ => by simp at h
  | p :: P, w :: vs, 0, m, nd, h1, h2, hk => by
    simp at h1 h2; subst h1; subst h2
    show bindL kindOf ((p, w) :: P.zip vs) m p = _
    unfold bindL
    rw [bindL_out fun v hv => (List.nodup_cons.mp nd).1 (List.of_mem_zip hv).1, if_pos hk]
    simp
  | p :: P, w :: vs, i + 1, m, nd, h1, h2, hk => by
    show bindL kindOf ((p, w) :: P.zip vs) m x = _
    unfold bindL
    exact bindL_get (i := i) (List.nodup_cons.mp nd).2 (by simpa using h1) (by simpa using h2) hk
theorem bindC_get {kindOf : Str → Option NameKind} {x : Str} {v : Value} : ∀ {P : List Str} {vs : List Value} {i : Nat} {m : Str → Option Value}, P.Nodup → P[i]? = some x → vs[i]? = some v → kindOf x ≠ some .local →
    bindC kindOf (P.zip vs) m x = some v
  | [], _, _, _, _, h, _, _ => by simp at h
  | _ :: _, [], _, _, _, _, h, _ => by simp at h
  | p :: P, w :: vs, 0, m, nd, h1, h2, hk => by
    simp at h1 h2; subst h1; subst h2
    show bindC kindOf ((p, w) :: P.zip vs) m p = _
    unfold bindC
    rw [bindC_out fun v hv => (List.nodup_cons.mp nd).1 (List.of_mem_zip hv).1, if_neg hk]
    simp
  | p :: P, w :: vs, i + 1, m, nd, h1, h2, hk => by
    show bindC kindOf ((p, w) :: P.zip vs) m x = _
    unfold bindC
    exact bindC_get (i := i) (List.nodup_cons.mp nd).2 (by simpa using h1) (by simpa using h2) hk
def start (N : List Str) (vs : List V) : St := vs.map some ++ List.replicate (N.length - vs.length) none
def cxOf (CX : CXT) (P : Program) (w : World) (K : PySem.W.Frag) (mg : Str → Option Value) (base : Heap) (N : List Str) (qual : Str) (scope : Scope) (f : Addr) (cd : Value) (A : Around) (outer : List Env) (s : Shared) (H : Hp) (E : XK) : Cx where
  prog := P
  w := w
  K := K
  mg := mg
  base := base
  A := A.deeper (envOfC qual scope s.heap.objs.size f cd)
  N := N
  s₀ := s
  H₀ := H
  env := envOfC qual scope s.heap.objs.size f cd
  outer := outer
  stack := envOfC qual scope s.heap.objs.size f cd :: outer
  ex := []
  calm := true
  fn := fun _ => true
  pn := []
  xe := fun e s' => wpAny (model P w) (A.deeper (envOfC qual scope s.heap.objs.size f cd)) (leaving (envOfC qual scope s.heap.objs.size f cd) e) (fun _ s'' => CX outer H s E e s'') (fun e' s'' => CX outer H s E e' s'') s'
theorem cell_has {sc : Scope} {n : Nat} {x : Str} (h : sc.names.lookup x = some .cell) : ∃ c, (cellsFrom n sc.names []).lookup x = some c := by
  have q := PySem.W.cellsFrom_some sc.names n [] (.inl h)
  exact Option.isSome_iff_exists.mp q
theorem inv_start {CX : CXT} {P : Program} {w : World} {K : PySem.W.Frag} {mg : Str → Option Value} {base : Heap} {N ps : List Str} {qual : Str} {scope : Scope} {f : Addr} {cd : Value} {A : Around} {outer : List Env} {s s1 : Shared} {H : Hp} {E : XK} {us : List Value} {vs : List V}
    (S : FnScope N ps scope) (hd : A.handled = none) (e0 : Env0 P w K mg base A outer s H) (hl : vs.length = ps.length) (r : Vals vs us)
    (x : InCallC s s.heap.objs.size (bindL (envOfC qual scope s.heap.objs.size f cd).kindOf (ps.zip us) fun _ => none) (cellsFrom (s.heap.objs.size + 1) scope.names []) (bindC (envOfC qual scope s.heap.objs.size f cd).kindOf (ps.zip us) fun _ => none) s1) :
    Inv (cxOf CX P w K mg base N qual scope f cd A outer s H E) [] (start N vs) H s1 := by
  have hpl : ps.length ≤ N.length := by have := congrArg List.length S.pre; rw [List.length_take] at this; omega
  obtain ⟨h1, tk, rfl, hk⟩ := x.done
  have noA : ∀ b : Addr, b ∉ (cxOf CX P w K mg base N qual scope f cd A outer s H E).ex := fun b z => absurd (show b ∈ ([] : List Addr) from z) (by simp)
  refine ⟨⟨e0.mod, S.kind, rfl, rfl, Nat.le_refl _, fun y z c h1 h2 => ?_, fun y hy => ?_, fun y c _ h => ?_, fun _ => hd, Around.frames_deeper e0.frames, .inr ⟨rfl, rfl⟩, fun b z => absurd z (noA b), e0.bs, e0.bsz, fun b _ _ => noA b, fun b z => absurd z (noA b), e0.funs, e0.frf⟩,
    rfl, e0.bare, Un.kept hk, ⟨_, x.toInCall.ns, fun i y v h1 h2 h3 => ?_⟩, fun y c h => ⟨_, x.cell y c h⟩, e0.hok.fresh (Nat.le_refl _), fun y c h => ?_, fun p hp => absurd (show p ∈ ([] : List (Addr × Obj)) from hp) (by simp), e0.hok.kept hk, ?_⟩
  · exact name_of_addr x.apart (PySem.mem_of_lookup h1) (PySem.mem_of_lookup h2)
  · have hy : scope.names.lookup y = some .cell ∨ scope.names.lookup y = some .free := hy
    rcases hy with hy | hy
    · exact cell_has hy
    · exact absurd rfl (S.nofree _ (PySem.mem_of_lookup hy))
  · exact Nat.le_of_lt (x.above y c (PySem.mem_of_lookup h))
  · have hi : i < vs.length := by
      unfold start at h2
      by_cases hi : i < vs.length
      · exact hi
      · rw [List.getElem?_append_right (by simpa using hi)] at h2
        rw [List.getElem?_replicate] at h2
        split at h2 <;> cases h2
    have ha : vs[i]? = some v := by
      unfold start at h2
      rw [List.getElem?_append_left (by simpa using hi), List.getElem?_map] at h2
      cases e : vs[i]? with
      | none => rw [e] at h2; cases h2
      | some a => rw [e] at h2; cases h2; rfl
    obtain ⟨u, hu, rv⟩ := r.get ha
    have hp : ps[i]? = some y := by
      rw [← S.pre, List.getElem?_take_of_lt (by omega)]; exact h1
    have ndP : ps.Nodup := by rw [← S.pre]; exact S.nd.sublist (List.take_sublist _ _)
    refine ⟨u, rv, ?_⟩
    rcases S.par y (List.mem_of_getElem? hp) with k | k
    · exact .inl ⟨k, bindL_get ndP hp hu k⟩
    · obtain ⟨c, e⟩ := cell_has (n := s.heap.objs.size + 1) k
      refine .inr ⟨.inl k, c, e, ?_⟩
      have q := x.cell y c e
      rw [bindC_get ndP hp hu (by show scope.names.lookup y ≠ _; rw [k]; decide)] at q
      exact q
  · exact e0.hok.fresh (Nat.le_of_lt (x.above y c (PySem.mem_of_lookup h)))
  · unfold start
    show _ = N.length
    rw [List.length_append, List.length_map, List.length_replicate]
    omega
theorem fn_of {CX : CXT} {P : Program} {w : World} {K : PySem.W.Frag} {mg : Str → Option Value} {base : Heap} {k : Nat} {f : Addr} {name qual : Str} {params : Arguments} {body : List Stmt} {scope : Scope} {dV kV doc pm cdv ct oc : Value} {an od : Option Addr}
    {osl : Array (Option Value)} {N ps : List Str} {sp : Sp} (lk : K.lookup f = some ⟨oc, od, .func (PySem.W.fnOf name qual params body scope dV kV doc pm an cdv ct), osl⟩) (hcd : PySem.W.codeIn K cdv qual = true) (S : FnScope N ps scope)
    (len : ∀ vs H Q E, sp vs H Q E → vs.length = ps.length)
    (hbody : ∀ (A : Around) (outer : List Env) (s : Shared) (H : Hp) (vs : List V) (Q : VK) (E : XK), Room k (A.deeper (envOfC qual scope s.heap.objs.size f cdv)) → sp vs H Q E →
      ∃ t, PSs (cxOf CX P w K mg base N qual scope f cdv A outer s H E) body t ∧ t { nx := fun _ H' => Q .non H', rt := Q } (start N vs) H) :
    FnOk P w K mg base CX (k + 1) f (PySem.W.fnOf name qual params body scope dV kV doc pm an cdv ct) ps sp := by
  refine ⟨len, fun A outer s H args us vs Q E hr e0 hb r hsp => ?_⟩
  have hl := len _ _ _ _ hsp
  have KX : K.In s.heap := e0.mod.kin.keeps fun b o e => (e0.bs b o e).1
  have lim : s.heap.NoLimit := e0.mod.nolimit.keeps fun b o e => (e0.bs b o e).1
  have hkind : ∀ y ∈ ps.zip us, scope.names.lookup y.1 = some .local ∨ (scope.names.lookup y.1 = some .cell ∧ ((cellsFrom (s.heap.objs.size + 1) scope.names []).lookup y.1).isSome = true) := fun ⟨n, v⟩ hy => by
    rcases S.par n (List.of_mem_zip hy).1 with q | q
    · exact .inl q
    · exact .inr ⟨q, PySem.W.cellsFrom_some _ _ _ (.inl q)⟩
  refine codeAny_call_function hr.depth (KX _ _ lk) rfl S.co S.gen rfl (PySem.W.codeRec_of KX hcd) (hb _ _ _ _ ?_)
  refine wpAny_newFunctionEnv_cells S.kind hkind fun env he s1 x => ?_
  subst he
  refine ⟨lim.keeps x.toInCall.keep, codeAny_func ?_⟩
  obtain ⟨t, ht, hq⟩ := hbody A outer s H vs Q E (hr.deeper _) hsp
  have I : Inv (cxOf CX P w K mg base N qual scope f cdv A outer s H E) [] (start N vs) H s1 := inv_start S hr.hd e0 hl r x
  refine wpAny_mono (ht [] s1 (start N vs) H _ I hq) (fun fl s' hs => ?_) fun e s' hs => hs
  have fin : ∀ {σ' : St} {H' : Hp} {v : V} {u : Value}, Inv (cxOf CX P w K mg base N qual scope f cdv A outer s H E) [] σ' H' s' → RelV v u → Q v H' → CE outer P w H s Q u s' :=
    fun {σ' H' v u} J rv q => ⟨v, H', J.os, J.bare, J.base, J.hok, rv, q⟩
  cases fl with
  | ret u =>
    obtain ⟨v, σ', H', J, rv, q⟩ := hs
    exact fin J rv q
  | next =>
    obtain ⟨σ', H', J, q⟩ := hs
    exact fin (v := V.non) (u := Value.none) J rfl q
  | brk =>
    obtain ⟨_, _, _, q⟩ := hs
    exact False.elim q
  | cont =>
    obtain ⟨_, _, _, q⟩ := hs
    exact False.elim q
end L2
namespace L2
open PySem PySem.Spec PyProof.Rows
section
variable {X : Cx} {x : Str} {p pos : Pos} {e : Expr} {es : List Expr} {t : TA} {id T : String} {r : List V → Hp → VK → Prop}
def tCB (r : List V → Hp → VK → Prop) (t : TA) : TE := fun σ H Q => t σ H fun vs H1 => r vs H1 Q
theorem pe_callB (hc : CallR X (.builtin id) r) (hg : Gl X x) (hm : X.mg x = none) (hv : bootBuiltins x = some (.builtin id)) (ha : PA X (e :: es) t) (hn : x ≠ "__name__" := by decide) (hdb : (x == ("__debug__" : Str)) = false := by decide)
    (he : starEach (e :: es) X.env = (false, eval e X.env) :: starEach es X.env := by rfl) (hpl : (backTo pos (starEach es X.env)).any (·.1) = false := by rfl) : PE X (.Call (.Name x p) (e :: es) [] pos) (tCB r t) := by
  intro pins s σ H Q I h
  refine wpAny_Call_Name_kw (ld_blt I hg hm hv ?_ hn hdb)
  exact PyProof.Rows.callWith_builtin1 (thn (ha pos pins s σ H _ I h) fun us s1 ⟨vs, H1, I1, r1, q1⟩ => hc pins s1 σ H1 vs us Q I1 r1 q1) he hpl
theorem pe_callTy (hc : CallR X (.type T) r) (hg : Gl X x) (hm : X.mg x = none) (hv : bootBuiltins x = some (.type T)) (ha : PA X (e :: es) t) (hn : x ≠ "__name__" := by decide) (hdb : (x == ("__debug__" : Str)) = false := by decide)
    (he : starEach (e :: es) X.env = (false, eval e X.env) :: starEach es X.env := by rfl) (hpl : (backTo pos (starEach es X.env)).any (·.1) = false := by rfl) : PE X (.Call (.Name x p) (e :: es) [] pos) (tCB r t) := by
  intro pins s σ H Q I h
  refine wpAny_Call_Name_kw (ld_blt I hg hm hv ?_ hn hdb)
  exact PyProof.Rows.callWith_type1 (thn (ha pos pins s σ H _ I h) fun us s1 ⟨vs, H1, I1, r1, q1⟩ => hc pins s1 σ H1 vs us Q I1 r1 q1) he hpl
end
end L2
namespace L2
open PySem PySem.Spec PyProof.Rows
section
variable {κ : Type} [DecidableEq κ]
def valV (kvs : List (κ × V)) (k : κ) : Option V := (kvs.find? fun kv => decide (kv.1 = k)).map (·.2)
def putK (kvs : List (κ × V)) (k : κ) (v : V) : List (κ × V) :=
  if (kvs.any fun kv => decide (kv.1 = k)) = true then kvs.map (fun kv => if kv.1 = k then (kv.1, v) else kv) else kvs ++ [(k, v)]
def dropK (kvs : List (κ × V)) (k : κ) : List (κ × V) := kvs.filter fun kv => decide (kv.1 ≠ k)
theorem valV_pos {p : κ × V} {r : List (κ × V)} {k : κ} (e : p.1 = k) : valV (p :: r) k = some p.2 := by simp [valV, List.find?_cons, e]
theorem valV_neg {p : κ × V} {r : List (κ × V)} {k : κ} (e : ¬ p.1 = k) : valV (p :: r) k = valV r k := by simp [valV, List.find?_cons, e]
theorem valV_any (k : κ) : ∀ kvs : List (κ × V), (kvs.any fun kv => decide (kv.1 = k)) = (valV kvs k).isSome
  | [] => rfl
  | p :: r => by
    rw [List.any_cons]
    by_cases e : p.1 = k
    · simp only [valV_pos e, decide_eq_true e, Bool.true_or, Option.isSome_some]
    · rw [valV_neg e, decide_eq_false e, Bool.false_or]; exact valV_any k r
theorem RelO.isSome_eq {o : Option V} {u : Option Value} (r : RelO o u) : o.isSome = u.isSome := by
  cases o with
  | none => cases u with
    | none => rfl
    | some _ => exact (show False from r).elim
  | some _ => cases u with
    | none => exact (show False from r).elim
    | some _ => rfl
theorem RelO.getD {o : Option V} {u : Option Value} {d : V} {d' : Value} (r : RelO o u) (rd : RelV d d') : RelV (o.getD d) (u.getD d') := by
  cases o with
  | none => cases u with
    | none => exact rd
    | some _ => exact (show False from r).elim
  | some _ => cases u with
    | none => exact (show False from r).elim
    | some _ => exact r
theorem KV.val {kvs : List (κ × V)} {vs : List (κ × Value)} (r : KV kvs vs) (k : κ) : RelO (valV kvs k) (valueAt vs k) := by
  unfold KV at r
  induction r with
  | nil => exact True.intro
  | @cons p q ps qs h t ih =>
    obtain ⟨h1, h2⟩ := h
    by_cases e : p.1 = k
    · have e' : q.1 = k := h1.symm.trans e
      have b : valueAt (q :: qs) k = some q.2 := by simp [valueAt, List.find?_cons, e']
      rw [valV_pos e, b]; exact h2
    · have e' : ¬ q.1 = k := fun z => e (h1.trans z)
      have b : valueAt (q :: qs) k = valueAt qs k := by simp [valueAt, List.find?_cons, e']
      rw [valV_neg e, b]; exact ih
theorem KV.any {kvs : List (κ × V)} {vs : List (κ × Value)} (r : KV kvs vs) (k : κ) : (kvs.any fun kv => decide (kv.1 = k)) = vs.any fun kv => decide (kv.1 = k) := by
  unfold KV at r
  induction r with
  | nil => rfl
  | cons h t ih => rw [List.any_cons, List.any_cons, ih, h.1]
theorem KV.repl {kvs : List (κ × V)} {vs : List (κ × Value)} (r : KV kvs vs) (k : κ) {y : V} {u : Value} (ry : RelV y u) :
    KV (kvs.map fun kv => if kv.1 = k then (kv.1, y) else kv) (vs.map fun kv => if kv.1 = k then (kv.1, u) else kv) := by
  unfold KV at r ⊢
  induction r with
  | nil => exact .nil
  | @cons p q ps qs h t ih =>
    rw [List.map_cons, List.map_cons]
    refine .cons ?_ ih
    obtain ⟨h1, h2⟩ := h
    by_cases e : p.1 = k
    · rw [if_pos e, if_pos (h1.symm.trans e)]; exact ⟨h1, ry⟩
    · rw [if_neg e, if_neg (fun z => e (h1.trans z))]; exact ⟨h1, h2⟩
theorem KV.put {kvs : List (κ × V)} {vs : List (κ × Value)} (r : KV kvs vs) (k : κ) {y : V} {u : Value} (ry : RelV y u) : KV (putK kvs k y) (stored vs k u) := by
  unfold putK stored
  rw [r.any k]
  by_cases e : (vs.any fun kv => decide (kv.1 = k)) = true
  · rw [if_pos e, if_pos e]; exact r.repl k ry
  · rw [if_neg e, if_neg e]; exact Paired.snoc r ⟨rfl, ry⟩
theorem KV.drop {kvs : List (κ × V)} {vs : List (κ × Value)} (r : KV kvs vs) (k : κ) : KV (dropK kvs k) (without vs k) := by
  unfold KV at r ⊢
  unfold dropK without
  induction r with
  | nil => exact .nil
  | @cons p q ps qs h t ih =>
    obtain ⟨h1, h2⟩ := h
    rw [List.filter_cons, List.filter_cons]
    by_cases e : p.1 = k
    · have a : ¬ decide (p.1 ≠ k) = true := by simp [e]
      have b : ¬ decide (q.1 ≠ k) = true := by simp [h1.symm.trans e]
      rw [if_neg a, if_neg b]; exact ih
    · have e' : ¬ q.1 = k := fun z => e (h1.trans z)
      have a : decide (p.1 ≠ k) = true := by simp [e]
      have b : decide (q.1 ≠ k) = true := by simp [e']
      rw [if_pos a, if_pos b]; exact .cons ⟨h1, h2⟩ ih
theorem KV.keys {kvs : List (κ × V)} {vs : List (κ × Value)} (r : KV kvs vs) : kvs.map (·.1) = vs.map (·.1) := by
  unfold KV at r
  induction r with
  | nil => rfl
  | cons h t ih => rw [List.map_cons, List.map_cons, ih, h.1]
theorem KV.length {kvs : List (κ × V)} {vs : List (κ × Value)} (r : KV kvs vs) : kvs.length = vs.length := Paired.length r
end
abbrev KT (H : Hp) : List (List Key × V) → List (List Key × Addr × Value) → Prop := Paired fun p q => p.1 = q.1 ∧ H q.2.1 = some (.tup (p.1.map kV)) ∧ RelV p.2 q.2.2
theorem KT.val {H : Hp} {kvs : List (List Key × V)} {xs : List (List Key × Addr × Value)} (r : KT H kvs xs) (k : List Key) : RelO (valV kvs k) ((atKey xs k).map (·.2)) := by
  induction r with
  | nil => exact True.intro
  | @cons p q ps qs h t ih =>
    obtain ⟨h1, _, h2⟩ := h
    by_cases e : p.1 = k
    · have e' : q.1 = k := h1.symm.trans e
      have b : atKey (q :: qs) k = some q.2 := by simp [atKey, List.find?_cons, e']
      rw [valV_pos e, b]; exact h2
    · have e' : ¬ q.1 = k := fun z => e (h1.trans z)
      have b : atKey (q :: qs) k = atKey qs k := by simp [atKey, List.find?_cons, e']
      rw [valV_neg e, b]; exact ih
theorem KT.repl {H : Hp} {kvs : List (List Key × V)} {xs : List (List Key × Addr × Value)} (r : KT H kvs xs) (k : List Key) {y : V} {u : Value} (ry : RelV y u) :
    KT H (kvs.map fun kv => if kv.1 = k then (kv.1, y) else kv) (xs.map (putAt k u)) := by
  induction r with
  | nil => exact .nil
  | @cons p q ps qs h t ih =>
    rw [List.map_cons, List.map_cons]
    refine .cons ?_ ih
    obtain ⟨h1, h2, h3⟩ := h
    unfold putAt
    by_cases e : p.1 = k
    · rw [if_pos e, if_pos (h1.symm.trans e)]; exact ⟨h1, h2, ry⟩
    · rw [if_neg e, if_neg (fun z => e (h1.trans z))]; exact ⟨h1, h2, h3⟩
theorem KT.put {H : Hp} {kvs : List (List Key × V)} {xs : List (List Key × Addr × Value)} (r : KT H kvs xs) (k : List Key) {b : Addr} {y : V} {u : Value} (hb : H b = some (.tup (k.map kV))) (ry : RelV y u) :
    KT H (putK kvs k y) (storedH xs k b u) := by
  have e : (kvs.any fun kv => decide (kv.1 = k)) = (atKey xs k).isSome := by
    rw [valV_any, (r.val k).isSome_eq, Option.isSome_map]
  unfold putK storedH
  rw [e]
  by_cases q : (atKey xs k).isSome = true
  · rw [if_pos q, if_pos q]; exact r.repl k ry
  · rw [if_neg q, if_neg q]; exact Paired.snoc r ⟨rfl, hb, ry⟩
theorem KT.keeps {H H' : Hp} {kvs : List (List Key × V)} {xs : List (List Key × Addr × Value)} (r : KT H kvs xs) (ht : ∀ b ys, H b = some (.tup ys) → H' b = some (.tup ys)) : KT H' kvs xs :=
  Paired.mapP r fun _ _ z => ⟨z.1, ht _ _ z.2.1, z.2.2⟩
section
variable {P : Program} {w : World} {H : Hp} {h : Heap} {a : Addr}
end
def DGet (H : Hp) (a : Addr) (y : V) (r : Option V) : Prop :=
  (∃ kvs k, Rd H a (.dK kvs) ∧ y = kV k ∧ r = valV kvs k) ∨ ∃ kvs k b, Rd H a (.dT kvs) ∧ y = .ref b ∧ H b = some (.tup (k.map kV)) ∧ r = valV kvs k
def DPut (H : Hp) (a : Addr) (y v : V) (H' : Hp) : Prop :=
  (∃ kvs k, H a = some (.dK kvs) ∧ y = kV k ∧ kvs.length < sizeLine ∧ H' = upd H a (.dK (putK kvs k v))) ∨
  ∃ kvs k b, H a = some (.dT kvs) ∧ y = .ref b ∧ H b = some (.tup (k.map kV)) ∧ kvs.length < sizeLine ∧ H' = upd H a (.dT (putK kvs k v))
theorem DGet.k {H : Hp} {a : Addr} {kvs : List (Key × V)} {k : Key} (e : H a = some (.dK kvs)) : DGet H a (kV k) (valV kvs k) := .inl ⟨kvs, k, .inl e, rfl, rfl⟩
theorem DGet.t {H : Hp} {a b : Addr} {kvs : List (List Key × V)} {k : List Key} (e : H a = some (.dT kvs)) (eb : H b = some (.tup (k.map kV))) : DGet H a (.ref b) (valV kvs k) := .inr ⟨kvs, k, b, .inl e, rfl, eb, rfl⟩
theorem DPut.k {H : Hp} {a : Addr} {kvs : List (Key × V)} {k : Key} {v : V} (e : H a = some (.dK kvs)) (hl : kvs.length < sizeLine) : DPut H a (kV k) v (upd H a (.dK (putK kvs k v))) := .inl ⟨kvs, k, e, rfl, hl, rfl⟩
theorem DPut.t {H : Hp} {a b : Addr} {kvs : List (List Key × V)} {k : List Key} {v : V} (e : H a = some (.dT kvs)) (eb : H b = some (.tup (k.map kV))) (hl : kvs.length < sizeLine) :
    DPut H a (.ref b) v (upd H a (.dT (putK kvs k v))) := .inr ⟨kvs, k, b, e, rfl, eb, hl, rfl⟩
section
variable {X : Cx} {pins : List (Addr × Obj)} {σ : St} {H : Hp} {s : Shared} {a : Addr} {y v : V} {u r : Value} {o : Option V} {A : Around} {E : Value → Shared → Prop}
end
section
variable {X : Cx} {pins : List (Addr × Obj)} {σ : St} {H : Hp} {s : Shared} {a : Addr} {kvs : List (Key × V)} {k : Key} {u : Value} {A : Around} {E : Value → Shared → Prop}
end
section
variable {X : Cx} {o i e value : Expr} {pos pos' tpos : Pos} {td ty tv : TE}
end
section
variable {X : Cx} {pos : Pos}
end
section
variable {X : Cx} {pins : List (Addr × Obj)} {σ : St} {H : Hp} {s : Shared} {a : Addr} {y d : V} {u r : Value} {o : Option V} {A : Around} {E : Value → Shared → Prop}
end
section
variable {X : Cx} {o e f : Expr} {apos cpos : Pos} {td ty tx : TE}
end
section
variable {X : Cx} {pins : List (Addr × Obj)} {σ : St} {H : Hp} {s : Shared} {a : Addr} {kvs : List (Key × V)} {A : Around} {E : Value → Shared → Prop}
end
section
variable {X : Cx} {pins : List (Addr × Obj)} {σ : St} {H : Hp} {s : Shared} {a : Addr} {y : V} {u : Value} {A : Around} {E : Value → Shared → Prop}
end
end L2
namespace HT
open PySem PyProof.Rows
section
open PySem.SeqAt
open PySem.AutoSeq1 (wpAny_loadPart')
open PySem.MeetsSeq PySem.MeetsSeq2 PySem.MeetsSeq3
end
section
variable {prog : Program} {w : World} {A : Around} {E : Value → Shared → Prop} {s : Shared}
def sIx (n d : Nat) : Option Int → Nat
  | none => d
  | some v => if v < 0 then (v + (n : Int)).toNat else min v.toNat n
end
end HT
namespace L2
open PySem PySem.Spec PyProof.Rows
abbrev TO := St → Hp → (Option Int → Hp → Prop) → Prop
def PO (X : Cx) (e : Option Expr) (t : TO) : Prop :=
  ∀ (pins : List (Addr × Obj)) (s : Shared) (σ : St) (H : Hp) (Q : Option Int → Hp → Prop), Inv X pins σ H s → t σ H Q →
    wpAny (model X.prog X.w) X.A (evalPart e X.env) (fun u s' => ∃ o H', Inv X pins σ H' s' ∧ IsPart u o ∧ Q o H') X.xe s
def tNoPart : TO := fun _ H Q => Q none H
def tPart (t : TE) : TO := fun σ H Q => t σ H fun x H1 => ∃ i, x = .int i ∧ Q (some i) H1
theorem intsAre_of {ns : List Int} : ∀ {us : List Value}, Vals (ns.map V.int) us → IntsAre us ns := by
  induction ns with
  | nil => intro us r; rw [List.map_nil] at r; cases r; exact .nil
  | cons n ns ih =>
    intro us r
    rw [List.map_cons] at r
    cases r with
    | cons r1 r2 =>
      obtain ⟨t, e⟩ := r1
      subst e
      exact .cons n t (ih r2)
section
variable {X : Cx} {e : Expr} {te : TE} {lo hi : Option Expr} {tl th : TO} {pos p2 : Pos}
theorem po_none : PO X none tNoPart := by
  intro pins s σ H Q I h
  rw [evalPart_none]
  exact wpAny_pure ⟨none, H, I, .none, h⟩
theorem po_some (h : PE X e te) : PO X (some e) (tPart te) := by
  intro pins s σ H Q I hw
  rw [evalPart_some]
  refine thn (h pins s σ H _ I hw) fun u s1 ⟨x, H1, I1, r1, q1⟩ => ?_
  obtain ⟨i, rfl, q⟩ := q1
  obtain ⟨t, rfl⟩ := r1
  exact ⟨some i, H1, I1, .int i t, q⟩
def SlR (X : Cx) (r : V → Option Int → Option Int → Hp → VK → Prop) : Prop :=
  ∀ (pins : List (Addr × Obj)) (s : Shared) (σ : St) (H : Hp) (x : V) (v vl vu : Value) (lo hi : Option Int) (sl : Addr) (Q : VK), Inv X pins σ H s → RelV x v → s.heap.IsSliceOf sl vl vu .none → IsPart vl lo → IsPart vu hi → r x lo hi H Q →
    ∃ T id, typeLookup (.type T) "__getitem__" = pure (some (.builtin id)) ∧ s.TypeIs v T ∧ wpAny (model X.prog X.w) X.A (getItem v (.ref sl)) (EP X pins σ Q) X.xe s
def tSl (r : V → Option Int → Option Int → Hp → VK → Prop) (te : TE) (tl th : TO) : TE := fun σ H Q => te σ H fun x H1 => tl σ H1 fun l H2 => th σ H2 fun u H3 => r x l u H3 Q
theorem pe_slice {r : V → Option Int → Option Int → Hp → VK → Prop} (hr : SlR X r) (he : PE X e te) (hl : PO X lo tl) (hu : PO X hi th) : PE X (.Subscript e (.Slice lo hi none p2) pos) (tSl r te tl th) := by
  intro pins s σ H Q I h
  refine Subscript_ (thn (he pins s σ H _ I h) fun v s1 ⟨x, H1, I1, r1, q1⟩ => ?_)
  refine wpAny_Slice (thn (hl pins s1 σ H1 _ I1 q1) fun vl s2 ⟨l, H2, I2, pl, q2⟩ => thn (hu pins s2 σ H2 _ I2 q2) fun vu s3 ⟨u, H3, I3, pu, q3⟩ => ?_)
  rw [evalPart_none]
  refine wpAny_pure ?_
  have I4 : Inv X pins σ H3 { s3 with heap := s3.heap.push { cls := .type "slice", data := .fields #[vl, vu, .none] } } := I3.kept (t' := s3.toks) fun b ob q => Heap.get?_push_of_some _ q
  obtain ⟨T, id, hT, ht, hg⟩ := hr pins { s3 with heap := s3.heap.push { cls := .type "slice", data := .fields #[vl, vu, .none] } } σ H3 x v vl vu l u s3.heap.objs.size Q I4 r1 (Heap.IsSliceOf.new ..) pl pu q3
  show wpAny (model X.prog X.w) X.A (subscriptTail e (.Slice lo hi none p2) v (.ref s3.heap.objs.size)) (EP X pins σ Q) X.xe { s3 with heap := s3.heap.push { cls := .type "slice", data := .fields #[vl, vu, .none] } }
  exact tail_any (ops := [.ref s3.heap.objs.size, v]) ht hT hg (by with_unfolding_all rfl)
def cutV (xs : List V) (lo hi : Option Int) : List V := (xs.drop (HT.sIx xs.length 0 lo)).take (HT.sIx xs.length xs.length hi - HT.sIx xs.length 0 lo)
theorem cutV_length (xs : List V) (lo hi : Option Int) : (cutV xs lo hi).length ≤ xs.length := by
  unfold cutV
  rw [List.length_take, List.length_drop]
  omega
end
end L2
namespace L2
open PySem PySem.Spec PyProof.Rows
def ixN (n : Nat) (i : Int) : Option Nat := if 0 ≤ i then (if i < n then some i.toNat else none) else if -(n : Int) ≤ i then some (i + n).toNat else none
def atI {α : Type} (xs : List α) (i : Int) : Option α := (ixN xs.length i).bind fun j => xs[j]?
theorem ixN_seq {n : Nat} {i : Int} {j : Nat} (h : ixN n i = some j) : seqIndex? i n = some j ∧ j < n ∧ -(n : Int) ≤ i ∧ i < n := by
  unfold ixN at h
  by_cases h0 : 0 ≤ i
  · rw [if_pos h0] at h
    by_cases h1 : i < n
    · rw [if_pos h1] at h
      have e : i.toNat = j := Option.some.inj h
      exact ⟨by rw [seqIndex_of h0 h1, e], by omega, by omega, h1⟩
    · rw [if_neg h1] at h; cases h
  · rw [if_neg h0] at h
    by_cases h1 : -(n : Int) ≤ i
    · rw [if_pos h1] at h
      have e : (i + n).toNat = j := Option.some.inj h
      exact ⟨by rw [seqIndex_neg (by omega) h1, e], by omega, h1, by omega⟩
    · rw [if_neg h1] at h; cases h
theorem atI_get {α : Type} {xs : List α} {i : Int} {v : α} (h : atI xs i = some v) : ∃ j, seqIndex? i xs.length = some j ∧ xs[j]? = some v ∧ j < xs.length ∧ -(xs.length : Int) ≤ i ∧ i < xs.length := by
  unfold atI at h
  cases e : ixN xs.length i with
  | none => rw [e] at h; cases h
  | some j =>
    rw [e] at h
    obtain ⟨h1, h2, h3, h4⟩ := ixN_seq e
    exact ⟨j, h1, h, h2, h3, h4⟩
theorem atI_nat {α : Type} {xs : List α} {j : Nat} {v : α} (h : xs[j]? = some v) : atI xs (j : Int) = some v := by
  have hj : j < xs.length := (List.getElem?_eq_some_iff.mp h).1
  have e : ixN xs.length (j : Int) = some j := by
    unfold ixN
    rw [if_pos (by omega), if_pos (by omega)]; simp
  unfold atI; rw [e]; exact h
def PlainIx (b : Expr) : Prop := ∀ o i, subscripted b false o i = operate [o, i] (getItem o i)
def IxR (X : Cx) (r : R2) : Prop :=
  ∀ (value slice : Expr) (pins : List (Addr × Obj)) (s : Shared) (σ : St) (H : Hp) (x y : V) (v u : Value) (Q : VK), Inv X pins σ H s → RelV x v → RelV y u → r x y H Q →
    subscripted slice false v u = operate [v, u] (getItem v u) → wpAny (model X.prog X.w) X.A (subscriptTail value slice v u) (EP X pins σ Q) X.xe s
def MtR (X : Cx) (id : String) (r : V → List V → Hp → VK → Prop) : Prop :=
  ∀ (pins : List (Addr × Obj)) (s : Shared) (σ : St) (H : Hp) (x : V) (xs : List V) (v : Value) (us : List Value) (Q : VK), Inv X pins σ H s → RelV x v → Vals xs us → r x xs H Q →
    wpAny (model X.prog X.w) X.A (call (.builtin id) (v :: us)) (EP X pins σ Q) X.xe s
section
variable {X : Cx} {a b : Expr} {ta tb : TE} {pos : Pos}
theorem pe_ix {r : R2} (hr : IxR X r) (ha : PE X a ta) (hb : PE X b tb) (hs : PlainIx b) : PE X (.Subscript a b pos) (tOp r ta tb) := by
  intro pins s σ H Q I h
  exact Subscript_ (binT ha hb I h fun v u s2 x y H2 I2 rx ry q => hr a b pins s2 σ H2 x y v u Q I2 rx ry q (hs _ _))
def rIxL (K : PySem.W.Frag) : R2 := fun x y H Q => ∃ p xs i v, x = .ref p ∧ y = .int i ∧ SqL K H p xs ∧ atI xs i = some v ∧ Q v H
def rIxT (K : PySem.W.Frag) : R2 := fun x y H Q => ∃ p xs i v, x = .ref p ∧ y = .int i ∧ SqT K H p xs ∧ atI xs i = some v ∧ Q v H
theorem ix_list : IxR X (rIxL X.K) := by
  intro value slice pins s σ H x y v u Q I rx ry h hs
  obtain ⟨p, xs, i, z, rfl, rfl, hq, he, q⟩ := h
  cases rx
  obtain ⟨t, rfl⟩ := ry
  obtain ⟨its, r, pl, hz⟩ := I.list hq
  obtain ⟨j, h1, h2, h3, h4, h5⟩ := atI_get he
  obtain ⟨w, ew, rw'⟩ := r.get h2
  have hl := r.length
  have hn := line63
  have fin : EP X pins σ Q w s := ⟨z, H, I, rw', q⟩
  by_cases h0 : 0 ≤ i
  · have hj : i.toNat = j := by
      rw [seqIndex_of h0 h5] at h1
      exact Option.some.inj h1
    exact item_listR pl.isList h0 (by omega) (by rw [hj]; simpa using ew) fin hs
  · have hj : (i + (its.toArray.size : Int)).toNat = j := by
      rw [seqIndex_neg (by omega) h4] at h1
      rw [List.size_toArray, ← hl]
      exact Option.some.inj h1
    exact subscriptTail_builtinR (x := w) pl.isList.typeIs slot_list_getitem.lookup
      (wpAny_getItem_list_neg (Q := fun r s' => r = w ∧ EP X pins σ Q r s') pl.isList (by omega) (by rw [List.size_toArray] <;> omega) (by omega) (by rw [hj]; simpa using ew) ⟨rfl, fin⟩) hs
theorem ix_tup : IxR X (rIxT X.K) := by
  intro value slice pins s σ H x y v u Q I rx ry h hs
  obtain ⟨p, xs, i, z, rfl, rfl, hq, he, q⟩ := h
  cases rx
  obtain ⟨t, rfl⟩ := ry
  obtain ⟨its, r, pl, hz⟩ := I.tuple hq
  obtain ⟨j, h1, h2, h3, h4, h5⟩ := atI_get he
  obtain ⟨w, ew, rw'⟩ := r.get h2
  have hl := r.length
  have hn := line63
  have fin : EP X pins σ Q w s := ⟨z, H, I, rw', q⟩
  exact subscriptTail_builtinR (x := w) pl.typeIs slot_tuple_getitem.lookup
    (getItem_tuple (j := j) (Q := fun r s' => r = w ∧ EP X pins σ Q r s') pl (by omega) (by omega) (by rw [List.size_toArray, ← hl]; exact h1) (by simpa using ew) ⟨rfl, fin⟩) hs
theorem Inv.lst {pins : List (Addr × Obj)} {σ : St} {H : Hp} {s : Shared} {p : Addr} {xs : List V} (I : Inv X pins σ H s) (h : H p = some (.lst xs)) :
    ∃ (its : List Value) (n : Nat), Vals xs its ∧ s.heap.get? p = some { cls := .type "list", data := .seq its.toArray n } ∧ xs.length ≤ sizeLine := by
  obtain ⟨z, its, n, r, e⟩ := I.hok p _ h
  exact ⟨its, n, r, e, z⟩
theorem slice_bounds (lo hi : Option Int) (n : Nat) : (sliceBounds lo hi none n).1 = ((HT.sIx n 0 lo : Nat) : Int) ∧ (sliceBounds lo hi none n).2.1 = ((HT.sIx n n hi : Nat) : Int) ∧ (sliceBounds lo hi none n).2.2 = 1 := by
  refine ⟨?_, ?_, rfl⟩
  · cases lo with
    | none => simp [sliceBounds, HT.sIx]
    | some i =>
      simp only [sliceBounds, HT.sIx, Option.getD_none, show (1 : Int) > 0 by decide, if_true]
      by_cases h : i < 0
      · simp only [h, if_true] <;> omega
      · simp only [h, if_false] <;> omega
  · cases hi with
    | none => simp [sliceBounds, HT.sIx]
    | some i =>
      simp only [sliceBounds, HT.sIx, Option.getD_none, show (1 : Int) > 0 by decide, if_true]
      by_cases h : i < 0
      · simp only [h, if_true] <;> omega
      · simp only [h, if_false] <;> omega
theorem slicePick_cut (its : List Value) (lo hi : Option Int) : slicePick its.toArray lo hi none = ((its.drop (HT.sIx its.length 0 lo)).take (HT.sIx its.length its.length hi - HT.sIx its.length 0 lo)).toArray := by
  obtain ⟨h1, h2, h3⟩ := slice_bounds lo hi its.toArray.size
  unfold slicePick
  rw [h1, h2, h3]
  simp only [sliceRange_one, pick_run, List.size_toArray] <;> rfl
def rSlL (K : PySem.W.Frag) : V → Option Int → Option Int → Hp → VK → Prop := fun x lo hi H Q => ∃ a xs, x = .ref a ∧ SqL K H a xs ∧ ∀ p, H p = none → Q (.ref p) (upd H p (.lst (cutV xs lo hi)))
theorem sl_list : SlR X (rSlL X.K) := by
  intro pins s σ H x v vl vu lo hi sl Q I rx hs pl pu h
  obtain ⟨a, xs, rfl, hx, q⟩ := h
  cases rx
  obtain ⟨its, r, ht, hz⟩ := I.list hx
  have hlen := r.length
  refine ⟨"list", _, slot_list_getitem.lookup, ht.isList.typeIs, ?_⟩
  refine wpAny_getItem_list_slice ht.isList hs pl pu .none (by simp) ?_ (by rw [List.size_toArray] <;> omega)
  rw [slicePick_cut, ← hlen]
  refine ⟨.ref s.heap.objs.size, _, I.laid (t' := s.toks) (o := .lst (cutV xs lo hi)) (fun b ob q => Heap.get?_push_of_some _ q) (Nat.le_refl _) ?_, rfl, q _ (I.hok.fresh (Nat.le_refl _))⟩
  exact ⟨Nat.le_trans (cutV_length xs lo hi) hz, _, 0, (r.drop (HT.sIx xs.length 0 lo)).take (HT.sIx xs.length xs.length hi - HT.sIx xs.length 0 lo), Heap.get?_push_size _ rfl⟩
theorem call_len_seq : CallR X (.builtin "len") (fun xs H Q => ∃ p ys, xs = [.ref p] ∧ (SqL X.K H p ys ∨ SqT X.K H p ys) ∧ Q (.int ys.length) H) := by
  intro pins s σ H xs us Q I r h
  obtain ⟨p, ys, rfl, hq, q⟩ := h
  obtain ⟨u, rfl, rx⟩ := vals1 r
  cases rx
  have hn := line63
  rcases hq with hq | hq
  · obtain ⟨its, r', pl, hz⟩ := I.list hq
    have hlen := r'.length
    exact Calls.call_len_list pl.isList (by simp only [List.size_toArray] <;> omega) ⟨.int ys.length, H, I.tok _, ⟨s.toks + 1, by rw [List.size_toArray, hlen]⟩, q⟩
  · obtain ⟨its, r', pl, hz⟩ := I.tuple hq
    have hlen := r'.length
    exact len_tuple pl (by simp only [List.size_toArray] <;> omega) ⟨.int ys.length, H, I.tok _, ⟨s.toks + 1, by rw [List.size_toArray, hlen]⟩, q⟩
theorem call_tuple_of : CallR X (.type "tuple") (fun xs H Q => ∃ p ys, xs = [.ref p] ∧ ((SqL X.K H p ys ∧ ∀ l, H l = none → Q (.ref l) (upd H l (.tup ys))) ∨ (SqT X.K H p ys ∧ Q (.ref p) H))) := by
  intro pins s σ H xs us Q I r h
  obtain ⟨p, ys, rfl, h⟩ := h
  obtain ⟨u, rfl, rx⟩ := vals1 r
  cases rx
  rcases h with ⟨hq, q⟩ | ⟨hq, q⟩
  · obtain ⟨its, r', pl, hz⟩ := I.list hq
    have hlen := r'.length
    refine call_tuple_list pl.isList (fun h' kp => ?_) (by simp only [List.size_toArray] <;> omega)
    have I1 : Inv X pins σ H { s with heap := h' } := I.kept (t' := s.toks) kp
    have I2 : Inv X pins σ (upd H h'.objs.size (.tup ys)) { s with heap := h'.push { cls := .type "tuple", data := .seq its.toArray } } :=
      I1.laid (t' := s.toks) (fun b o e => Heap.get?_push_of_some _ e) (Nat.le_refl _) (show ObjOk X.prog X.w _ _ _ (.tup ys) from ⟨hz, its, r', IsTpl.new _ _⟩)
    exact ⟨.ref h'.objs.size, _, I2, rfl, q _ (I1.hok.fresh (Nat.le_refl _))⟩
  · obtain ⟨its, r', pl, hz⟩ := I.tuple hq
    exact call_tuple_same pl ⟨.ref p, H, I, rfl, q⟩
def tyV (K : PySem.W.Frag) (T : String) (x : V) (H : Hp) : Prop := match x with
  | .str _ => T = "str"
  | .int _ => T = "int"
  | .ref p => (T = "list" ∧ ∃ xs, SqL K H p xs) ∨ (T = "tuple" ∧ ∃ o, K.lookup p = some o ∧ o.cls = .type "tuple" ∧ o.dict = none) ∨
      (T = "dict" ∧ ((∃ kvs, H p = some (.dK kvs)) ∨ ∃ kvs, H p = some (.dT kvs))) ∨ (T = "set" ∧ ∃ S n, H p = some (.set S n))
  | _ => False
theorem tyV_is {pins : List (Addr × Obj)} {σ : St} {H : Hp} {s : Shared} {T : String} {x : V} {v : Value} (I : Inv X pins σ H s) (r : RelV x v) (ty : tyV X.K T x H) :
    s.TypeIs v T ∧ ∀ a, v = .ref a → ∃ ob, s.heap.get? a = some ob ∧ ob.dict = none := by
  cases x with
  | str z =>
    obtain ⟨t, rfl⟩ := r
    cases (show T = "str" from ty)
    exact ⟨typeIs_str s z t, fun _ e => nomatch e⟩
  | int i =>
    obtain ⟨t, rfl⟩ := r
    cases (show T = "int" from ty)
    exact ⟨typeIs_int s i t, fun _ e => nomatch e⟩
  | ref p =>
    cases r
    rcases ty with ⟨rfl, xs, hq⟩ | ⟨rfl, o, hk, hc, hd⟩ | ⟨rfl, hk⟩ | ⟨rfl, S, n, hk⟩
    · obtain ⟨its, _, pl, _⟩ := I.list hq
      refine ⟨pl.isList.typeIs, fun a e => ?_⟩
      cases e
      obtain ⟨o, n, e, c, hd, _⟩ := pl
      exact ⟨o, e, hd⟩
    · refine ⟨⟨o, I.kIn p o hk, hc⟩, fun a e => ?_⟩
      cases e
      exact ⟨o, I.kIn _ o hk, hd⟩
    · have z : ∃ o, s.heap.get? p = some o ∧ o.ExactDict := by
        rcases hk with ⟨kvs, hk⟩ | ⟨kvs, hk⟩
        · obtain ⟨_, _, _, _, o, _, _, e, ex, _⟩ := I.hok p _ hk
          exact ⟨o, e, ex⟩
        · obtain ⟨_, _, _, _, o, _, _, e, ex, _⟩ := I.hok p _ hk
          exact ⟨o, e, ex⟩
      obtain ⟨o, e, ex⟩ := z
      refine ⟨⟨o, e, ex.1⟩, fun a e2 => ?_⟩
      cases e2
      exact ⟨o, e, ex.2.1⟩
    · obtain ⟨o, _, _, _, e, ex, _⟩ := I.hok p _ hk
      refine ⟨⟨o, e, ex.1⟩, fun a e2 => ?_⟩
      cases e2
      exact ⟨o, e, ex.2.1⟩
  | _ => exact False.elim ty
def tBM (K : PySem.W.Frag) (T : String) (r : V → List V → Hp → VK → Prop) (to : TE) (t : TA) : TE := fun σ H Q => to σ H fun x H1 => tyV K T x H1 ∧ t σ H1 fun xs H2 => r x xs H2 Q
variable {o e : Expr} {es : List Expr} {to : TE} {t : TA} {name : Str} {apos cpos : Pos} {T id : String} {r : V → List V → Hp → VK → Prop}
theorem pe_bm (pa : PlainAttrs T) (slot : Slot T name id) (hty : typeOf (.builtin id) = pure (.type "method_descriptor")) (hm : MtR X id r) (ho : PE X o to) (ha : PA X (e :: es) t)
    (hbase : attributeBase o name X.env (eval o X.env) = eval o X.env := by rfl)
    (hfew : ((backTo cpos (starEach (e :: es) X.env)).all (fun x => !x.1) && (backToKw cpos (keywordEach [] X.env)).all (fun x => x.1.isSome)
      && decide ((e :: es).length + ([] : List Keyword).length + (if ([] : List Keyword).isEmpty then 0 else 1) < 30)) = true := by rfl)
    (hline : (apos.endLine == cpos.line) = true := by rfl) (hs : starEach (e :: es) X.env = (false, eval e X.env) :: starEach es X.env := by rfl) (hplain : (backTo cpos (starEach es X.env)).any (·.1) = false := by rfl) :
    PE X (.Call (.Attribute o name apos) (e :: es) [] cpos) (tBM X.K T r to t) := by
  intro pins s σ H Q I h
  refine wpAny_Call_method_late hbase hfew hline rfl (thn (ho pins s σ H _ I h) fun v s1 ⟨x, H1, I1, r1, ty, q1⟩ => ?_)
  obtain ⟨h1, h2⟩ := tyV_is I1 r1 ty
  refine ⟨T, id, pa, slot, hty, h1, h2, ?_⟩
  have hA := ha cpos pins s1 σ H1 _ I1 q1
  rw [hs] at hA ⊢
  refine Calls.callWith_builtin (by show (false || (backTo cpos (starEach es X.env)).any (·.1)) = false; rw [hplain] <;> rfl) (Calls.evalArgs_plain ?_)
  exact thn hA fun us s2 ⟨vs, H2, I2, r2, q2⟩ => hm pins s2 σ H2 x vs v us Q I2 r1 r2 q2
end
end L2
namespace L2
open PySem PySem.Spec PyProof.Rows
def MtM (X : Cx) (id : String) (r : V → List V → Hp → VK → Prop) : Prop :=
  ∀ (pins : List (Addr × Obj)) (s : Shared) (σ : St) (H : Hp) (x : V) (xs : List V) (v : Value) (us : List Value) (Q : VK), Inv X pins σ H s → RelV x v → Vals xs us → r x xs H Q →
    wpAny (model X.prog X.w) X.A (call (.builtin id) (v :: us)) (EP X pins σ Q) X.xe s
theorem Vals.one : ∀ {x : V} {us : List Value}, Vals [x] us → ∃ u, us = [u] ∧ RelV x u
  | _, _, .cons r .nil => ⟨_, rfl, r⟩
theorem Vals.zero : ∀ {us : List Value}, Vals [] us → us = []
  | _, .nil => rfl
theorem Vals.reverse {xs : List V} {us : List Value} (h : Vals xs us) : Vals xs.reverse us.reverse := by
  induction h with
  | nil => exact .nil
  | cons r t ih => rw [List.reverse_cons, List.reverse_cons]; exact Vals.append ih (.cons r .nil)
section
variable {X : Cx} {pins : List (Addr × Obj)} {σ : St} {H : Hp} {s : Shared} {l b : Addr} {xs ys zs : List V}
theorem Inv.lset {its its' : List Value} {n : Nat} {f : Array Value → Array Value} {t' : Nat} (I : Inv X pins σ H s) (hH : H l = some (.lst xs))
    (e : s.heap.get? l = some { cls := .type "list", data := .seq its.toArray n }) (hf : f its.toArray = its'.toArray) (hv : Vals ys its') (hz : ys.length ≤ sizeLine) :
    Inv X pins σ (upd H l (.lst ys)) { s with heap := s.heap.update l (Obj.mapSeq f), toks := t' } := by
  have q := PySem.IsL.update e f
  rw [hf] at q
  refine I.write (x := l) (e := l) (by rw [hH]; exact trivial) (.inl rfl) (fun b' u hb hu => (Heap.get?_update_other s.heap (Obj.mapSeq f) (Ne.symm hb)).trans hu) ⟨_, q⟩ ?_
  exact ⟨hz, its', _, hv, q⟩
theorem Inv.lnew {its : List Value} {t' : Nat} (I : Inv X pins σ H s) (hv : Vals ys its) (hz : ys.length ≤ sizeLine) :
    Inv X pins σ (upd H s.heap.objs.size (.lst ys)) { s with heap := s.heap.push { cls := .type "list", data := .seq its.toArray }, toks := t' } :=
  I.laid (fun _ _ q => Heap.get?_push_of_some _ q) (Nat.le_refl _) ⟨hz, its, 0, hv, Heap.get?_push_size _ rfl⟩
theorem Inv.fresh (I : Inv X pins σ H s) : H s.heap.objs.size = none := I.hok.fresh (Nat.le_refl _)
theorem Inv.lstM (I : Inv X pins σ H s) (hH : H l = some (.lst xs)) : xs.length ≤ sizeLine ∧ ∃ (its : List Value) (n : Nat), Vals xs its ∧ xs.length = its.length ∧ s.heap.get? l = some { cls := .type "list", data := .seq its.toArray n } := by
  obtain ⟨z, its, n, r, e⟩ := I.hok l _ hH
  exact ⟨z, its, n, r, r.length, e⟩
theorem notLongL {n : Nat} (h : n ≤ sizeLine) : Builtin.List.listTooLong n = false := by
  unfold Builtin.List.listTooLong
  exact decide_eq_false (by omega)
end
section
variable {X : Cx}
def rAppend : V → List V → Hp → VK → Prop := fun x vs H Q => ∃ l xs y, x = .ref l ∧ vs = [y] ∧ H l = some (.lst xs) ∧ xs.length < sizeLine ∧ Q .non (upd H l (.lst (xs ++ [y])))
theorem mt_append : MtM X "list.append" rAppend := by
  intro pins s σ H x vs v us Q I rx rv h
  obtain ⟨l, xs, y, rfl, rfl, hH, hz, q⟩ := h
  cases rx
  obtain ⟨u, rfl, ru⟩ := rv.one
  obtain ⟨z, its, n, r, hl, e⟩ := I.lstM hH
  refine call_meets F.slot_list_append ⟨_, e, rfl⟩ F.entry_list_append (F.args_list_append_2 _ _) (PySem.list_append l its.toArray n u (by rw [List.size_toArray]; omega)) ⟨e, ?_⟩
  refine ⟨.non, _, I.lset (its' := its ++ [u]) hH e (by simp) (r.append (.cons ru .nil)) ?_, rfl, q⟩
  rw [List.length_append, List.length_singleton]
  omega
def rExtend : V → List V → Hp → VK → Prop := fun x vs H Q => ∃ l b xs zs, x = .ref l ∧ vs = [.ref b] ∧ H l = some (.lst xs) ∧ H b = some (.lst zs) ∧ xs.length + zs.length ≤ sizeLine ∧ Q .non (upd H l (.lst (xs ++ zs)))
theorem mt_extend : MtM X "list.extend" rExtend := by
  intro pins s σ H x vs v us Q I rx rv h
  obtain ⟨l, b, xs, zs, rfl, rfl, hH, hB, hz, q⟩ := h
  cases rx
  obtain ⟨u, rfl, ru⟩ := rv.one
  cases ru
  obtain ⟨z, its, n, r, hl, e⟩ := I.lstM hH
  obtain ⟨z2, its2, n2, r2, hl2, e2⟩ := I.lstM hB
  have hsz : its.toArray.size + its2.toArray.size ≤ sizeLine := by rw [List.size_toArray, List.size_toArray]; omega
  have hlong : ¬ (!its.toArray.isEmpty && Builtin.List.listTooLong (its.toArray.size + its2.toArray.size)) = true := by
    rw [notLongL hsz, Bool.and_false]
    exact Bool.false_ne_true
  refine call_meets F.slot_list_extend ⟨_, e, rfl⟩ F.entry_list_extend (F.args_list_extend_2 _ _)
    (AutoSeq1.list_extend_list_list_0 l its.toArray n b its2.toArray n2 hlong (by rw [List.size_toArray]; omega) (by omega)) ⟨e, e2, ?_⟩
  refine ⟨.non, _, I.lset (its' := its ++ its2) hH e (by simp) (r.append r2) ?_, rfl, q⟩
  rw [List.length_append]
  omega
def rCat : R2 := fun x y H Q => ∃ l b xs zs, x = .ref l ∧ y = .ref b ∧ H l = some (.lst xs) ∧ H b = some (.lst zs) ∧ xs.length + zs.length ≤ sizeLine ∧ ∀ p, H p = none → Q (.ref p) (upd H p (.lst (xs ++ zs)))
theorem op_cat : OpR X (binaryOp .Add) rCat := by
  intro pins s σ H x y v u Q I rx ry h
  obtain ⟨l, b, xs, zs, rfl, rfl, hH, hB, hz, q⟩ := h
  cases rx
  cases ry
  obtain ⟨z, its, n, r, hl, e⟩ := I.lstM hH
  obtain ⟨z2, its2, n2, r2, hl2, e2⟩ := I.lstM hB
  refine PySem.P.add_list e e2 ?_ (by rw [List.size_toArray, List.size_toArray]; omega)
  have ea : its.toArray ++ its2.toArray = (its ++ its2).toArray := by simp
  rw [ea]
  exact ⟨.ref _, _, I.lnew (t' := s.toks) (r.append r2) (by rw [List.length_append]; omega), rfl, q _ I.fresh⟩
end
section
variable {prog : Program} {w : World} {A : Around} {E : Value → Shared → Prop} {s : Shared}
end
section
variable {X : Cx}
end
end L2
namespace Att
open PySem PySem.W PySem.Calls PyProof.Rows
theorem ints_of_wellAll {P : Params} {h : Heap} : ∀ (ns : List Int) (vs : List Value), WellAll P h vs (ns.map WData.int) → IntsAre vs ns := by
  intro ns
  induction ns with
  | nil =>
    intro vs w
    rw [List.map_nil] at w
    cases w
    exact .nil
  | cons n ns ih =>
    intro vs w
    rw [List.map_cons] at w
    cases w with
    | cons a b =>
      cases a
      exact .cons _ _ (ih _ b)
theorem script_of {l : OpenLaw} {n : Nat} (hn : l.most = some n) {P : Params} {h : Heap} {args : List WData} {vals : List Value}
    (hpre : l.row.toRowW.claim.pre args = true) (hwl : WellAll P h vals args) :
    ∃ a vs ns, vals = [Value.ref a] ∧ args = [WData.list (ns.map WData.int)] ∧ h.get? a = some { cls := .type "list", data := .seq vs.toArray } ∧ IntsAre vs ns ∧ ns.length ≤ n := by
  have hsh : WShape.hasAll [] args [.list .int] = true := (pre_splitW hpre).1
  have hc : l.pre.holds [] { args := args } = true := (pre_splitW hpre).2
  obtain ⟨d, r, rfl, h1, h2⟩ := hasAllW_cons hsh
  obtain rfl := hasAllW_nil h2
  obtain ⟨xs, rfl, h3⟩ := hasW_list h1
  obtain ⟨ns, rfl⟩ := items_int h3
  have hlen : ns.length ≤ n := by
    unfold OpenLaw.pre at hc
    have h4 : (WTm.not (.lt (.lit (.int (n : Int))) (.len (.arg 0)))).holds [] { args := [.list (ns.map .int)] } = true := by
      have h4 := (holds_andW hc).1
      rw [hn] at h4
      exact h4
    have h5 := condW_of h4 (w_not (w_lt w_lit (w_len_list (w_arg rfl))))
    rw [List.length_map] at h5
    refine Nat.le_of_not_lt fun q => ?_
    have q' : (n : Int) < ((ns.length : Nat) : Int) := by omega
    first
      | (rw [decide_eq_true q'] at h5; exact absurd h5 (by decide))
      | (simp at h5; omega)
  cases hwl with
  | cons w1 w2 =>
    cases w2
    cases w1 with
    | list ho hall => exact ⟨_, _, ns, rfl, rfl, ho, ints_of_wellAll ns _ hall, hlen⟩
theorem post_true (l : OpenLaw) (args : List WData) : l.row.toRowW.claim.post args (.bool true) args = true :=
  postW_of (r := l.row.toRowW) (X := (true == true))
    (show WShape.has [] (.bool true) .bool = true by first | rfl | decide | simp [WShape.has, WShape.arms, WShape.armsAll])
    (show (WTm.eq .res (.lit (.bool true))).value [] { args := args, res := some (.bool true), after := args } = some (.bool (true == true)) from w_eq_bool (w_res rfl) w_lit) rfl
theorem attach_call {l : OpenLaw} {n : Nat} {q : Program} {loose : List Str} {XP : (Str → Option Value) → Heap → Prop} {YP : World → Heap → Prop} {d : DefRec}
    (hn : l.most = some n) (hdf : d.params.defaults = [])
    (call : ∀ (w : World) (s₀ s₁ : Shared) (mg mb : Str → Option Value) (fa : Addr) (o : Obj) (pm cd doc : Value) (a : Addr) (vs : List Value) (ns : List Int),
      Ground q loose [] XP w s₀ mg mb s₁.heap → YP w s₁.heap →
      s₁.heap.get? fa = some o → o.data = .func (docDef d.name d.params d.body d.scope pm cd doc) → s₁.heap.CodeRec cd d.name → mg d.name = some (.ref fa) →
      s₁.heap.get? a = some { cls := .type "list", data := .seq vs.toArray } → IntsAre vs ns → ns.length ≤ n → s₁.gens = #[] →
      codeAny (model l.prog w) callerA (.call (.ref fa) ⟨[.ref a], []⟩) (fun r s' => r = .ok (.ret (.bool true)) ∧ OldK s₁.heap s'.heap ∧ s'.os = s₁.os ∧ AllBare s'.gens) s₁) :
    WalkO q loose XP YP l.row.toRowW d [] (fun f vs => PySem.call f vs) := by
  intro w s₀ s₁ mg mb G Y fa o pm cd doc dV kV ho hd hcd hD hmg hg args vals as hpre hlay hrd hwl hlo
  obtain rfl : dV = .none := Dflts.none hD hdf
  obtain rfl : kV = .none := Dflts.noKw hD
  obtain ⟨a, vs, ns, rfl, rfl, hobj, hints, hlen⟩ := script_of hn hpre hwl
  refine enter_call (codeAny_mono (call w s₀ s₁ mg mb fa o pm cd doc a vs ns G Y ho (fd_plain hd) hcd hmg hobj hints hlen hg) fun r s' hq => ?_)
  obtain ⟨rfl, h2, h3, h4⟩ := hq
  exact ⟨.inl ⟨.bool true, .bool true, [], rfl, fun _ => rfl, .bool true, post_true l _, fun _ => ⟨List.Pairwise.nil, fun _ hm => (nomatch hm)⟩⟩, h2, h3, h4⟩
section
variable {prog : Program} {w : World} {A : Around} {E : Value → Shared → Prop} {s : Shared} {K : Frag}
end
end Att
namespace L2
open PySem PySem.Spec PyProof.Rows
theorem vals_ints : ∀ {vs : List Value} {ns : List Int}, IntsAre vs ns → Vals (ns.map V.int) vs
  | _, _, .nil => .nil
  | _, _, .cons n t h => .cons ⟨t, rfl⟩ (vals_ints h)
end L2
namespace L2
open PySem PySem.Spec PyProof.Rows
end L2
namespace L2
open PySem PySem.Spec PyProof.Rows
def defArgs (s : Stmt) : Arguments := match s with
  | .FunctionDef _ a _ _ _ _ _ _ _ _ => a
  | _ => { posonlyargs := [], args := [], vararg := none, kwonlyargs := [], kw_defaults := [], kwarg := none, defaults := [] }
def defBody (s : Stmt) : List Stmt := match s with
  | .FunctionDef _ _ b _ _ _ _ _ _ _ => b
  | _ => []
def defScope (s : Stmt) : Scope := match s with
  | .FunctionDef _ _ _ _ _ _ sc _ _ _ => sc
  | _ => { kind := .function, names := [], isGenerator := false, isCoroutine := false }
abbrev CX0 : CXT := fun _ _ _ _ _ _ => False
abbrev E0 : XK := fun _ _ _ => False
theorem pass0 {X : Cx} : Passes CX0 X E0 := fun _ _ _ _ _ _ _ h => h.elim
structure Fun (K : PySem.W.Frag) (x qual : Str) (st : Stmt) (f : Addr) (fd : FuncData) : Prop where
  ex : ∃ (oc : Value) (od : Option Addr) (kV doc pm : Value) (an : Option Addr) (cdv ct : Value) (osl : Array (Option Value)),
    fd = PySem.W.fnOf x qual (defArgs st) (defBody st) (defScope st) .none kV doc pm an cdv ct ∧ K.lookup f = some ⟨oc, od, .func fd, osl⟩ ∧ PySem.W.codeIn K cdv qual = true
  kp : PySem.W.keepIn K (.ref f) = true
section
variable {P : Program} {w : World} {K : PySem.W.Frag} {mg : Str → Option Value} {base : Heap}
theorem Fun.ok {x qual : Str} {st : Stmt} {f : Addr} {fd : FuncData} {N ps : List Str} {k : Nat} {sp : Sp} (F : Fun K x qual st f fd) (S : FnScope N ps (defScope st)) (len : ∀ vs H Q E, sp vs H Q E → vs.length = ps.length)
    (hbody : ∀ (cdv : Value) (A : Around) (outer : List Env) (s : Shared) (H : Hp) (vs : List V) (Q : VK) (E : XK), Room k (A.deeper (envOfC qual (defScope st) s.heap.objs.size f cdv)) → sp vs H Q E →
      ∃ t, PSs (cxOf CX0 P w K mg base N qual (defScope st) f cdv A outer s H E).nox (defBody st) t ∧ t { nx := fun _ H' => Q .non H', rt := Q } (start N vs) H) : FnOk P w K mg base CX0 (k + 1) f fd ps sp := by
  obtain ⟨oc, od, kV, doc, pm, an, cdv, ct, osl, rfl, lk, hcd⟩ := F.ex
  refine fn_of lk hcd S len fun A outer s H vs Q E hr hsp => ?_
  obtain ⟨t, h, q⟩ := hbody cdv A outer s H vs Q E hr hsp
  exact ⟨t, h.nox, q⟩
theorem Fun.binds {x qual : Str} {st : Stmt} {f : Addr} {fd : FuncData} {ps : List Str} (F : Fun K x qual st f fd)
    (h : ∀ (kV doc pm : Value) (an : Option Addr) (cdv ct : Value) (us : List Value), us.length = ps.length → bindArgs (PySem.W.fnOf x qual (defArgs st) (defBody st) (defScope st) .none kV doc pm an cdv ct) ⟨us, []⟩ = pure (ps.zip us)) : Binds K fd ps [] := by
  obtain ⟨oc, od, kV, doc, pm, an, cdv, ct, osl, rfl, lk, hcd⟩ := F.ex
  exact .all (h kV doc pm an cdv ct)
theorem fun_mk {x qual : Str} {st : Stmt} {f : Addr} {oc : Value} {od an : Option Addr} {osl : Array (Option Value)} {kV doc pm cdv ct : Value} (l : K.lookup f = some ⟨oc, od, .func (PySem.W.fnOf x qual (defArgs st) (defBody st) (defScope st) .none kV doc pm an cdv ct), osl⟩)
    (c : PySem.W.codeIn K cdv qual = true) (k : PySem.W.keepIn K (.ref f) = true) : Fun K x qual st f (PySem.W.fnOf x qual (defArgs st) (defBody st) (defScope st) .none kV doc pm an cdv ct) := ⟨⟨oc, od, kV, doc, pm, an, cdv, ct, osl, rfl, l, c⟩, k⟩
end
theorem hu_of {A : Around} {k : Nat} (hr : Room k A) : A.units + 1 < cLine := Nat.lt_of_le_of_lt (Nat.add_le_add_left (by decide : 1 ≤ 64) _) hr.units
theorem small1000 {n : Nat} (h : n ≤ 1000) : n < sizeLine := Nat.lt_of_le_of_lt h (by decide)
section
variable {X : Cx}
theorem pv (i : Nat) {x : Str} {pos : Pos} (hN : X.N[i]? = some x := by rfl) (hv : Vis X.env.scope x := by first | exact Or.inl rfl | exact Or.inr (Or.inl rfl) | exact Or.inr (Or.inr rfl)) (hd : (x == ("__debug__" : Str)) = false := by decide)
    (hcd : (x == ("__classdict__" : Str)) = false := by decide) : PE X (.Name x pos) (tVar i) := pe_var hN hv hd hcd
end
theorem iteF {A B : Prop} (h : B) : if false = true then A else B := by
  rw [if_neg Bool.false_ne_true]
  exact h
theorem iteT {A B : Prop} (h : A) : if true = true then A else B := by
  rw [if_pos rfl]
  exact h
theorem ite2 {c A B : Prop} [Decidable c] (h1 : c → A) (h2 : ¬ c → B) : if c then A else B := by
  by_cases h : c
  · rw [if_pos h]
    exact h1 h
  · rw [if_neg h]
    exact h2 h
def Same (H H' : Hp) : Prop := ∀ b o, H b = some o → H' b = some o
theorem Same.refl (H : Hp) : Same H H := fun _ _ h => h
theorem Same.trans {H H1 H2 : Hp} (a : Same H H1) (b : Same H1 H2) : Same H H2 := fun c o h => b c o (a c o h)
theorem Same.free {H H' : Hp} (e : Same H H') {l : Addr} (h : H' l = Option.none) : H l = Option.none := by
  cases q : H l with
  | none => rfl
  | some o =>
    rw [e l o q] at h
    cases h
theorem Same.seq {K : PySem.W.Frag} {H H' : Hp} {a : Addr} {xs : List V} (e : Same H H') (h : SqL K H a xs) : SqL K H' a xs := by
  rcases h with (h | ⟨o, h⟩) | h
  · exact .inl (.inl (e _ _ h))
  · exact .inl (.inr ⟨o, e _ _ h⟩)
  · exact .inr h
section
variable {κ : Type} [DecidableEq κ]
end
end L2
namespace GX
open PySem
theorem forIn_fold {α β : Type} {f : α → β → Sem (ForInStep β)} (g : α → β → β) : ∀ (l : List α) (b : β), (∀ x ∈ l, ∀ b, f x b = pure (.yield (g x b))) →
    forIn l b f = pure (l.foldl (fun b x => g x b) b)
  | [], b, _ => rfl
  | x :: l, b, h => by
    simp only [List.forIn_cons, h x (.head _), pure_bind]
    exact forIn_fold g l (g x b) fun y hy => h y (List.mem_cons_of_mem _ hy)
def closeF (env : Env) (x : Str × NameKind) (cs : List (Str × Addr)) : List (Str × Addr) := if x.2 == .free then (x.1, (env.cells.lookup x.1).getD 0) :: cs else cs
theorem closure_eq {env : Env} {sc : Scope} (h : ∀ y ∈ sc.names, y.2 = .free → ∃ c, env.cells.lookup y.1 = some c) :
    closureFor sc env = pure (sc.names.foldl (fun b x => closeF env x b) []) := by
  simp only [closureFor]
  rw [forIn_fold (closeF env) sc.names [] (fun x hx b => by
    obtain ⟨n, k⟩ := x
    unfold closeF
    by_cases hk : k = .free
    · subst hk
      obtain ⟨c, hc⟩ := h _ hx rfl
      have e : cellOf env n = pure c := by unfold cellOf; rw [hc]
      simp [e, hc]
    · have hb : (k == NameKind.free) = false := by simpa using hk
      simp only [hb, Bool.false_eq_true, if_false])]
  rfl
theorem closeF_sub {env : Env} : ∀ (l : List (Str × NameKind)) (acc : List (Str × Addr)), (∀ y ∈ l, y.2 = .free → ∃ c, env.cells.lookup y.1 = some c) → (∀ p ∈ acc, env.cells.lookup p.1 = some p.2) →
    ∀ p ∈ l.foldl (fun b x => closeF env x b) acc, env.cells.lookup p.1 = some p.2
  | [], acc, _, ha => ha
  | x :: l, acc, h, ha => by
    refine closeF_sub l _ (fun y hy => h y (List.mem_cons_of_mem _ hy)) fun p hp => ?_
    unfold closeF at hp
    dsimp only at hp
    by_cases hk : x.2 = .free
    · obtain ⟨c, hc⟩ := h x List.mem_cons_self hk
      rw [hk] at hp
      simp only [beq_self_eq_true, if_true] at hp
      rcases List.mem_cons.mp hp with rfl | hp
      · rw [hc]; rfl
      · exact ha p hp
    · have hb : (x.2 == NameKind.free) = false := by simpa using hk
      simp only [hb, Bool.false_eq_true, if_false] at hp
      exact ha p hp
theorem closeF_has {env : Env} {n : Str} : ∀ (l : List (Str × NameKind)) (acc : List (Str × Addr)), ((∃ c, (n, c) ∈ acc) ∨ (n, NameKind.free) ∈ l) → ∃ c, (n, c) ∈ l.foldl (fun b x => closeF env x b) acc
  | [], acc, h => by
    rcases h with h | h
    · exact h
    · cases h
  | x :: l, acc, h => by
    refine closeF_has l _ ?_
    unfold closeF
    dsimp only
    rcases h with ⟨c, h⟩ | h
    · refine .inl ⟨c, ?_⟩
      split
      · exact List.mem_cons_of_mem _ h
      · exact h
    · rcases List.mem_cons.mp h with h | h
      · refine .inl ?_
        subst h
        exact ⟨_, by rw [if_pos (by rfl)]; exact .head _⟩
      · exact .inr h
theorem lookup_of_mem {n : Str} {c : Addr} : ∀ {l : List (Str × Addr)}, (n, c) ∈ l → ∃ c', l.lookup n = some c'
  | [], h => by cases h
  | (m, d) :: l, h => by
    rw [List.lookup_cons]
    cases e : n == m with
    | true => exact ⟨d, rfl⟩
    | false =>
      rcases List.mem_cons.mp h with h | h
      · cases h
        simp at e
      · exact lookup_of_mem h
theorem mem_lk {n : Str} {c : Addr} : ∀ {l : List (Str × Addr)}, l.lookup n = some c → (n, c) ∈ l
  | [], h => by cases h
  | (m, d) :: l, h => by
    rw [List.lookup_cons] at h
    cases e : n == m with
    | true =>
      rw [e] at h
      have e' : n = m := by simpa using e
      have h' : d = c := Option.some.inj h
      rw [e', h']
      exact List.mem_cons_self
    | false =>
      rw [e] at h
      exact List.mem_cons_of_mem _ (mem_lk h)
theorem closure_ok {env : Env} {sc : Scope} (h : ∀ y ∈ sc.names, y.2 = .free → ∃ c, env.cells.lookup y.1 = some c) :
    ∃ cl, closureFor sc env = pure cl ∧ (∀ x c, cl.lookup x = some c → env.cells.lookup x = some c) ∧ (∀ n, (n, NameKind.free) ∈ sc.names → ∃ c, cl.lookup n = some c) := by
  refine ⟨_, closure_eq h, fun x c e => ?_, fun n hn => ?_⟩
  · exact closeF_sub sc.names [] h (fun p hp => by cases hp) (x, c) (mem_lk e)
  · obtain ⟨c, hc⟩ := closeF_has (env := env) sc.names [] (.inr hn)
    exact lookup_of_mem hc
theorem lookup_relabel {env : Env} {x : Str} {names : List (Str × NameKind)} :
    (names.map fun (n, k) => if (k == NameKind.free && env.scope.kind == .function && env.kindOf n == some .cell) then (n, NameKind.cell) else (n, k)).lookup x
      = (names.lookup x).map fun k => if (k == NameKind.free && env.scope.kind == .function && env.kindOf x == some .cell) then NameKind.cell else k := by
  induction names with
  | nil => rfl
  | cons p r ih =>
    obtain ⟨n, k⟩ := p
    rw [List.map_cons]
    by_cases e : x = n
    · subst e
      dsimp only
      split <;> simp_all
    · have e' : (x == n) = false := by simpa using e
      dsimp only
      split <;> simp only [List.lookup_cons, e'] <;> exact ih
def oneTurn (elt target : Expr) (ifs : List Expr) (it acc : Value) (env : Env) : Sem Bool := do
  match ← pyNext it with
  | none => pure false
  | some v =>
    letOwnedTupleGo target it v
    assign target env v
    let ok ← forIn ifs true fun c r => if r = true then do let ok ← isTrue c env (eval c env); pure (ForInStep.yield ok) else pure (ForInStep.yield r)
    if ok = true then do
      let x ← eval elt env
      let _ ← call (.builtin "list.append") [acc, x]
      pure true
    else pure true
theorem turn_is (elt target iter : Expr) (ifs : List Expr) (scope : Scope) (pos : Pos) (it acc : Value) (env : Env) :
    compTurn (.ListComp elt [⟨target, iter, ifs, 0⟩] scope pos) 0 it acc env = (do
      standAt iter.pos
      let more ← oneTurn elt target ifs it acc env
      if more = true then again (.compLoop (.ListComp elt [⟨target, iter, ifs, 0⟩] scope pos) 0 it acc env) else pure (.done .next)) := by
  rw [compTurn_list, oneTurn]
  simp only [bind_assoc]
  congr 1
  funext _
  congr 1
  funext r
  cases r with
  | none => simp
  | some v =>
    simp only [bind_assoc]
    congr 1
    funext _
    congr 1
    funext _
    congr 1
    funext ok
    cases ok <;> simp
theorem compLoop_go {prog : Program} {w : World} {A : Around} {R : Result → Shared → Prop} {s : Shared} {elt target iter : Expr} {ifs : List Expr} {scope : Scope} {pos : Pos} {it acc : Value} {env : Env} (I : Nat → Shared → Prop)
    (turn : ∀ n s, I n s → wpAny (model prog w) A (oneTurn elt target ifs it acc env) (fun more s' => if more = true then ∃ m, m < n ∧ I m s' else R (.ok .next) s') (fun _ _ => False) s) (n : Nat) (h : I n s) :
    codeAny (model prog w) A (.compLoop (.ListComp elt [⟨target, iter, ifs, 0⟩] scope pos) 0 it acc env) R s := by
  apply codeAny_loop rfl I _ n h
  intro n s hI
  apply wpAny_noted
  rw [turn_is]
  change wpAny _ A _ _ _ _
  apply wpAny_bind
  apply wpAny_standAt
  apply wpAny_bind
  refine wpAny_mono (turn n s hI) (fun more s' q => ?_) fun _ _ z => z.elim
  cases more
  · exact wpAny_pure q
  · exact wpAny_pure ⟨rfl, q⟩
end GX
set_option Elab.async false
set_option linter.all false
set_option maxRecDepth 100000
namespace GX
open PySem PySem.Spec PyProof.Rows
def kept : Option (Value × Value) → Array Value
  | none => #[]
  | some (x, k) => #[x, k]
abbrev lstO (a : Array Value) (c : Nat) : Obj := { cls := .type "list", dict := none, data := .seq a c, slots := #[] }
abbrev put (S : Addr) (a : Array Value) (s : Shared) : Shared := { s with heap := s.heap.update S (Obj.mapSeq fun _ => a) }
def KeyOf (prog : Program) (w : World) (A : Around) (key v : Value) (Q : Value → Shared → Prop) (s : Shared) : Prop :=
  match key with
  | .none => Q v s
  | f => wpAny (model prog w) A.in1 (call f [v]) Q (fun _ _ => False) s
def After (prog : Program) (w : World) (op : CmpOp) (lp : String) (I S : Addr) (key : Value) (kw : List (Str × Value)) (b : Option (Value × Value)) (A : Around) (R : Result → Shared → Prop) : Option Value → Shared → Prop
  | none, s => (∃ c, s.heap.get? S = some (lstO (kept b) c)) ∧ match b with
    | some (x, _) => R (.ok (.ret x)) (put S #[] s)
    | none => ∃ n d r, kw = (n, d) :: r ∧ R (.ok (.ret d)) s
  | some v, s => KeyOf prog w A key v (fun k s => (∃ c, s.heap.get? S = some (lstO (kept b) c)) ∧ match b with
    | none => codeAny (model prog w) A (.builtin lp ⟨[.ref I, key, .ref S], kw⟩) R (put S #[v, k] s)
    | some (_, k') => wpAny (model prog w) A.in1 (richCompare op k k') (fun a s => ∃ y c, a = .bool y ∧ s.heap.get? S = some (lstO (kept b) c) ∧ codeAny (model prog w) A (.builtin lp ⟨[.ref I, key, .ref S], kw⟩) R (if y then put S #[v, k] s else s)) (fun _ _ => False) s) s
abbrev Turn (prog : Program) (w : World) (op : CmpOp) (lp : String) (B : Builtin) : Prop := ∀ (I S : Addr) (key : Value) (kw : List (Str × Value)) (b : Option (Value × Value)) (c : Nat),
  MeetsIn prog w (B ⟨[.ref I, key, .ref S], kw⟩) fun A R s => s.heap.get? S = some (lstO (kept b) c) ∧ wpAny (model prog w) A.in1 (pyNext (.ref I)) (After prog w op lp I S key kw b A R) (fun _ _ => False) s
section
variable {prog : Program} {w : World}
structure Best (prog : Program) (w : World) (A : Around) (key : Value) (op : CmpOp) (l I S : Addr) (vs : List Value) (bt : Nat → Nat → Bool) (G : List (Nat × Value) → Shared → Prop) : Prop where
  irr : ∀ i, bt i i = false
  asy : ∀ i j, bt i j = true → bt j i = false
  cov : ∀ a b c, bt a b = true → bt c b = false → bt a c = true
  tail : ∀ p q L s, G (p :: q :: L) s → G (q :: L) s
  head : ∀ p L s, G (p :: L) s → G [p] s
  calm : ∀ x L s h tk, x = I ∨ x = S → G L s → (∀ b o, b ≠ x → s.heap.get? b = some o → h.get? b = some o) → G L { s with heap := h, toks := tk }
  list : ∀ L s, G L s → s.heap.IsList l vs.toArray
  keys : ∀ L s j v a c m, G L s → vs[j]? = some v → s.heap.get? S = some (lstO a c) → s.heap.IsListIter I l m → KeyOf prog w A key v (fun k s => G ((j, k) :: L) s ∧ s.heap.get? S = some (lstO a c) ∧ s.heap.IsListIter I l m) s
  cmp : ∀ i j k k' s, G [(j, k), (i, k')] s → wpAny (model prog w) A.in1 (richCompare op k k') (fun a s' => a = .bool (bt j i) ∧ s' = s) (fun _ _ => False) s
variable {A : Around} {key : Value} {op : CmpOp} {lp : String} {B : Builtin} {l I S : Addr} {vs : List Value} {bt : Nat → Nat → Bool} {G : List (Nat × Value) → Shared → Prop} {R : Result → Shared → Prop} {kw : List (Str × Value)}
theorem Best.put (M : Best prog w A key op l I S vs bt G) {L : List (Nat × Value)} {s : Shared} {a b : Array Value} {c m : Nat} (SI : S ≠ I) (g : G L s) (hS : s.heap.get? S = some (lstO a c)) (hI : s.heap.IsListIter I l m) :
    G L (put S b s) ∧ (∃ c, (put S b s).heap.get? S = some (lstO b c)) ∧ (put S b s).heap.IsListIter I l m :=
  ⟨M.calm S L s _ s.toks (.inr rfl) g fun x o n e => (Heap.get?_update_other _ _ (Ne.symm n)).trans e, ⟨_, Heap.get?_update_self _ hS rfl⟩, hI.at fun o e => (Heap.get?_update_other _ _ SI).trans e⟩
end
end GX
namespace GB
def hnds (n : Nat) : List Nat := (List.range 63).filter fun h => n.testBit h
theorem mem_hnds {n h : Nat} : h ∈ hnds n ↔ h < 63 ∧ n.testBit h = true := by
  unfold hnds
  rw [List.mem_filter, List.mem_range]
theorem hnds_sorted (n : Nat) : (hnds n).Pairwise (· < ·) := List.Pairwise.filter _ List.pairwise_lt_range
def hl (n : Int) : List Int := (hnds n.toNat).map (fun (h : Nat) => (h : Int))
end GB
namespace GB
def setN (l : List Nat) : Nat := l.foldl (fun a h => a ||| 2 ^ h) 0
theorem fold_bit (h : Nat) : ∀ (l : List Nat) (a : Nat), (l.foldl (fun a h => a ||| 2 ^ h) a).testBit h = (a.testBit h || decide (h ∈ l))
  | [], a => by simp
  | x :: l, a => by
    rw [List.foldl_cons, fold_bit h l, Nat.testBit_or, Nat.testBit_two_pow, Bool.or_assoc]
    congr 1
    rw [Bool.eq_iff_iff]
    simp only [Bool.or_eq_true, decide_eq_true_iff, List.mem_cons]
    constructor
    · rintro (e | e)
      · exact .inl e.symm
      · exact .inr e
    · rintro (e | e)
      · exact .inl e.symm
      · exact .inr e
theorem setN_bit (l : List Nat) (h : Nat) : (setN l).testBit h = decide (h ∈ l) := by
  unfold setN
  rw [fold_bit, Nat.zero_testBit, Bool.false_or]
theorem setN_lt {l : List Nat} {b : Nat} (h : ∀ x ∈ l, x < b) : setN l < 2 ^ b := by
  apply Nat.lt_pow_two_of_testBit
  intro i hi
  rw [setN_bit]
  exact decide_eq_false fun z => by have := h i z; omega
end GB
namespace L2
open PySem PySem.Spec PyProof.Rows
def capOk (N : List Str) (sc : Scope) (x : Str) : Option Nat → Bool
  | none => true
  | some j => decide (N[j]? = some x) && decide (sc.names.lookup x = some .free)
def BlkP (N N' : List Str) (src : List (Option Nat)) (esc sc : Scope) : Prop :=
  (∀ y ∈ sc.names, y.2 ≠ .cell) ∧ (∀ y ∈ sc.names, y.2 = .local → sc.names.lookup y.1 = some .local) ∧
  (∀ y ∈ sc.names, y.2 = .free → esc.names.lookup y.1 = some .cell ∨ esc.names.lookup y.1 = some .free) ∧
  N'.Nodup ∧ src.length = N'.length ∧ ∀ p ∈ N'.zip src, capOk N sc p.1 p.2 = true
instance (N N' : List Str) (src : List (Option Nat)) (esc sc : Scope) : Decidable (BlkP N N' src esc sc) := by unfold BlkP; infer_instance
def blkSt (src : List (Option Nat)) (σ : St) : St := src.map fun o => o.bind fun j => (σ[j]?).bind fun v => v
def Cx.blk (X : Cx) (N' : List Str) (sc : Scope) (cl : List (Str × Addr)) (C : Addr) (s2 : Shared) (H2 : Hp) (fp : List Addr) : Cx :=
  { X with N := N', s₀ := s2, H₀ := H2, env := compEnvC sc cl C X.env, outer := X.stack, ex := fp, fn := fun _ => false, pn := [], xe := fun _ _ => False }
def PIf (X : Cx) (ifs : List Expr) (t : TT) : Prop :=
  ∀ (pins : List (Addr × Obj)) (s : Shared) (σ : St) (H : Hp) (Q : Bool → Hp → Prop), Inv X pins σ H s → t σ H Q →
    wpAny (model X.prog X.w) X.A (forIn ifs true fun c r => if r = true then do let ok ← isTrue c X.env (eval c X.env); pure (ForInStep.yield ok) else pure (ForInStep.yield r)) (TP X pins σ Q) X.xe s
def tYes : TT := fun _ H Q => Q true H
theorem pif_nil {X : Cx} : PIf X [] tYes := fun _ _ _ H _ I h => wpAny_tests_nil ⟨H, I, h⟩
theorem Un.but {fs ex : List Addr} {H H' : Hp} {h h1 h2 : Heap} {C : Addr} (u : Un fs ex H H' h h1) (sb : Heap.SameBut C h1 h2) (hC : h.get? C = none) : Un fs ex H H' h h2 :=
  have ne : ∀ b o, h.get? b = some o → b ≠ C := fun b o e z => by rw [z, hC] at e; cases e
  ⟨fun b o e n hb hx => (sb.2 b (ne b o e)).trans (u.keep b o e n hb hx), fun b o e n hb hx => let ⟨sl, z⟩ := u.slot b o e n hb hx; ⟨sl, (sb.2 b (ne b o e)).trans z⟩, u.free,
    fun b o e hx => let ⟨o', z⟩ := u.there b o e hx; ⟨o', (sb.2 b (ne b o e)).trans z⟩, u.tups, u.frzs, u.tbls⟩
theorem HOk.but {P : Program} {w : World} {H : Hp} {h h' : Heap} {C : Addr} (x : HOk P w H h) (sb : Heap.SameBut C h h') (hC : H C = none) : HOk P w H h' := fun b ob e => by
  refine (x b ob e).stay (fun c v hc q => (sb.2 c ?_).trans q) (fun _ q => q) fun _ _ q => q
  rintro rfl
  rcases hc with rfl | hc
  · rw [hC] at e; cases e
  · rw [hC] at hc; cases hc
def cTurn (g : TG) (tt : TT) (te : TE) (D : Addr) (N : St → Hp → Prop) (x : V) (σ : St) (H : Hp) : Prop :=
  g x σ H fun σ2 H2 => tt σ2 H2 fun b H3 => if b = true then te σ2 H3 fun y H4 => ∃ ys, H4 D = some (.lst ys) ∧ ys.length < sizeLine ∧ N σ2 (upd H4 D (.lst (ys ++ [y]))) else N σ2 H3
def tComp (src : List (Option Nat)) (wi : TI) (g : TG) (tt : TT) (te : TE) : TE := fun σ H Q => wi σ H fun J H1 => ∀ D, H1 D = none → ∃ W : Nat → Nat → St → Hp → Prop, (∃ m, W 0 m (blkSt src σ) (upd H1 D (.lst []))) ∧
  ∀ i m σ' H', W i m σ' H' → (J.stop i H' ∧ Q (.ref D) H') ∨ (J.go i H' ∧ ∃ N : St → Hp → Prop, (∀ σ2 H2, N σ2 H2 → ∃ m', m' < m ∧ W (i + 1) m' σ2 H2) ∧
    ∀ x H'', J.yld i H' x H'' → cTurn g tt te D N x σ' H'')
theorem comp_core {X : Cx} {elt tg iter : Expr} {ifs : List Expr} {sc : Scope} {pos : Pos} {g : TG} {tt : TT} {te : TE} {N' : List Str} {src : List (Option Nat)} {cl : List (Str × Addr)} {pins : List (Addr × Obj)} {σ : St} {H2 : Hp} {s2 : Shared} {it : Addr} {fp : List Addr}
    {tn : Nat → Heap → Prop} {J : It} {W : Nat → Nat → St → Hp → Prop} {m0 : Nat} {Qe : Hp → Prop} {RR : Value → Addr → Result → Shared → Prop}
    (hc : X.calm = true) (hk : sc.kind = .function) (hB : BlkP X.N N' src X.env.scope sc) (hsub : ∀ x c, cl.lookup x = some c → X.env.cells.lookup x = some c) (hhas : ∀ n, (n, NameKind.free) ∈ sc.names → ∃ c, cl.lookup n = some c)
    (hg : ∀ cl C s2 H2 fp, N'.Nodup → PG (X.blk N' sc cl C s2 H2 fp) tg g)
    (ht : ∀ cl C s2 H2 fp, PIf (X.blk N' sc cl C s2 H2 fp) ifs tt)
    (he : ∀ cl C s2 H2 fp, PE (X.blk N' sc cl C s2 H2 fp) elt te)
    (I2 : Inv X pins σ H2 s2) (T : Turn X.prog X.w X.K tg J fp it tn) (st2 : tn 0 s2.heap) (f2 : ∀ b ∈ fp, FpOk X pins H2 b)
    (w0 : W 0 m0 (blkSt src σ) (upd H2 s2.heap.objs.size (.lst [])))
    (turn : ∀ i m σ' H', W i m σ' H' → (J.stop i H' ∧ Qe H') ∨ (J.go i H' ∧ ∃ N : St → Hp → Prop, (∀ σ2 H2, N σ2 H2 → ∃ m', m' < m ∧ W (i + 1) m' σ2 H2) ∧
      ∀ x H'', J.yld i H' x H'' → cTurn g tt te s2.heap.objs.size N x σ' H''))
    (fin : ∀ C s4 σ3 H3, s2.heap.objs.size ≤ C → Inv (X.blk N' sc cl C s2 H2 fp) [] σ3 H3 s4 → Qe H3 → RR (.ref s2.heap.objs.size) C (.ok .next) s4) :
    wpAny (model X.prog X.w) X.A (newList []) (fun acc s₃ => wpAny (model X.prog X.w) X.A (newFunctionEnv sc X.env.globals cl [] X.env.qual none .none (some X.env)) (fun cenv s₄ =>
      codeAny (model X.prog X.w) X.A (.compStart (.ListComp elt [⟨tg, iter, ifs, 0⟩] sc pos) 0 (.ref it) acc { cenv with scope := relabel sc X.env }) (RR acc cenv.locals) s₄) X.xe s₃) X.xe s2 := by
  obtain ⟨b1, b2, b3, b4, b5, b6⟩ := hB
  refine wpAny_newObj_type (wpAny_newFunctionEnv b1 (by intro y hy; simp at hy) (fun h₁ ns₁ sb₁ => ?_) hk)
  dsimp only at ns₁ sb₁ ⊢
  generalize hP : s2.heap.push { cls := .type "list", dict := none, data := .seq ([] : List Value).toArray } = Hl at ns₁ sb₁ ⊢
  have hC : Hl.objs.size = s2.heap.objs.size + 1 := by rw [← hP, Heap.size_push]
  have nDC : s2.heap.objs.size ≠ Hl.objs.size := by rw [hC]; exact Nat.ne_of_lt (Nat.lt_succ_self _)
  have below : ∀ {b : Addr} {o : Obj}, s2.heap.get? b = some o → b ≠ Hl.objs.size := fun {b o} z => by
    have := Heap.lt_size z
    rw [hC]
    exact Nat.ne_of_lt (Nat.lt_succ_of_lt this)
  have old : ∀ b o, s2.heap.get? b = some o → h₁.get? b = some o := fun b o z => sb₁.extBut b o (below z) (Heap.get?_push_of_some _ (hP ▸ Heap.get?_push_of_some _ z))
  have hD1 : h₁.get? s2.heap.objs.size = some { cls := .type "list", data := .seq ([] : List Value).toArray } := sb₁.extBut _ _ nDC (Heap.get?_push_of_some _ (hP ▸ Heap.get?_push_size _ rfl))
  have fD : H2 s2.heap.objs.size = none := I2.hok.fresh (Nat.le_refl _)
  have fC : H2 Hl.objs.size = none := I2.hok.fresh (by rw [hC]; exact Nat.le_succ _)
  have ok : (X.blk N' sc cl Hl.objs.size s2 H2 fp).Ok := by
    refine ⟨I2.ok.mod, hk, I2.ok.glob, I2.ok.blt, ?_, fun x y c h1 h2 => I2.ok.inj x y c (hsub x c h1) (hsub y c h2), fun x hx => ?_, fun x c z => ?_, I2.ok.hd, I2.ok.frames, .inl rfl, fun b hb => ⟨?_, fun x c z => (f2 b hb).2.2.2.2.1 x c (hsub x c z)⟩,
      I2.bs, Nat.le_trans I2.ok.bsz I2.sz, fun b o z hb => ?_, fun b hb z => ?_, I2.stack, I2.stkFree⟩
    · show s2.heap.objs.size ≤ Hl.objs.size
      rw [hC]; exact Nat.le_succ _
    · have hx' : (sc.names.map fun (n, k) => if (k == NameKind.free && X.env.scope.kind == .function && X.env.kindOf n == some .cell) then (n, NameKind.cell) else (n, k)).lookup x = some .cell ∨
          (sc.names.map fun (n, k) => if (k == NameKind.free && X.env.scope.kind == .function && X.env.kindOf n == some .cell) then (n, NameKind.cell) else (n, k)).lookup x = some .free := hx
      rw [GX.lookup_relabel] at hx'
      cases e : sc.names.lookup x with
      | none =>
        rw [e] at hx'
        simp at hx'
      | some k =>
        rw [e] at hx'
        by_cases hf : k = .free
        · subst hf
          exact hhas x (PySem.mem_of_lookup e)
        · have hb : (k == NameKind.free) = false := by simpa using hf
          have e2 : ((some k).map fun k => if (k == NameKind.free && X.env.scope.kind == .function && X.env.kindOf x == some .cell) then NameKind.cell else k) = some k := by
            show some (if (k == NameKind.free && X.env.scope.kind == .function && X.env.kindOf x == some .cell) = true then NameKind.cell else k) = some k
            rw [hb, Bool.false_and, Bool.false_and]
            rfl
          rw [e2] at hx'
          rcases hx' with z | z
          · exact absurd (Option.some.inj z) (b1 _ (PySem.mem_of_lookup e))
          · exact absurd (Option.some.inj z) hf
    · cases z
    · obtain ⟨o, z, _⟩ := T.obj 0 _ st2 b hb
      exact below z
    · rcases (f2 b hb).2.2.2.1 with f3 | f3
      · exact I2.ok.noex b o z f3
      · have l1 := Heap.lt_size z
        have l2 := I2.ok.bsz
        exact absurd (Nat.lt_of_lt_of_le l1 (Nat.le_trans l2 f3)) (Nat.lt_irrefl _)
    · rcases List.mem_cons.mp (I2.stkSub b z) with z | z
      · exact (f2 b hb).2.1 z
      · exact (f2 b hb).2.2.1 z
  have IY : Inv (X.blk N' sc cl Hl.objs.size s2 H2 fp) [] (blkSt src σ) (upd H2 s2.heap.objs.size (.lst [])) { s2 with heap := h₁, toks := s2.toks + ([] : List (Str × Value)).length } := by
    refine ⟨ok, rfl, I2.bare, Un.laid old (Nat.le_refl _) fD, ⟨_, ns₁, fun i x v e1 e2 _ => ?_⟩, fun x c z => ?_, ?_, fun x c z => ?_, fun p hp => ?_, I2.hok.laid old (Nat.le_refl _) ⟨Nat.zero_le _, [], 0, .nil, hD1⟩, ?_⟩
    · have e1' : N'[i]? = some x := e1
      unfold blkSt at e2
      rw [List.getElem?_map] at e2
      cases es : src[i]? with
      | none => rw [es] at e2; cases e2
      | some o =>
        rw [es] at e2
        cases o with
        | none => cases e2
        | some j =>
          have e3 : (σ[j]?).bind (fun v => v) = some v := Option.some.inj e2
          have e4 : σ[j]? = some (some v) := by
            cases q : σ[j]? with
            | none => rw [q] at e3; cases e3
            | some w => rw [q] at e3; exact congrArg some e3
          have hz : (x, some j) ∈ N'.zip src := List.mem_of_getElem? (i := i) (by rw [List.getElem?_zip_eq_some]; exact ⟨e1', es⟩)
          have hcap := b6 _ hz
          have hcap' : (decide (X.N[j]? = some x) && decide (sc.names.lookup x = some .free)) = true := hcap
          rw [Bool.and_eq_true] at hcap'
          have c1 : X.N[j]? = some x := of_decide_eq_true hcap'.1
          have c2 : sc.names.lookup x = some .free := of_decide_eq_true hcap'.2
          have hfree := PySem.mem_of_lookup c2
          have vis := b3 _ hfree rfl
          obtain ⟨m, hn, hl⟩ := I2.loc
          obtain ⟨u, ru, lk⟩ := hl j x v c1 e4 (.inr vis)
          rcases lk with ⟨k1, _⟩ | ⟨_, c, k2, z⟩
          · have k1' : X.env.scope.names.lookup x = some .local := k1
            rcases vis with v | v <;> (rw [k1'] at v; cases v)
          · obtain ⟨c', k3⟩ := hhas x hfree
            have k4 := hsub x c' k3
            rw [k2] at k4
            cases k4
            refine ⟨u, ru, .inr ⟨?_, c, k3, z.keeps old⟩⟩
            show (sc.names.map fun (n, k) => if (k == NameKind.free && X.env.scope.kind == .function && X.env.kindOf n == some .cell) then (n, NameKind.cell) else (n, k)).lookup x = some .cell ∨
              (sc.names.map fun (n, k) => if (k == NameKind.free && X.env.scope.kind == .function && X.env.kindOf n == some .cell) then (n, NameKind.cell) else (n, k)).lookup x = some .free
            rw [GX.lookup_relabel, c2]
            show some (if _ then NameKind.cell else NameKind.free) = _ ∨ some (if _ then NameKind.cell else NameKind.free) = _
            split
            · exact .inl rfl
            · exact .inr rfl
    · obtain ⟨v, q⟩ := I2.cell x c (hsub x c z)
      exact ⟨v, q.keeps old⟩
    · show upd H2 s2.heap.objs.size (.lst []) Hl.objs.size = none
      rw [upd_ne (Ne.symm nDC)]
      exact fC
    · obtain ⟨v, q⟩ := I2.cell x c (hsub x c z)
      rw [upd_ne (Nat.ne_of_lt q.lt)]
      exact I2.freeC x c (hsub x c z)
    · exact absurd (show p ∈ ([] : List (Addr × Obj)) from hp) (by simp)
    · show (src.map _).length = N'.length
      rw [List.length_map]
      exact b5
  have stat : ∀ {H' : Hp}, (∀ b ∈ fp, H' b = none) → ∀ b ∈ fp, FpOk (X.blk N' sc cl Hl.objs.size s2 H2 fp) [] H' b := fun hn b hb =>
    ⟨hn b hb, (ok.exf b hb).1, ok.exfs b hb, .inl hb, (ok.exf b hb).2, fun p hp => absurd (show p ∈ ([] : List (Addr × Obj)) from hp) (by simp)⟩
  have loop : codeAny (model X.prog X.w) X.A (.compLoop (.ListComp elt [⟨tg, iter, ifs, 0⟩] sc pos) 0 (.ref it) (.ref s2.heap.objs.size) (compEnvC sc cl Hl.objs.size X.env))
      (RR (.ref s2.heap.objs.size) Hl.objs.size) { s2 with heap := h₁, toks := s2.toks + ([] : List (Str × Value)).length } := by
    refine GX.compLoop_go (fun n s' => ∃ i σ' H', Inv (X.blk N' sc cl Hl.objs.size s2 H2 fp) [] σ' H' s' ∧ tn i s'.heap ∧ (∀ b ∈ fp, H' b = none) ∧ W i n σ' H') ?_ m0
      ⟨0, _, _, IY, T.keep 0 _ _ st2 (fun b _ o z => old b o z), fun b hb => ?_, w0⟩
    · rintro n s3 ⟨i, σ3, H3, I3, st3, fr3, w3⟩
      rcases turn i n σ3 H3 w3 with ⟨stop, qn⟩ | ⟨go, N, hN, step⟩
      · refine wpAny_bind (thn (T.done (X.blk N' sc cl Hl.objs.size s2 H2 fp) rfl rfl rfl hc i [] s3 σ3 H3 (fun _ _ => False) I3 (stat fr3) st3 stop) fun r s4 ⟨hr, I4⟩ => ?_)
        subst hr
        exact wpAny_pure <| fin _ s4 σ3 H3 (by rw [hC]; exact Nat.le_succ _) I4 qn
      · refine wpAny_bind (thn (T.item (X.blk N' sc cl Hl.objs.size s2 H2 fp) rfl rfl rfl hc i [] s3 σ3 H3 (fun _ _ => False) I3 (stat fr3) st3 go) fun r s4 ⟨u, hr, h4⟩ => ?_)
        subst hr
        refine wpAny_bind (thn h4 fun _ s5 ⟨x, H5, I5, r5, y5, st5, fr5⟩ => ?_)
        have I5' := I5.pinned (stat fr5) (T.obj _ _ st5)
        have again : ∀ {σ7 : St} {H7 : Hp} {s7 : Shared}, Inv (X.blk N' sc cl Hl.objs.size s2 H2 fp) ([] ++ pinsAt fp s5.heap) σ7 H7 s7 → N σ7 H7 →
            ∃ m, m < n ∧ ∃ i σ' H', Inv (X.blk N' sc cl Hl.objs.size s2 H2 fp) [] σ' H' s7 ∧ tn i s7.heap ∧ (∀ b ∈ fp, H' b = none) ∧ W i m σ' H' := fun {σ7 H7 s7} I7 n7 => by
          obtain ⟨m', hm, w7⟩ := hN σ7 H7 n7
          refine ⟨m', hm, i + 1, σ7, H7, I7.unpinned, T.keep _ _ _ st5 fun b hb o z => (I7.pin (b, o) (List.mem_append_right _ (List.mem_append_right _ (mem_pinsAt hb z)))).1, fun b hb => ?_, w7⟩
          obtain ⟨o, z, _⟩ := T.obj _ _ st5 b hb
          exact (I7.pin (b, o) (List.mem_append_right _ (List.mem_append_right _ (mem_pinsAt hb z)))).2.1
        refine wpAny_bind (thn (hg cl Hl.objs.size s2 H2 fp b4 _ s5 σ3 H5 x u _ I5' r5 (step x H5 y5)) fun _ s6 ⟨σ6, H6, I6, q6⟩ => ?_)
        refine wpAny_bind (thn (ht cl Hl.objs.size s2 H2 fp _ s6 σ6 H6 _ I6 q6) fun ok s7 ⟨H7, I7, q7⟩ => ?_)
        cases ok with
        | true =>
          rw [if_pos rfl] at q7 ⊢
          refine wpAny_bind (thn (he cl Hl.objs.size s2 H2 fp _ s7 σ6 H7 _ I7 q7) fun yv s8 ⟨y, H8, I8, r8, ys, hD, hz, n8⟩ => ?_)
          exact wpAny_bind <| thn (mt_append (X := X.blk N' sc cl Hl.objs.size s2 H2 fp) _ s8 σ6 H8 (.ref s2.heap.objs.size) [y] (.ref s2.heap.objs.size) [yv] (fun _ H' => N σ6 H') I8 rfl (.cons r8 .nil) ⟨_, ys, y, rfl, rfl, hD, hz, n8⟩)
            fun _ s9 ⟨_, H9, I9, _, n9⟩ => wpAny_pure (again I9 n9)
        | false =>
          rw [if_neg Bool.false_ne_true] at q7 ⊢
          exact wpAny_pure (again I7 q7)
    · obtain ⟨o, z, _⟩ := T.obj 0 _ st2 b hb
      rw [upd_ne (Nat.ne_of_lt (Heap.lt_size z))]
      exact (f2 b hb).1
  exact codeAny_compStart_list loop (T.self X.A 0 _ _ _ (T.keep 0 _ _ st2 (fun b _ o z => old b o z)) loop)
theorem pe_comp {X : Cx} {elt tg iter : Expr} {ifs : List Expr} {sc : Scope} {pos : Pos} {wi : TI} {g : TG} {tt : TT} {te : TE} (N' : List Str) (src : List (Option Nat))
    (hc : X.calm = true) (hk : sc.kind = .function) (hB : decide (BlkP X.N N' src X.env.scope sc) = true) (hi : PI X tg iter wi)
    (hg : ∀ cl C s2 H2 fp, N'.Nodup → PG (X.blk N' sc cl C s2 H2 fp) tg g)
    (ht : ∀ cl C s2 H2 fp, PIf (X.blk N' sc cl C s2 H2 fp) ifs tt)
    (he : ∀ cl C s2 H2 fp, PE (X.blk N' sc cl C s2 H2 fp) elt te)
    (hs : ∀ x, foldedSetIterable iter X.env x = pure x := by intro _; rfl) :
    PE X (.ListComp elt [⟨tg, iter, ifs, 0⟩] sc pos) (tComp src wi g tt te) := by
  intro pins s σ H Q I h
  have B := of_decide_eq_true hB
  obtain ⟨cl, hclos, hsub, hhas⟩ := GX.closure_ok (env := X.env) (sc := sc) fun y hy hf => I.ok.has y.1 (B.2.2.1 y hy hf)
  rw [eval_ListComp]
  refine wpAny_comprehension_free (use := none) rfl hs hclos hk B.2.1 (thn (hi pins s σ H _ I h) fun v s1 h1 => thn h1 fun itv s2 h2 => ?_)
  obtain ⟨it, fp, tn, J, H2, e, I2, T, st2, f2, q⟩ := h2
  subst e
  obtain ⟨W, ⟨m0, w0⟩, turn⟩ := q s2.heap.objs.size (I2.hok.fresh (Nat.le_refl _))
  refine comp_core (RR := fun acc C => compPost (model X.prog X.w) X.A X.xe none (EP X pins σ Q) acc C) (Qe := fun H' => Q (.ref s2.heap.objs.size) H') hc hk B hsub hhas hg ht he I2 T st2 f2 w0 turn fun C s4 σ3 H3 hC I4 qn => ?_
  obtain ⟨m, hn, _⟩ := I4.loc
  refine ⟨m, hn, fun h' sb => ⟨.ref s2.heap.objs.size, H3, ?_, rfl, qn⟩⟩
  exact I2.call' (s' := { s4 with heap := h' }) (ch := fp) I4.os (I4.base.but sb (Heap.get?_none_of_le hC)) (I4.hok.but sb I4.free) I4.bare fun b hb => ⟨(f2 b hb).2.2.2.1, (f2 b hb).2.1, (f2 b hb).2.2.2.2.1, (f2 b hb).2.2.2.2.2⟩
theorem comp_list {K : PySem.W.Frag} {a : Addr} {xs : List V} {g : TG} {tt : TT} {te : TE} {σ : St} {H : Hp} {D : Addr} {Qe : Hp → Prop} (Pv : Nat → St → Hp → Prop) (h0 : Pv 0 σ H) (hl : ∀ i σ H, i ≤ xs.length → Pv i σ H → SqL K H a xs)
    (hs : ∀ i x σ H, xs[i]? = some x → Pv i σ H → cTurn g tt te D (Pv (i + 1)) x σ H) (hd : ∀ σ H, Pv xs.length σ H → Qe H) :
    ∃ W : Nat → Nat → St → Hp → Prop, (∃ m, W 0 m σ H) ∧ ∀ i m σ' H', W i m σ' H' → ((Itl K a).stop i H' ∧ Qe H') ∨ ((Itl K a).go i H' ∧ ∃ N : St → Hp → Prop, (∀ σ2 H2, N σ2 H2 → ∃ m', m' < m ∧ W (i + 1) m' σ2 H2) ∧
      ∀ x H'', (Itl K a).yld i H' x H'' → cTurn g tt te D N x σ' H'') := by
  refine ⟨fun i m σ H => m = xs.length - i ∧ i ≤ xs.length ∧ Pv i σ H, ⟨xs.length, by simp, Nat.zero_le _, h0⟩, ?_⟩
  rintro i m σ H ⟨rfl, hi, p⟩
  have q := hl i σ H hi p
  by_cases hlt : i < xs.length
  · refine .inr ⟨⟨xs, xs[i], q, by simp [hlt]⟩, Pv (i + 1), fun σ' H' p' => ⟨xs.length - (i + 1), by omega, rfl, hlt, p'⟩, fun x H' y => ?_⟩
    obtain ⟨e, y⟩ := y
    subst e
    exact hs i x σ _ (y xs q) p
  · have e : i = xs.length := by omega
    subst e
    exact .inl ⟨⟨xs, q, Nat.le_refl _⟩, hd σ H p⟩
end L2
namespace L2
open PySem PySem.Spec PyProof.Rows
section
variable {X : Cx}
theorem call_isinst : CallR X (.builtin "isinstance") (fun xs H Q => ∃ (x : V) (t : Value) (T : String) (b : Bool), xs = [x, .ty T] ∧ TyOf X.K H x t ∧ PySem.W.kitOne X.K t (.type T) = some b ∧ Q (.bl b) H) := by
  intro pins s σ H xs us Q I r h
  obtain ⟨x, t, T, b, rfl, ty, e, q⟩ := h
  obtain ⟨u, w', rfl, r1, r2⟩ := vals2 r
  obtain rfl : w' = Value.type T := r2
  exact isinst_ok I r1 ty e fun tk => ⟨.bl b, H, I.tok tk, rfl, q⟩
end
structure Cal (K : PySem.W.Frag) (mg : Str → Option Value) (x : Str) (f : Addr) (fd : FuncData) (ps : List Str) : Prop where
  mg : mg x = some (.ref f)
  kp : PySem.W.keepIn K (.ref f) = true
  bd : Binds K fd ps []
theorem pcall {X : Cx} {k : Nat} {f : Addr} {fd : FuncData} {ps : List Str} {sp : Sp} {x : Str} {e : Expr} {es : List Expr} {t : TA} {p pos : Pos} (F : FnOk X.prog X.w X.K X.mg X.base CX0 k f fd ps sp) (c : Cal X.K X.mg x f fd ps) (hr : Room k X.A) (ha : PA X (e :: es) t)
    (hg : Gl X x := by rfl) (hdb : (x == ("__debug__" : Str)) = false := by decide) (he : starEach (e :: es) X.env = (false, eval e X.env) :: starEach es X.env := by rfl) (hpl : (backTo pos (starEach es X.env)).any (·.1) = false := by rfl) :
    PE X (.Call (.Name x p) (e :: es) [] pos) (tCall sp [] E0 t) := pe_call F hr hg c.mg c.kp c.bd .nil pass0 ha hdb he hpl
theorem pe_type {X : Cx} {x : Str} {T : String} {pos : Pos} (hm : X.mg x = none) (hv : bootBuiltins x = some (.type T)) (hg : Gl X x := by rfl) (hn : x ≠ "__name__" := by decide) (hdb : (x == ("__debug__" : Str)) = false := by decide) : PE X (.Name x pos) (tC (.ty T)) :=
  pe_bltn hg hm hv rfl hn hdb
def tTru (K : PySem.W.Frag) (t : TE) : TT := fun σ H Q => t σ H fun x H' => ∃ k, TruV K x H' k ∧ Q k H'
theorem pt_callK {X : Cx} (K : PySem.W.Frag) {f : Expr} {es : List Expr} {kws : List Keyword} {pos : Pos} {t : TE} (hK : X.K = K) (h : PE X (.Call f es kws pos) t) : PT X (.Call f es kws pos) (tTru K t) := by
  subst hK
  exact pt_truth h fun _ => rfl
end L2
namespace L2
open PySem PySem.Spec PyProof.Rows
def dI (m : List (Int × Int)) : List (Key × V) := m.map fun p => (Sum.inl p.1, V.int p.2)
def lkI : List (Int × Int) → Int → Option Int
  | [], _ => none
  | p :: m, k => if p.1 = k then some p.2 else lkI m k
def putI : List (Int × Int) → Int → Int → List (Int × Int)
  | [], k, v => [(k, v)]
  | p :: m, k, v => if p.1 = k then (p.1, v) :: m else p :: putI m k v
theorem put_keys : ∀ (m : List (Int × Int)) (k v x : Int), x ∈ (putI m k v).map (·.1) ↔ x = k ∨ x ∈ m.map (·.1)
  | [], k, v, x => by simp [putI]
  | p :: m, k, v, x => by
    show x ∈ (if p.1 = k then (p.1, v) :: m else p :: putI m k v).map (·.1) ↔ _
    by_cases e : p.1 = k
    · rw [if_pos e]
      simp only [List.map_cons, List.mem_cons]
      constructor
      · exact fun h => .inr h
      · rintro (h | h)
        · exact .inl (h.trans e.symm)
        · exact h
    · rw [if_neg e]
      simp only [List.map_cons, List.mem_cons]
      have := put_keys m k v x
      constructor
      · rintro (h | h)
        · exact .inr (.inl h)
        · rcases this.mp h with h | h
          · exact .inl h
          · exact .inr (.inr h)
      · rintro (h | h | h)
        · exact .inr (this.mpr (.inl h))
        · exact .inl h
        · exact .inr (this.mpr (.inr h))
theorem put_nd : ∀ (m : List (Int × Int)) (k v : Int), (m.map (·.1)).Nodup → ((putI m k v).map (·.1)).Nodup
  | [], k, v, _ => by simp [putI]
  | p :: m, k, v, h => by
    show ((if p.1 = k then (p.1, v) :: m else p :: putI m k v).map (·.1)).Nodup
    rw [List.map_cons, List.nodup_cons] at h
    by_cases e : p.1 = k
    · rw [if_pos e, List.map_cons, List.nodup_cons]
      exact h
    · rw [if_neg e, List.map_cons, List.nodup_cons]
      refine ⟨fun z => ?_, put_nd m k v h.2⟩
      rcases (put_keys m k v p.1).mp z with z | z
      · exact e z
      · exact h.1 z
theorem put_vals : ∀ (m : List (Int × Int)) (k v : Int) (p : Int × Int), p ∈ putI m k v → p = (k, v) ∨ p ∈ m
  | [], k, v, p, h => .inl (by simpa [putI] using h)
  | q :: m, k, v, p, h => by
    have h' : p ∈ (if q.1 = k then (q.1, v) :: m else q :: putI m k v) := h
    by_cases e : q.1 = k
    · rw [if_pos e] at h'
      rcases List.mem_cons.mp h' with z | z
      · exact .inl (by rw [z, e])
      · exact .inr (List.mem_cons_of_mem _ z)
    · rw [if_neg e] at h'
      rcases List.mem_cons.mp h' with z | z
      · exact .inr (by rw [z]; exact List.mem_cons_self)
      · rcases put_vals m k v p z with z | z
        · exact .inl z
        · exact .inr (List.mem_cons_of_mem _ z)
theorem lk_mem : ∀ {m : List (Int × Int)} {k v : Int}, lkI m k = some v → (k, v) ∈ m
  | [], _, _, h => by cases h
  | p :: m, k, v, h => by
    have h' : (if p.1 = k then some p.2 else lkI m k) = some v := h
    by_cases e : p.1 = k
    · rw [if_pos e] at h'
      have : p = (k, v) := by rw [← e, ← Option.some.inj h']
      rw [this]
      exact List.mem_cons_self
    · rw [if_neg e] at h'
      exact List.mem_cons_of_mem _ (lk_mem h')
theorem lk_of : ∀ {m : List (Int × Int)} {k v : Int}, (m.map (·.1)).Nodup → (k, v) ∈ m → lkI m k = some v
  | [], _, _, _, h => by cases h
  | p :: m, k, v, nd, h => by
    rw [List.map_cons, List.nodup_cons] at nd
    show (if p.1 = k then some p.2 else lkI m k) = some v
    rcases List.mem_cons.mp h with z | z
    · rw [← z, if_pos rfl]
    · rw [if_neg (fun e => nd.1 (by rw [e]; exact List.mem_map_of_mem (f := (·.1)) z)), lk_of nd.2 z]
theorem lk_none {m : List (Int × Int)} {k : Int} (h : k ∉ m.map (·.1)) : lkI m k = none := by
  cases e : lkI m k with
  | none => rfl
  | some v => exact absurd (List.mem_map_of_mem (f := (·.1)) (lk_mem e)) h
theorem lk_some {m : List (Int × Int)} {k : Int} (h : k ∈ m.map (·.1)) : ∃ v, lkI m k = some v := by
  cases e : lkI m k with
  | some v => exact ⟨v, rfl⟩
  | none =>
    exfalso
    induction m with
    | nil => cases h
    | cons p m ih =>
      have e' : (if p.1 = k then some p.2 else lkI m k) = none := e
      by_cases z : p.1 = k
      · rw [if_pos z] at e'; cases e'
      · rw [if_neg z] at e'
        rw [List.map_cons] at h
        rcases List.mem_cons.mp h with q | q
        · exact z q.symm
        · exact ih q e'
def ct (m : List (Int × Int)) (k : Int) : Int := (lkI m k).getD 0
section
variable {X : Cx}
def Pr (H : Hp) (x : V) (p : Int × Int) : Prop := ∃ a, x = .ref a ∧ H a = some (.tup [.int p.1, .int p.2])
abbrev Prs (H : Hp) : List V → List (Int × Int) → Prop := Paired (Pr H)
theorem Prs.snoc {H : Hp} {x : V} {p : Int × Int} : ∀ {xs : List V} {ps : List (Int × Int)}, Prs H xs ps → Pr H x p → Prs H (xs ++ [x]) (ps ++ [p])
  | _, _, .nil, h => .cons h .nil
  | _, _, .cons r t, h => .cons r (Prs.snoc t h)
theorem Prs.get {H : Hp} : ∀ {xs : List V} {ps : List (Int × Int)} {i : Nat} {x : V}, Prs H xs ps → xs[i]? = some x → ∃ p, ps[i]? = some p ∧ Pr H x p
  | _, _, _, _, .nil, e => by simp at e
  | _, _, 0, _, .cons r _, e => by simp at e; subst e; exact ⟨_, rfl, r⟩
  | _, _, i + 1, x, .cons _ t, e => by
    obtain ⟨p, h1, h2⟩ := Prs.get (i := i) (x := x) t (by simpa using e)
    exact ⟨p, by simpa using h1, h2⟩
theorem Prs.at {H : Hp} : ∀ {xs : List V} {ps : List (Int × Int)} {i : Nat} {p : Int × Int}, Prs H xs ps → ps[i]? = some p → ∃ x, xs[i]? = some x ∧ Pr H x p
  | _, _, _, _, .nil, e => by simp at e
  | _, _, 0, _, .cons r _, e => by simp at e; subst e; exact ⟨_, rfl, r⟩
  | _, _, i + 1, p, .cons _ t, e => by
    obtain ⟨x, h1, h2⟩ := Prs.at (i := i) (p := p) t (by simpa using e)
    exact ⟨x, by simpa using h1, h2⟩
theorem Prs.len {H : Hp} {xs : List V} {ps : List (Int × Int)} (r : Prs H xs ps) : xs.length = ps.length := Paired.length r
end
end L2
namespace L2
open PySem PySem.Spec PyProof.Rows
section
variable {X : Cx}
end
theorem comp_tup {K : PySem.W.Frag} {a : Addr} {xs : List V} {g : TG} {tt : TT} {te : TE} {σ : St} {H : Hp} {D : Addr} {Qe : Hp → Prop} (Pv : Nat → St → Hp → Prop) (h0 : Pv 0 σ H) (hl : ∀ i σ H, i ≤ xs.length → Pv i σ H → SqT K H a xs)
    (hs : ∀ i x σ H, xs[i]? = some x → Pv i σ H → cTurn g tt te D (Pv (i + 1)) x σ H) (hd : ∀ σ H, Pv xs.length σ H → Qe H) :
    ∃ W : Nat → Nat → St → Hp → Prop, (∃ m, W 0 m σ H) ∧ ∀ i m σ' H', W i m σ' H' → ((Itt K a).stop i H' ∧ Qe H') ∨ ((Itt K a).go i H' ∧ ∃ N : St → Hp → Prop, (∀ σ2 H2, N σ2 H2 → ∃ m', m' < m ∧ W (i + 1) m' σ2 H2) ∧
      ∀ x H'', (Itt K a).yld i H' x H'' → cTurn g tt te D N x σ' H'') := by
  refine ⟨fun i m σ H => m = xs.length - i ∧ i ≤ xs.length ∧ Pv i σ H, ⟨xs.length, by simp, Nat.zero_le _, h0⟩, ?_⟩
  rintro i m σ H ⟨rfl, hi, p⟩
  have q := hl i σ H hi p
  by_cases hlt : i < xs.length
  · refine .inr ⟨⟨xs, xs[i], q, by simp [hlt]⟩, Pv (i + 1), fun σ' H' p' => ⟨xs.length - (i + 1), by omega, rfl, hlt, p'⟩, fun x H' y => ?_⟩
    obtain ⟨e, y⟩ := y
    subst e
    exact hs i x σ _ (y xs q) p
  · have e : i = xs.length := by omega
    subst e
    exact .inl ⟨⟨xs, q, Nat.le_refl _⟩, hd σ H p⟩
theorem KV.get {kvs : List (Key × V)} {vs : List (Key × Value)} : ∀ {i : Nat} {k : Key} {v : V}, KV kvs vs → kvs[i]? = some (k, v) → ∃ u, vs[i]? = some (k, u) ∧ RelV v u := by
  intro i k v r
  induction r generalizing i with
  | nil => intro e; simp at e
  | cons r1 r2 ih =>
    rename_i p q _ _
    intro e
    cases i with
    | zero =>
      have e' : p = (k, v) := Option.some.inj e
      subst e'
      obtain ⟨k', u⟩ := q
      have ek : k = k' := r1.1
      subst ek
      exact ⟨u, rfl, r1.2⟩
    | succ i => exact ih e
section
variable {X : Cx}
end
end L2
set_option Elab.async false
set_option linter.all false
set_option maxRecDepth 100000
namespace GX
open PySem PyProof.Rows
def Ris (xs : Array Nat) : Prop := xs.toList.Pairwise (· < ·)
theorem Ris.at {xs : Array Nat} (h : Ris xs) {i j : Nat} (hi : i < j) (hj : j < xs.size) : xs.getD i 0 < xs.getD j 0 := by
  have := List.pairwise_iff_getElem.mp h i j (by simp; omega) (by simpa using hj) hi
  simp only [Array.getElem_toList] at this
  rw [Array.getD_eq_getD_getElem?, Array.getD_eq_getD_getElem?, Array.getElem?_eq_getElem (by omega), Array.getElem?_eq_getElem hj]
  exact this
theorem getD_any {xs : Array Nat} {i : Nat} (h : i < xs.size) (a b : Nat) : xs.getD i a = xs.getD i b := by
  rw [Array.getD_eq_getD_getElem?, Array.getD_eq_getD_getElem?, Array.getElem?_eq_getElem h]
  rfl
theorem below_go {xs : Array Nat} (hr : Ris xs) (j : Nat) : ∀ (fuel lo hi : Nat), lo ≤ hi → hi ≤ xs.size → hi - lo ≤ fuel → (∀ i, i < lo → xs.getD i 0 < j) → (∀ i, hi ≤ i → i < xs.size → j ≤ xs.getD i 0) →
    SetTable.below.go xs j fuel lo hi ≤ xs.size ∧ (∀ i, i < SetTable.below.go xs j fuel lo hi → xs.getD i 0 < j) ∧ (∀ i, SetTable.below.go xs j fuel lo hi ≤ i → i < xs.size → j ≤ xs.getD i 0)
  | 0, lo, hi, h1, h2, h3, h4, h5 => by
    have e : lo = hi := by omega
    subst e
    unfold SetTable.below.go
    exact ⟨h2, h4, h5⟩
  | fuel + 1, lo, hi, h1, h2, h3, h4, h5 => by
    unfold SetTable.below.go
    by_cases h : lo < hi
    · rw [if_pos h]
      have hm : (lo + hi) / 2 < xs.size := by omega
      show (if xs.getD ((lo + hi) / 2) j < j then SetTable.below.go xs j fuel ((lo + hi) / 2 + 1) hi else SetTable.below.go xs j fuel lo ((lo + hi) / 2)) ≤ _ ∧ _
      by_cases hc : xs.getD ((lo + hi) / 2) j < j
      · simp only [if_pos hc]
        rw [getD_any hm j 0] at hc
        refine below_go hr j fuel _ hi (by omega) h2 (by omega) (fun i hi' => ?_) h5
        rcases Nat.lt_or_ge i ((lo + hi) / 2) with z | z
        · have := hr.at z hm
          omega
        · have : i = (lo + hi) / 2 := by omega
          rw [this]
          exact hc
      · simp only [if_neg hc]
        rw [getD_any hm j 0] at hc
        refine below_go hr j fuel lo _ (by omega) (by omega) (by omega) h4 (fun i hi' hs => ?_)
        rcases Nat.lt_or_ge ((lo + hi) / 2) i with z | z
        · have := hr.at z hs
          omega
        · have : i = (lo + hi) / 2 := by omega
          rw [this]
          omega
    · rw [if_neg h]
      have e : lo = hi := by omega
      subst e
      exact ⟨h2, h4, h5⟩
theorem below_ok {xs : Array Nat} (hr : Ris xs) (j : Nat) : SetTable.below xs j ≤ xs.size ∧ (∀ i, i < SetTable.below xs j → xs.getD i 0 < j) ∧ (∀ i, SetTable.below xs j ≤ i → i < xs.size → j ≤ xs.getD i 0) := by
  unfold SetTable.below
  exact below_go hr j _ 0 _ (Nat.zero_le _) (Nat.le_refl _) (by omega) (fun i h => by omega) (fun i h1 h2 => by omega)
def Off (xs : Array Nat) (d : Nat) : Prop := xs[SetTable.below xs d]? ≠ some d
theorem Off.no {xs : Array Nat} (hr : Ris xs) {d : Nat} (h : Off xs d) : ∀ i, i < xs.size → xs.getD i 0 ≠ d := by
  intro i hi e
  obtain ⟨h1, h2, h3⟩ := below_ok hr d
  have b1 : SetTable.below xs d ≤ i := by
    rcases Nat.lt_or_ge i (SetTable.below xs d) with z | z
    · have := h2 i z
      omega
    · exact z
  have b2 : SetTable.below xs d = i := by
    rcases Nat.lt_or_ge (SetTable.below xs d) i with z | z
    · have := hr.at z hi
      have := h3 (SetTable.below xs d) (Nat.le_refl _) (by omega)
      omega
    · omega
  apply h
  rw [b2, Array.getElem?_eq_getElem hi]
  rw [Array.getD_eq_getD_getElem?, Array.getElem?_eq_getElem hi] at e
  exact congrArg some e
theorem slot_off {t : SetTable} {j : Nat} (h : ∀ i, t.slot j ≠ .live i) : Off t.place j := by
  intro z
  apply h (SetTable.below t.place j)
  unfold SetTable.slot
  simp only [z, beq_self_eq_true, if_true]
theorem adv_dummy (t : SetTable) (p : SetTable.Probe) : (t.advance p).dummy = p.dummy := by
  unfold SetTable.advance
  split <;> rfl
theorem probe_off {t : SetTable} {f : Nat → Int} {h : Int} : ∀ (fuel : Nat) (p : SetTable.Probe) (j : Nat) (dm : Option Nat), (∀ d, p.dummy = some d → Off t.place d) → SetTable.probe.go t f h fuel p = some (.empty j dm) → Off t.place j ∧ ∀ d, dm = some d → Off t.place d
  | 0, p, j, dm, hp, e => by
    unfold SetTable.probe.go at e
    cases e
  | fuel + 1, p, j, dm, hp, e => by
    unfold SetTable.probe.go at e
    cases hs : t.slot p.j with
    | empty =>
      rw [hs] at e
      dsimp only at e
      cases e
      exact ⟨slot_off (fun i z => by rw [hs] at z; cases z), hp⟩
    | dummy =>
      rw [hs] at e
      dsimp only at e
      refine probe_off fuel _ j dm (fun d hd => ?_) e
      rw [adv_dummy] at hd
      cases hd
      exact slot_off (fun i z => by rw [hs] at z; cases z)
    | live i =>
      rw [hs] at e
      dsimp only at e
      split at e
      · cases e
      · exact probe_off fuel _ j dm (fun d hd => hp d (by rw [adv_dummy] at hd; exact hd)) e
theorem free_off {t : SetTable} {h : Int} {sl : Nat} {b : Bool} (e : t.freeSlot h = some (sl, b)) : Off t.place sl := by
  unfold SetTable.freeSlot SetTable.probe at e
  generalize hg : SetTable.probe.go t (fun _ => h + 1) h (10 * SetTable.turns t.mask) (t.probeStart h) = g at e
  cases g with
  | none => cases e
  | some m =>
    cases m with
    | candidate j i n => cases e
    | empty j dm =>
      obtain ⟨h1, h2⟩ := probe_off _ _ j dm (fun d hd => by cases hd) hg
      dsimp only at e
      have e' := Option.some.inj e
      cases dm with
      | none =>
        have : j = sl := congrArg Prod.fst e'
        rw [← this]
        exact h1
      | some d =>
        have : d = sl := congrArg Prod.fst e'
        rw [← this]
        exact h2 d rfl
theorem mem_getD {xs : Array Nat} {x : Nat} {p : Nat} (h : x ∈ xs.toList.take p) : ∃ i, i < p ∧ i < xs.size ∧ xs.getD i 0 = x := by
  obtain ⟨i, hi, e⟩ := List.getElem_of_mem h
  rw [List.length_take, Array.length_toList] at hi
  refine ⟨i, by omega, by omega, ?_⟩
  rw [List.getElem_take, Array.getElem_toList] at e
  rw [Array.getD_eq_getD_getElem?, Array.getElem?_eq_getElem (by omega)]
  exact e
theorem mem_getD' {xs : Array Nat} {x : Nat} {p : Nat} (h : x ∈ xs.toList.drop p) : ∃ i, p ≤ i ∧ i < xs.size ∧ xs.getD i 0 = x := by
  obtain ⟨i, hi, e⟩ := List.getElem_of_mem h
  rw [List.length_drop, Array.length_toList] at hi
  refine ⟨p + i, by omega, by omega, ?_⟩
  rw [List.getElem_drop, Array.getElem_toList] at e
  rw [Array.getD_eq_getD_getElem?, Array.getElem?_eq_getElem (by omega)]
  exact e
theorem put_ris {t : SetTable} {sl : Nat} (hr : Ris t.place) (ho : Off t.place sl) : Ris (t.put sl).1.place := by
  obtain ⟨h1, h2, h3⟩ := below_ok hr sl
  show (SetTable.insertAt t.place (SetTable.below t.place sl) sl).toList.Pairwise (· < ·)
  rw [SetTable.toList_insertAt, List.pairwise_append]
  refine ⟨hr.sublist (List.take_sublist _ _), ?_, ?_⟩
  · rw [List.pairwise_cons]
    refine ⟨fun x hx => ?_, hr.sublist (List.drop_sublist _ _)⟩
    obtain ⟨i, a, b, c⟩ := mem_getD' hx
    have q1 := h3 i a b
    have q2 := ho.no hr i b
    omega
  · intro x hx y hy
    obtain ⟨i, a, b, c⟩ := mem_getD hx
    have q1 := h2 i a
    rcases List.mem_cons.mp hy with z | z
    · omega
    · obtain ⟨i', a', b', c'⟩ := mem_getD' z
      have q2 := h3 i' a' b'
      omega
theorem stand_ris (t : SetTable) (n : Nat) : Ris (t.standIn n).place := by
  show (Array.range n).toList.Pairwise (· < ·)
  rw [Array.toList_range]
  exact List.pairwise_lt_range
def Tb (b : Bool) (t : SetTable) : Prop := Ris t.place ∧ t.led = b
theorem lay_tb {b : Bool} {t : SetTable} (h : Tb b t) (es : Array (Int × Value)) (k : Int) (x : Value) : Tb b (layNew t es k x).2.1 := by
  unfold layNew
  split
  · rename_i sl wd e
    dsimp only
    unfold SetTable.orStandIn
    split
    · exact ⟨put_ris h.1 (free_off e), h.2⟩
    · exact ⟨stand_ris _ _, h.2⟩
  · exact ⟨stand_ris _ _, h.2⟩
end GX
set_option Elab.async false
set_option linter.all false
set_option maxRecDepth 100000
namespace GX
open PySem PyProof.Rows
abbrev byT (w : World) : Bool := w.params.followText "set-order"
section
variable {prog : Program} {w : World} {A : Around} {E : Value → Shared → Prop} {s : Shared}
def SetI (prog : Program) (w : World) (h : Heap) (a : Addr) (S : Int → Bool) (n : Nat) : Prop :=
  ∃ o es ep t, h.get? a = some o ∧ o.ExactSet ∧ o.data = .set es ep t ∧ ElemsOf (intKind prog w) es.toList ∧ (∀ k, S k = true ↔ ∃ e ∈ es.toList, (intKind prog w).is k e.2 = true) ∧ es.size < scanBound ∧ t.fits es.size = true ∧ es.size = n ∧ Tb (!byT w) t
theorem SetI.at {h h' : Heap} {a : Addr} {S : Int → Bool} {n : Nat} (x : SetI prog w h a S n) (k : ∀ o, h.get? a = some o → h'.get? a = some o) : SetI prog w h' a S n := by
  obtain ⟨o, es, ep, t, ho, r⟩ := x
  exact ⟨o, es, ep, t, k o ho, r⟩
theorem SetI.congr {h : Heap} {a : Addr} {S S' : Int → Bool} {n n' : Nat} (x : SetI prog w h a S n) (e : ∀ k, S k = S' k) (en : n = n') : SetI prog w h a S' n' := by
  have z : S = S' := funext e
  rw [← z, ← en]
  exact x
def GoodS (prog : Program) (w : World) (es : Array (Int × Value)) (t : SetTable) (S : Int → Bool) (n : Nat) : Prop :=
  ElemsOf (intKind prog w) es.toList ∧ (∀ k, S k = true ↔ ∃ e ∈ es.toList, (intKind prog w).is k e.2 = true) ∧ es.size < scanBound ∧ t.fits es.size = true ∧ es.size = n ∧ Tb (!byT w) t
def RawS (h : Heap) (a : Addr) (es : Array (Int × Value)) (t : SetTable) : Prop := ∃ o ep, h.get? a = some o ∧ o.ExactSet ∧ o.data = .set es ep t
theorem RawS.put {a : Addr} {es es' : Array (Int × Value)} {t t' : SetTable} {Q : Unit → Shared → Prop} (r : RawS s.heap a es t) (hz : es'.size < scanBound) (h : ∀ h', Heap.SameBut a s.heap h' → RawS h' a es' t' → Q () { s with heap := h' }) :
    wpAny (model prog w) A (storeSet a es' t') Q E s := by
  obtain ⟨⟨c, d, b, sl⟩, ep, ho, hx, hd⟩ := r
  cases hd
  exact wpAny_storeSet_of ho rfl (h _ (Heap.SameBut.update ..) ⟨_, ep + 1, Heap.get?_update_self _ ho rfl, hx, rfl⟩) (fits_of_scanBound hz)
theorem GoodS.more {es : Array (Int × Value)} {t : SetTable} {S : Int → Bool} {n : Nat} {k : Int} {x : Value} (g : GoodS prog w es t S n) (hk : (intKind prog w).is k x = true) (hx : x.scannable = true) (room : n + 1 < scanBound) :
    GoodS prog w (layNew t es ((intKind prog w).hash k) x).1 (layNew t es ((intKind prog w).hash k) x).2.1 (fun k' => S k' || decide (k' = k)) (n + 1) := by
  obtain ⟨g1, g2, g3, _, g5, g6⟩ := g
  have p : List.Perm _ (es.push ((intKind prog w).hash k, x)).toList := layNew_perm t es ((intKind prog w).hash k) x
  rw [Array.toList_push] at p
  have z : (layNew t es ((intKind prog w).hash k) x).1.size = n + 1 := by simpa [g5] using p.length_eq
  exact ⟨(g1.push hk hx).perm p, mem_push_iff hk g2 p, z ▸ room, layNew_fits t es _ x, z, lay_tb g6 es _ x⟩
end
end GX
set_option Elab.async false
set_option linter.all false
set_option maxRecDepth 100000
namespace GX
open PySem PyProof.Rows
section
variable {prog : Program} {w : World} {A : Around} {E : Value → Shared → Prop} {s : Shared} {I : Addr} {fp wr : List Addr} {N : Nat} {P : Nat → Value → Prop} {St : Nat → Heap → Prop}
end
end GX
namespace L2
open PySem PySem.Spec PyProof.Rows
section
variable {X : Cx}
theorem ints_items : ∀ {vs : List Value} {ns : List Int}, IntsAre vs ns → ∃ ps : List (Int × Tok), vs = ps.map (fun p => Value.int p.1 p.2) ∧ ps.map (·.1) = ns
  | _, _, .nil => ⟨[], rfl, rfl⟩
  | _, _, .cons n t h => by
    obtain ⟨ps, e1, e2⟩ := ints_items h
    exact ⟨(n, t) :: ps, by rw [List.map_cons, ← e1], by rw [List.map_cons, e2]⟩
theorem best_in {ps : List (Int × Tok)} {ns : List Int} (en : ps.map (·.1) = ns) {j : Nat} (hj : j < ps.length) : numAt ps.toArray j ∈ ns ∧ ∀ z ∈ ns, ∃ i, i ≤ ps.length - 1 ∧ numAt ps.toArray i = z := by
  have na : ∀ i (hi : i < ps.length), numAt ps.toArray i = (ps[i]).1 := fun i hi => by simp [numAt, hi]
  constructor
  · rw [na j hj, ← en]
    exact List.mem_map_of_mem (List.getElem_mem hj)
  · intro z hz
    rw [← en] at hz
    obtain ⟨p, hp, e⟩ := List.mem_map.mp hz
    obtain ⟨i, hi, e2⟩ := List.getElem_of_mem hp
    exact ⟨i, by omega, by rw [na i hi, e2, e]⟩
theorem call_max1 (hc : X.calm = true) : CallR X (.builtin "max") (fun xs H Q => ∃ (p : Addr) (ns : List Int), xs = [.ref p] ∧ SqL X.K H p (ns.map V.int) ∧ ns ≠ [] ∧ ∀ b, b ∈ ns → (∀ z ∈ ns, z ≤ b) → Q (.int b) H) := by
  intro pins s σ H xs us Q I r h
  obtain ⟨p, ns, rfl, hq, hne, q⟩ := h
  obtain ⟨u, rfl, rx⟩ := vals1 r
  cases rx
  obtain ⟨its, rv, pl, hz⟩ := I.list hq
  obtain ⟨ps, e1, e2⟩ := ints_items (intsAre_of rv)
  have ei : intItems ps.toArray = its.toArray := by rw [e1]; simp [intItems]
  have lp : 0 < ps.length := by
    cases ps with
    | nil => exact absurd e2.symm hne
    | cons _ _ => exact Nat.succ_pos _
  refine max_intList (xs := ps.toArray) (I.ok.hd hc) (by rw [ei]; exact pl.isList) (by rw [List.size_toArray]; exact lp) fun v h' tk hv kp => ?_
  obtain ⟨b1, b2⟩ := argBest_gt (numAt ps.toArray) (ps.toArray.size - 1)
  rw [List.size_toArray] at b1 b2 hv
  obtain ⟨t, et⟩ := intItems_at hv
  obtain ⟨m1, m2⟩ := best_in e2 (show argBest (fun i j => decide (numAt ps.toArray i > numAt ps.toArray j)) (ps.length - 1) < ps.length by omega)
  refine ⟨.int _, H, I.kept (t' := tk) kp, ⟨t, et⟩, q _ m1 fun z hz => ?_⟩
  obtain ⟨i, hi, e⟩ := m2 z hz
  rw [← e]
  exact b2 i hi
abbrev Dcs (H : Hp) : List V → List (List (Int × Int)) → Prop := Paired fun x m => ∃ d, x = .ref d ∧ Rd H d (.dK (dI m))
theorem Dcs.get {H : Hp} : ∀ {xs : List V} {ms : List (List (Int × Int))} {i : Nat} {x : V}, Dcs H xs ms → xs[i]? = some x → ∃ m, ms[i]? = some m ∧ ∃ d, x = .ref d ∧ Rd H d (.dK (dI m))
  | _, _, _, _, .nil, e => by simp at e
  | _, _, 0, _, .cons r _, e => by simp at e; subst e; exact ⟨_, rfl, r⟩
  | _, _, i + 1, x, .cons _ t, e => by
    obtain ⟨p, h1, h2⟩ := Dcs.get (i := i) (x := x) t (by simpa using e)
    exact ⟨p, by simpa using h1, h2⟩
end
end L2
set_option Elab.async false
set_option linter.all false
set_option maxRecDepth 100000
namespace L2
open PySem PySem.Spec PyProof.Rows
mutual
inductive Dp (K : PySem.W.Frag) (H : Hp) : V → PyData → Prop
  | none : Dp K H .non .none
  | bool (b : Bool) : Dp K H (.bl b) (.bool b)
  | int (i : Int) : Dp K H (.int i) (.int i)
  | str (x : Str) : Dp K H (.str x) (.str x)
  | tup {a : Addr} {xs : List V} {ds : List PyData} : SqT K H a xs → Dps K H xs ds → Dp K H (.ref a) (.tuple ds)
inductive Dps (K : PySem.W.Frag) (H : Hp) : List V → List PyData → Prop
  | nil : Dps K H [] []
  | cons {x : V} {xs : List V} {d : PyData} {ds : List PyData} : Dp K H x d → Dps K H xs ds → Dps K H (x :: xs) (d :: ds)
end
def SmT (K : PySem.W.Frag) (H H' : Hp) : Prop := ∀ a xs, SqT K H a xs → SqT K H' a xs
theorem SmT.trans {K : PySem.W.Frag} {H1 H2 H3 : Hp} (a : SmT K H1 H2) (b : SmT K H2 H3) : SmT K H1 H3 := fun _ _ h => b _ _ (a _ _ h)
theorem SmT.upd {K : PySem.W.Frag} {H : Hp} {l : Addr} {o : HO} (h1 : ∀ xs, H l ≠ some (.tup xs)) (h2 : ∀ z xs, H l ≠ some (.frz z (.tup xs))) : SmT K H (upd H l o) := by
  rintro a xs ((h | ⟨z, h⟩) | h)
  · have : a ≠ l := fun e => h1 xs (e ▸ h)
    exact .inl (.inl (by rw [upd_ne this]; exact h))
  · have : a ≠ l := fun e => h2 z xs (e ▸ h)
    exact .inl (.inr ⟨z, by rw [upd_ne this]; exact h⟩)
  · exact .inr h
theorem SmT.lst {K : PySem.W.Frag} {H : Hp} {l : Addr} {o : HO} {ys : List V} (h : H l = some (.lst ys)) : SmT K H (L2.upd H l o) := .upd (fun _ z => by rw [h] at z; cases z) (fun _ _ z => by rw [h] at z; cases z)
theorem Dps.len {K : PySem.W.Frag} {H : Hp} : ∀ {xs : List V} {ds : List PyData}, Dps K H xs ds → xs.length = ds.length
  | _, _, .nil => rfl
  | _, _, .cons _ t => by rw [List.length_cons, List.length_cons, t.len]
theorem Dps.get {K : PySem.W.Frag} {H : Hp} : ∀ {xs : List V} {ds : List PyData} {i : Nat} {x : V}, Dps K H xs ds → xs[i]? = some x → ∃ d, ds[i]? = some d ∧ Dp K H x d
  | _, _, _, _, .nil, e => by simp at e
  | _, _, 0, _, .cons r _, e => by simp at e; subst e; exact ⟨_, rfl, r⟩
  | _, _, i + 1, x, .cons _ t, e => by
    obtain ⟨p, h1, h2⟩ := Dps.get (i := i) (x := x) t (by simpa using e)
    exact ⟨p, by simpa using h1, h2⟩
theorem Dps.at {K : PySem.W.Frag} {H : Hp} : ∀ {xs : List V} {ds : List PyData} {i : Nat} {d : PyData}, Dps K H xs ds → ds[i]? = some d → ∃ x, xs[i]? = some x ∧ Dp K H x d
  | _, _, _, _, .nil, e => by simp at e
  | _, _, 0, _, .cons r _, e => by simp at e; subst e; exact ⟨_, rfl, r⟩
  | _, _, i + 1, x, .cons _ t, e => by
    obtain ⟨p, h1, h2⟩ := Dps.at (i := i) t (by simpa using e)
    exact ⟨p, by simpa using h1, h2⟩
theorem Dps.app {K : PySem.W.Frag} {H : Hp} : ∀ {xs ys : List V} {ds es : List PyData}, Dps K H xs ds → Dps K H ys es → Dps K H (xs ++ ys) (ds ++ es)
  | _, _, _, _, .nil, h => h
  | _, _, _, _, .cons h t, u => .cons h (t.app u)
theorem Dps.snoc {K : PySem.W.Frag} {H : Hp} {xs : List V} {ds : List PyData} {x : V} {d : PyData} (a : Dps K H xs ds) (b : Dp K H x d) : Dps K H (xs ++ [x]) (ds ++ [d]) := a.app (.cons b .nil)
section
variable {X : Cx} {pins : List (Addr × Obj)} {σ : St} {H : Hp} {s : Shared}
mutual
theorem Dp.reads (I : Inv X pins σ H s) : ∀ {x : V} {d : PyData} {u : Value}, Dp X.K H x d → RelV x u → ∃ as, Reads s.heap u d as
  | _, _, _, .none, r => by cases r; exact ⟨_, .none⟩
  | _, _, _, .bool b, r => by cases r; exact ⟨_, .bool b⟩
  | _, _, _, .int i, r => by obtain ⟨t, rfl⟩ := r; exact ⟨_, .int i t⟩
  | _, _, _, .str z, r => by obtain ⟨t, rfl⟩ := r; exact ⟨_, .str z t⟩
  | _, _, _, .tup h t, r => by
    cases r
    obtain ⟨its, rv, ⟨o, e, c, n, dd⟩, _⟩ := I.tuple h
    obtain ⟨as, q⟩ := Dps.reads I t rv
    exact ⟨_, .tuple e c dd (by simpa using q)⟩
theorem Dps.reads (I : Inv X pins σ H s) : ∀ {xs : List V} {ds : List PyData} {us : List Value}, Dps X.K H xs ds → Vals xs us → ∃ as, ReadsAll s.heap us ds as
  | _, _, _, .nil, r => by cases r; exact ⟨_, .nil⟩
  | _, _, _, .cons h t, r => by
    cases r with
    | cons r1 r2 =>
      obtain ⟨as, q⟩ := Dp.reads I h r1
      obtain ⟨bs, q2⟩ := Dps.reads I t r2
      exact ⟨_, .cons q q2⟩
end
def Dl (K : PySem.W.Frag) (H : Hp) (x : V) (d : PyData) : Prop := Dp K H x d ∨ ∃ a xs ds, x = .ref a ∧ d = .list ds ∧ SqL K H a xs ∧ Dps K H xs ds
theorem Dl.reads (I : Inv X pins σ H s) {x : V} {d : PyData} {u : Value} (h : Dl X.K H x d) (r : RelV x u) : ∃ as, Reads s.heap u d as := by
  rcases h with h | ⟨a, xs, ds, rfl, rfl, h, t⟩
  · exact Dp.reads I h r
  · cases r
    obtain ⟨its, rv, ⟨o, n, e, c, _, dd⟩, _⟩ := I.list h
    obtain ⟨as, q⟩ := Dps.reads I t rv
    exact ⟨_, .list e c dd (by simpa using q)⟩
def rEqP (K : PySem.W.Frag) : R2 := fun x y H Q => ∃ d e, Dl K H x d ∧ Dl K H y e ∧ d.canLay0 = true ∧ e.canLay0 = true ∧ min d.depth e.depth ≤ 60 ∧ Q (.bl (d.eqv e)) H
def rNeP (K : PySem.W.Frag) : R2 := fun x y H Q => ∃ d e, Dl K H x d ∧ Dl K H y e ∧ d.canLay0 = true ∧ e.canLay0 = true ∧ min d.depth e.depth ≤ 60 ∧ Q (.bl (!d.eqv e)) H
theorem op_eqDl (hu : X.A.units + 64 < cLine) : OpR X (compareOp .Eq) (rEqP X.K) := by
  intro pins s σ H x y v u Q I rx ry h
  obtain ⟨d, e, h1, h2, c1, c2, dp, q⟩ := h
  obtain ⟨as, r1⟩ := h1.reads I rx
  obtain ⟨bs, r2⟩ := h2.reads I ry
  exact SeqAt.compareEq_reads r1 r2 c1 c2 (by omega) ⟨.bl _, H, I, rfl, q⟩
theorem op_neDl (hu : X.A.units + 64 < cLine) : OpR X (compareOp .NotEq) (rNeP X.K) := by
  intro pins s σ H x y v u Q I rx ry h
  obtain ⟨d, e, h1, h2, c1, c2, dp, q⟩ := h
  obtain ⟨as, r1⟩ := h1.reads I rx
  obtain ⟨bs, r2⟩ := h2.reads I ry
  exact SeqAt.compareNe_reads r1 r2 c1 c2 (by omega) ⟨.bl _, H, I, rfl, q⟩
end
theorem rEqP_refl {K : PySem.W.Frag} {x y : V} {H : Hp} {Q : VK} {d : PyData} (h1 : Dl K H x d) (h2 : Dl K H y d) (c : d.canLay0 = true) (dp : d.depth ≤ 60) (q : Q (.bl true) H) : rEqP K x y H Q :=
  ⟨d, d, h1, h2, c, c, by omega, by rw [SeqAt.eqv_refl d c]; exact q⟩
theorem rNeP_refl {K : PySem.W.Frag} {x y : V} {H : Hp} {Q : VK} {d : PyData} (h1 : Dl K H x d) (h2 : Dl K H y d) (c : d.canLay0 = true) (dp : d.depth ≤ 60) (q : Q (.bl false) H) : rNeP K x y H Q :=
  ⟨d, d, h1, h2, c, c, by omega, by rw [SeqAt.eqv_refl d c]; exact q⟩
end L2
set_option Elab.async false
set_option linter.all false
set_option maxRecDepth 100000
namespace L2
open PySem PySem.Spec PyProof.Rows
theorem same_upd {H : Hp} {l : Addr} {o : HO} (h : H l = none) : Same H (upd H l o) := fun b u e => by rw [upd_ne (ne_of_none e h)]; exact e
def But (d : Addr) (H H' : Hp) : Prop := ∀ b, b ≠ d → H' b = H b
theorem But.upd {d : Addr} {H : Hp} {o : HO} : But d H (L2.upd H d o) := fun b h => upd_ne h
theorem But.same {d : Addr} {B H H' : Hp} (e : But d H H') (s : Same B H) (h : B d = none) : Same B H' := fun b o hb => by rw [e b (ne_of_none hb h)]; exact s b o hb
theorem But.at {d b : Addr} {H H' : Hp} {o : Option HO} (e : But d H H') (n : b ≠ d) (h : H b = o) : H' b = o := by rw [e b n]; exact h
theorem But.of {d b : Addr} {H H' : Hp} {o u : HO} (e : But d H H') (hd : H d = some u) (h : H b = some o) (n : o ≠ u) : H' b = some o := e.at (ne_of h hd n) h
def nwT (xs : List V) (H : Hp) (Q : VK) : Prop := xs.length ≤ sizeLine ∧ ∀ p, H p = none → Q (.ref p) (upd H p (.tup xs))
def nwL (xs : List V) (H : Hp) (Q : VK) : Prop := xs.length ≤ sizeLine ∧ ∀ p, H p = none → Q (.ref p) (upd H p (.lst xs))
section
variable {D : Ends} {σ : St} {H : Hp} {Q : VK} {K : PySem.W.Frag}
theorem x_seqA {te : TE} {g : TG} {u : TS} (h : te σ H fun x H1 => g x σ H1 (u D)) : tSeq (tAsg te g) u D σ H := h
theorem x_seqF {wi : TI} {g : TG} {tb u : TS} (h : tFor wi g tb { D with nx := u D } σ H) : tSeq (tFor wi g tb) u D σ H := h
theorem x_seqG {c : TT} {te : TE} {u : TS} (h : c σ H fun b H1 => if b = true then te σ H1 D.rt else u D σ H1) : tSeq (tIfS c (tRet te) tNext) u D σ H := h
theorem x_ret {te : TE} (h : te σ H D.rt) : tRet te D σ H := h
theorem x_drop {te : TE} (h : te σ H fun _ H1 => D.nx σ H1) : tDrop te D σ H := h
theorem x_asg {te : TE} {g : TG} (h : te σ H fun x H1 => g x σ H1 D.nx) : tAsg te g D σ H := h
theorem x_name {i : Nat} {v : V} {R : St → Hp → Prop} (h : R (σ.set i (some v)) H) : gName i v σ H R := h
theorem x_var {i : Nat} {v : V} (h1 : σ[i]? = some (some v)) (h : Q v H) : tVar i σ H Q := ⟨v, h1, h⟩
theorem x_c {v : V} (h : Q v H) : tC v σ H Q := h
theorem x_op {r : R2} {ta tb : TE} (h : ta σ H fun x H1 => tb σ H1 fun y H2 => r x y H2 Q) : tOp r ta tb σ H Q := h
theorem x_I0 {g : Int → Int → V} {i j : Int} (h : Q (g i j) H) : rI0 g (.int i) (.int j) H Q := ⟨i, j, rfl, rfl, h⟩
theorem x_I {C : Int → Int → Prop} {g : Int → Int → V} {i j : Int} (hc : C i j) (h : Q (g i j) H) : rI C g (.int i) (.int j) H Q := ⟨i, j, rfl, rfl, hc, h⟩
theorem x_test {t : TE} {R : Bool → Hp → Prop} (h : t σ H fun x H' => ∃ k, x = .bl k ∧ R k H') : tTest t σ H R := h
theorem x_tru {t : TE} {R : Bool → Hp → Prop} (h : t σ H fun x H' => ∃ k, TruV K x H' k ∧ R k H') : tTru K t σ H R := h
theorem x_exbl {c : Bool} {P : Bool → Prop} (h : P c) : ∃ k, V.bl c = .bl k ∧ P k := ⟨c, rfl, h⟩
theorem x_extru {c : Bool} {P : Bool → Prop} (h : P c) : ∃ k, TruV K (.bl c) H k ∧ P k := ⟨c, rfl, h⟩
theorem x_or {t u : TT} {R : Bool → Hp → Prop} (h : t σ H fun c H1 => if c = true then R true H1 else u σ H1 R) : tOr t u σ H R := h
theorem x_andV {ta tb : TE} (h : ta σ H fun x H1 => ∃ c, x = .bl c ∧ if c = true then tb σ H1 Q else Q (.bl false) H1) : tAndV ta tb σ H Q := h
theorem x_nil {R : List V → Hp → Prop} (h : R [] H) : tNil σ H R := h
theorem x_cons {ta : TE} {tr : TA} {R : List V → Hp → Prop} (h : ta σ H fun x H1 => tr σ H1 fun xs H2 => R (x :: xs) H2) : tCons ta tr σ H R := h
theorem x_tup {t : TA} (h : t σ H fun xs H1 => nwT xs H1 Q) : tTup t σ H Q := h
theorem x_lst {t : TA} (h : t σ H fun xs H1 => nwL xs H1 Q) : tLst t σ H Q := h
theorem x_nwT {xs : List V} (hl : xs.length ≤ sizeLine) (h : ∀ p H', H p = none → Same H H' → H' p = some (.tup xs) → Q (.ref p) H') : nwT xs H Q := ⟨hl, fun p hp => h p _ hp (same_upd hp) upd_same⟩
theorem x_nwL {xs : List V} (hl : xs.length ≤ sizeLine) (h : ∀ p H', H p = none → Same H H' → H' p = some (.lst xs) → Q (.ref p) H') : nwL xs H Q := ⟨hl, fun p hp => h p _ hp (same_upd hp) upd_same⟩
theorem x_call {sp : Sp} {dvs : List V} {E : XK} {t : TA} (h : t σ H fun vs H1 => sp (vs ++ dvs) H1 Q E) : tCall sp dvs E t σ H Q := h
theorem x_cb {r : List V → Hp → VK → Prop} {t : TA} (h : t σ H fun vs H1 => r vs H1 Q) : tCB r t σ H Q := h
theorem x_sl {r : V → Option Int → Option Int → Hp → VK → Prop} {te : TE} {tl th : TO} (h : te σ H fun x H1 => tl σ H1 fun l H2 => th σ H2 fun u H3 => r x l u H3 Q) : tSl r te tl th σ H Q := h
theorem x_nopart {R : Option Int → Hp → Prop} (h : R none H) : tNoPart σ H R := h
theorem x_part {t : TE} {R : Option Int → Hp → Prop} (h : t σ H fun x H1 => ∃ i, x = .int i ∧ R (some i) H1) : tPart t σ H R := h
theorem x_exint {c : Int} {P : Int → Prop} (h : P c) : ∃ k, V.int c = .int k ∧ P k := ⟨c, rfl, h⟩
theorem x_slL {a : Addr} {xs : List V} {lo hi : Option Int} (h1 : SqL K H a xs) (h : ∀ p H', H p = none → Same H H' → H' p = some (.lst (cutV xs lo hi)) → Q (.ref p) H') : rSlL K (.ref a) lo hi H Q := ⟨a, xs, rfl, h1, fun p hp => h p _ hp (same_upd hp) upd_same⟩
theorem x_ixL {a : Addr} {xs : List V} {i : Int} {v : V} (h1 : SqL K H a xs) (h2 : atI xs i = some v) (h : Q v H) : rIxL K (.ref a) (.int i) H Q := ⟨a, xs, i, v, rfl, rfl, h1, h2, h⟩
theorem x_ixT {a : Addr} {xs : List V} {i : Int} {v : V} (h1 : SqT K H a xs) (h2 : atI xs i = some v) (h : Q v H) : rIxT K (.ref a) (.int i) H Q := ⟨a, xs, i, v, rfl, rfl, h1, h2, h⟩
theorem x_for {wi : TI} {g : TG} {tb : TS} (h : wi σ H fun J H1 => ∃ W : Nat → Nat → St → Hp → Prop, (∃ m, W 0 m σ H1) ∧ ∀ i m σ H, W i m σ H →
  (J.stop i H ∧ D.nx σ H) ∨ (J.go i H ∧ ∃ N : St → Hp → Prop, (∀ σ' H', N σ' H' → ∃ m', m' < m ∧ W (i + 1) m' σ' H') ∧ ∀ x H', J.yld i H x H' → g x σ H' fun σ2 H2 => tb { D with nx := N, ct := N, bk := D.nx } σ2 H2)) : tFor wi g tb D σ H := h
theorem x_ilist {tl : TE} {R : It → Hp → Prop} (h : tl σ H fun x H1 => ∃ a, x = .ref a ∧ (∃ xs, SqL K H1 a xs) ∧ R (Itl K a) H1) : iList K tl σ H R := h
theorem x_exil {a : Addr} {xs : List V} {P : Addr → Prop} (hd : SqL K H a xs) (h : P a) : ∃ b, V.ref a = .ref b ∧ (∃ xs, SqL K H b xs) ∧ P b := ⟨a, rfl, ⟨xs, hd⟩, h⟩
theorem x_itup {tl : TE} {R : It → Hp → Prop} (h : tl σ H fun x H1 => ∃ a, x = .ref a ∧ (∃ xs, SqT K H1 a xs) ∧ R (Itt K a) H1) : iTup K tl σ H R := h
theorem x_exit {a : Addr} {xs : List V} {P : Addr → Prop} (hd : SqT K H a xs) (h : P a) : ∃ b, V.ref a = .ref b ∧ (∃ xs, SqT K H b xs) ∧ P b := ⟨a, rfl, ⟨xs, hd⟩, h⟩
theorem x_bm {T : String} {r : V → List V → Hp → VK → Prop} {to : TE} {t : TA} (h : to σ H fun x H1 => tyV K T x H1 ∧ t σ H1 fun xs H2 => r x xs H2 Q) : tBM K T r to t σ H Q := h
theorem x_tyl {a : Addr} {xs : List V} {P : Prop} (hd : H a = some (.lst xs)) (h : P) : tyV K "list" (.ref a) H ∧ P := ⟨.inl ⟨rfl, _, SqL.of hd⟩, h⟩
theorem x_append {a : Addr} {xs : List V} {y : V} (hd : H a = some (.lst xs)) (hl : xs.length < sizeLine) (h : ∀ H2, But a H H2 → H2 a = some (.lst (xs ++ [y])) → Q .non H2) : rAppend (.ref a) [y] H Q := ⟨a, xs, y, rfl, rfl, hd, hl, h _ .upd upd_same⟩
theorem x_comp {src : List (Option Nat)} {wi : TI} {g : TG} {tt : TT} {te : TE} (h : wi σ H fun J H1 => ∀ D, H1 D = none → ∃ W : Nat → Nat → St → Hp → Prop, (∃ m, W 0 m (blkSt src σ) (upd H1 D (.lst []))) ∧
  ∀ i m σ' H', W i m σ' H' → (J.stop i H' ∧ Q (.ref D) H') ∨ (J.go i H' ∧ ∃ N : St → Hp → Prop, (∀ σ2 H2, N σ2 H2 → ∃ m', m' < m ∧ W (i + 1) m' σ2 H2) ∧
    ∀ x H'', J.yld i H' x H'' → cTurn g tt te D N x σ' H'')) : tComp src wi g tt te σ H Q := h
end
theorem iteNT {A B : Prop} (h : B) : if (!true) = true then A else B := h
theorem pow60p : (0 : Int) < (10 : Int) ^ (60 : Int).toNat := Int.pow_pos (by decide)
end L2
set_option Elab.async false
set_option linter.all false
set_option maxRecDepth 100000
namespace L2
open PySem PySem.Spec PyProof.Rows
section
variable {X : Cx} {K : PySem.W.Frag}
theorem ix_tupK (hK : X.K = K) : IxR X (rIxT K) := by subst hK; exact ix_tup
theorem ix_listK (hK : X.K = K) : IxR X (rIxL K) := by subst hK; exact ix_list
theorem sl_listK (hK : X.K = K) : SlR X (rSlL K) := by subst hK; exact sl_list
theorem op_eqK (hK : X.K = K) (hu : X.A.units + 64 < cLine) : OpR X (compareOp .Eq) (rEqP K) := by subst hK; exact op_eqDl hu
theorem op_neK (hK : X.K = K) (hu : X.A.units + 64 < cLine) : OpR X (compareOp .NotEq) (rNeP K) := by subst hK; exact op_neDl hu
def rLen (K : PySem.W.Frag) : List V → Hp → VK → Prop := fun xs H Q => ∃ p ys, xs = [.ref p] ∧ (SqL K H p ys ∨ SqT K H p ys) ∧ Q (.int ys.length) H
theorem call_lenK (hK : X.K = K) : CallR X (.builtin "len") (rLen K) := by subst hK; exact call_len_seq
def rTupleOf (K : PySem.W.Frag) : List V → Hp → VK → Prop := fun xs H Q => ∃ p ys, xs = [.ref p] ∧ ((SqL K H p ys ∧ ∀ l, H l = none → Q (.ref l) (upd H l (.tup ys))) ∨ (SqT K H p ys ∧ Q (.ref p) H))
theorem call_tupleK (hK : X.K = K) : CallR X (.type "tuple") (rTupleOf K) := by subst hK; exact call_tuple_of
def rIsI (K : PySem.W.Frag) : List V → Hp → VK → Prop := fun xs H Q => ∃ (x : V) (t : Value) (T : String) (b : Bool), xs = [x, .ty T] ∧ TyOf K H x t ∧ PySem.W.kitOne K t (.type T) = some b ∧ Q (.bl b) H
theorem call_isiK (hK : X.K = K) : CallR X (.builtin "isinstance") (rIsI K) := by subst hK; exact call_isinst
theorem pi_listK {tg l : Expr} {tl : TE} (hK : X.K = K) (hl : PE X l tl) : PI X tg l (iList K tl) := by subst hK; exact pi_list hl
theorem pi_tupK {tg l : Expr} {tl : TE} (hK : X.K = K) (hl : PE X l tl) : PI X tg l (iTup K tl) := by subst hK; exact pi_tup hl
theorem pe_appendK {o e : Expr} {to : TE} {t : TA} {apos cpos : Pos} (hK : X.K = K) (h : PE X (.Call (.Attribute o "append" apos) [e] [] cpos) (tBM X.K "list" rAppend to t)) : PE X (.Call (.Attribute o "append" apos) [e] [] cpos) (tBM K "list" rAppend to t) := by subst hK; exact h
end
section
variable {σ : St} {H : Hp} {Q : VK} {K : PySem.W.Frag}
theorem x_rtupL {a : Addr} {xs : List V} (hd : SqL K H a xs) (h : ∀ p H', H p = none → Same H H' → H' p = some (.tup xs) → Q (.ref p) H') : rTupleOf K [.ref a] H Q := ⟨a, xs, rfl, .inl ⟨hd, fun p hp => h p _ hp (same_upd hp) upd_same⟩⟩
end
end L2
set_option Elab.async false
set_option linter.all false
set_option maxRecDepth 100000
namespace L2
open PySem PySem.Spec PyProof.Rows
theorem cut_ints (ns : List Int) (lo hi : Option Int) : ∃ ms : List Int, cutV (ns.map V.int) lo hi = ms.map V.int ∧ ms.length ≤ ns.length := by
  refine ⟨(ns.drop (HT.sIx (ns.map V.int).length 0 lo)).take (HT.sIx (ns.map V.int).length (ns.map V.int).length hi - HT.sIx (ns.map V.int).length 0 lo), ?_, ?_⟩
  · unfold cutV
    rw [List.map_take, List.map_drop]
  · rw [List.length_take, List.length_drop]
    omega
theorem take_get {α : Type} {ls : List α} {i : Nat} {n : α} (h : ls[i]? = some n) : ls.take (i + 1) = ls.take i ++ [n] := by
  rw [List.take_succ, h]
  rfl
theorem int_get {ms : List Int} {i : Nat} {x : V} (h : (ms.map V.int)[i]? = some x) : ∃ n : Int, ms[i]? = some n ∧ x = .int n := by
  rw [List.getElem?_map] at h
  cases e : ms[i]? with
  | none => rw [e] at h; cases h
  | some n => rw [e] at h; exact ⟨n, rfl, (Option.some.inj h).symm⟩
theorem atI_int {α : Type} {xs : List α} {i : Int} {v : α} (h0 : 0 ≤ i) (h : xs[i.toNat]? = some v) : atI xs i = some v := by
  obtain ⟨n, rfl⟩ := Int.eq_ofNat_of_zero_le h0
  exact atI_nat h
abbrev Nm := Int × Int × Int
def nmD (p : Nm) : PyData := .tuple [.int p.1, .int p.2.1, .int p.2.2]
def NmAt (H : Hp) (x : V) (p : Nm) : Prop := ∃ a, x = .ref a ∧ H a = some (.tup [.int p.1, .int p.2.1, .int p.2.2])
abbrev Nms (H : Hp) : List V → List Nm → Prop := Paired (NmAt H)
def SmH (H H' : Hp) : Prop := ∀ a xs, H a = some (.tup xs) → H' a = some (.tup xs)
theorem SmH.trans {H1 H2 H3 : Hp} (a : SmH H1 H2) (b : SmH H2 H3) : SmH H1 H3 := fun _ _ h => b _ _ (a _ _ h)
theorem SmH.same {H H' : Hp} (e : Same H H') : SmH H H' := fun _ _ h => e _ _ h
theorem SmH.upd {H : Hp} {l : Addr} {o : HO} (h1 : ∀ xs, H l ≠ some (.tup xs)) : SmH H (upd H l o) := fun a xs h => by
  have : a ≠ l := fun e => h1 xs (e ▸ h)
  rw [upd_ne this]; exact h
theorem SmH.lst {H : Hp} {l : Addr} {o : HO} {ys : List V} (h : H l = some (.lst ys)) : SmH H (L2.upd H l o) := .upd (fun _ z => by rw [h] at z; cases z)
theorem SmH.but {H H' : Hp} {l : Addr} {o : HO} (e : But l H H') (h : H l = some o) (n : ∀ xs, o ≠ .tup xs) : SmH H H' := fun a xs z => e.of h z (Ne.symm (n xs))
theorem NmAt.up {H H' : Hp} (m : SmH H H') {x : V} {p : Nm} (h : NmAt H x p) : NmAt H' x p := by
  obtain ⟨a, e, h⟩ := h
  exact ⟨a, e, m _ _ h⟩
theorem Nms.up {H H' : Hp} (m : SmH H H') : ∀ {xs : List V} {ns : List Nm}, Nms H xs ns → Nms H' xs ns
  | _, _, .nil => .nil
  | _, _, .cons r t => .cons (r.up m) (Nms.up m t)
theorem Nms.get {H : Hp} : ∀ {xs : List V} {ns : List Nm} {i : Nat} {x : V}, Nms H xs ns → xs[i]? = some x → ∃ p, ns[i]? = some p ∧ NmAt H x p
  | _, _, _, _, .nil, e => by simp at e
  | _, _, 0, _, .cons r _, e => by simp at e; subst e; exact ⟨_, rfl, r⟩
  | _, _, i + 1, x, .cons _ t, e => by
    obtain ⟨p, h1, h2⟩ := Nms.get (i := i) (x := x) t (by simpa using e)
    exact ⟨p, by simpa using h1, h2⟩
theorem Nms.len {H : Hp} {xs : List V} {ns : List Nm} (h : Nms H xs ns) : xs.length = ns.length := Paired.length h
theorem Nms.at {H : Hp} {xs : List V} {ns : List Nm} {i : Nat} (h : Nms H xs ns) (hi : i < ns.length) : ∃ x, xs[i]? = some x ∧ NmAt H x ns[i] := by
  have hx : i < xs.length := by rw [h.len]; exact hi
  obtain ⟨p, e, r⟩ := h.get (List.getElem?_eq_getElem hx)
  rw [List.getElem?_eq_getElem hi] at e
  cases e
  exact ⟨_, List.getElem?_eq_getElem hx, r⟩
theorem Nms.snoc {H : Hp} : ∀ {xs : List V} {ns : List Nm} {x : V} {p : Nm}, Nms H xs ns → NmAt H x p → Nms H (xs ++ [x]) (ns ++ [p])
  | _, _, _, _, .nil, h => .cons h .nil
  | _, _, _, _, .cons r t, h => .cons r (Nms.snoc t h)
theorem NmAt.dp {K : PySem.W.Frag} {H : Hp} {x : V} {p : Nm} (h : NmAt H x p) : Dp K H x (nmD p) := by
  obtain ⟨a, rfl, h⟩ := h
  exact .tup (SqT.of h) (.cons (.int _) (.cons (.int _) (.cons (.int _) .nil)))
section
variable {σ : St} {H : Hp} {Q : VK} {K : PySem.W.Frag} {X : Cx}
theorem x_rlenQ {a : Addr} {xs : List V} (hd : SqL K H a xs ∨ SqT K H a xs) (h : Q (.int xs.length) H) : rLen K [.ref a] H Q := ⟨a, xs, rfl, hd, h⟩
end
theorem x_nonand {P : Prop} (h : P) : V.non = V.non ∧ P := ⟨rfl, h⟩
end L2
set_option Elab.async false
set_option linter.all false
set_option maxRecDepth 100000
namespace L2
open PySem PySem.Spec PyProof.Rows
section
variable {X : Cx} {CX : CXT} {k : Nat} {f C : Addr} {fd : FuncData} {ps : List Str} {sp : Sp} {dvs : List V} {ds : List Value} {E : XK} {x m : Str} {p pos apos : Pos} {e o : Expr} {es : List Expr} {ta : TE} {t : TA}
def MOk (P : Program) (w : World) (K : PySem.W.Frag) (mg : Str → Option Value) (base : Heap) (k : Nat) (m : Str) (ms : List (Addr × Sp)) : Prop :=
  ∀ cs ∈ ms, ∃ f fd ps, Cls K cs.1 ∧ Meth K cs.1 m f ∧ FnOk P w K mg base CX0 k f fd ps cs.2 ∧ Binds K fd ps []
theorem MOk.nil {P : Program} {w : World} {K : PySem.W.Frag} {mg : Str → Option Value} {base : Heap} : MOk P w K mg base k m [] := fun _ h => nomatch h
theorem MOk.cons {P : Program} {w : World} {K : PySem.W.Frag} {mg : Str → Option Value} {base : Heap} {ms : List (Addr × Sp)} (c : Cls K C) (hm : Meth K C m f) (F : FnOk P w K mg base CX0 k f fd ps sp) (hb : Binds K fd ps []) (r : MOk P w K mg base k m ms) : MOk P w K mg base k m ((C, sp) :: ms) := by
  intro cs h
  rcases List.mem_cons.mp h with rfl | h
  · exact ⟨f, fd, ps, c, hm, F, hb⟩
  · exact r cs h
end
section
variable {X : Cx} {K : PySem.W.Frag}
end
section
variable {D : Ends} {σ : St} {H : Hp} {Q : VK} {K : PySem.W.Frag}
end
theorem x_nx {f b c : St → Hp → Prop} {r : VK} {σ : St} {H : Hp} (h : f σ H) : Ends.nx ⟨f, r, b, c⟩ σ H := h
theorem x_yes {σ : St} {H : Hp} {R : Bool → Hp → Prop} (h : R true H) : tYes σ H R := h
theorem x_turn {g : TG} {tt : TT} {te : TE} {D : Addr} {N : St → Hp → Prop} {x : V} {σ : St} {H : Hp} (h : g x σ H fun σ2 H2 => tt σ2 H2 fun b H3 => if b = true then te σ2 H3 fun y H4 => ∃ ys, H4 D = some (.lst ys) ∧ ys.length < sizeLine ∧ N σ2 (upd H4 D (.lst (ys ++ [y]))) else N σ2 H3) : cTurn g tt te D N x σ H := h
theorem x_seqN {D : Ends} {σ : St} {H : Hp} {c : TT} {u : TS} (h : c σ H fun b H1 => if b = true then False else u D σ H1) : tSeq (tIfS c tNever tNext) u D σ H := h
end L2
set_option Elab.async false
set_option linter.all false
set_option maxRecDepth 100000
namespace L2
open PySem PySem.Spec PyProof.Rows
structure Ck (m : List (Int × Int)) : Prop where
  nd : (m.map (·.1)).Nodup
  nn : ∀ p ∈ m, 0 ≤ p.2
  rg : ∀ p ∈ m, 0 ≤ p.1 ∧ p.1 < 63
def hs63 : List Int := (List.range 63).map fun (h : Nat) => (h : Int)
theorem mem_hs {k : Int} : k ∈ hs63 ↔ 0 ≤ k ∧ k < 63 := by
  unfold hs63
  rw [List.mem_map]
  constructor
  · rintro ⟨n, hn, rfl⟩
    have := List.mem_range.mp hn
    omega
  · rintro ⟨h0, h1⟩
    exact ⟨k.toNat, List.mem_range.mpr (by omega), by omega⟩
theorem nd_len {α : Type} [DecidableEq α] : ∀ {l m : List α}, l.Nodup → (∀ x ∈ l, x ∈ m) → l.length ≤ m.length
  | [], m, _, _ => Nat.zero_le _
  | x :: l, m, nd, sub => by
    rw [List.nodup_cons] at nd
    have hx := sub x List.mem_cons_self
    have pm := List.perm_cons_erase hx
    have := nd_len (l := l) (m := m.erase x) nd.2 fun y hy => (List.mem_erase_of_ne (show y ≠ x from fun z => nd.1 (z ▸ hy))).mpr (sub y (List.mem_cons_of_mem _ hy))
    have q := pm.length_eq
    rw [List.length_cons] at q ⊢
    omega
theorem hs_len {l : List Int} (nd : l.Nodup) (h : ∀ k ∈ l, 0 ≤ k ∧ k < 63) : l.length < 64 := by
  have := nd_len nd (m := hs63) fun k hk => mem_hs.mpr (h k hk)
  unfold hs63 at this
  rw [List.length_map, List.length_range] at this
  omega
theorem Ck.keys {m : List (Int × Int)} (c : Ck m) : ∀ k ∈ m.map (·.1), 0 ≤ k ∧ k < 63 := fun k hk => by
  obtain ⟨p, hp, e⟩ := List.mem_map.mp hk
  rw [← e]
  exact c.rg p hp
theorem Ck.len {m : List (Int × Int)} (c : Ck m) : m.length < 64 := by
  have := hs_len c.nd c.keys
  rw [List.length_map] at this
  exact this
theorem Ck.nil : Ck [] := ⟨List.nodup_nil, (fun p hp => nomatch hp), (fun p hp => nomatch hp)⟩
theorem Ck.ct {m : List (Int × Int)} (c : Ck m) (k : Int) : 0 ≤ ct m k := by
  unfold L2.ct
  cases e : lkI m k with
  | none => exact Int.le_refl _
  | some v => exact c.nn _ (lk_mem e)
theorem ct_out {m : List (Int × Int)} {k : Int} (h : k ∉ m.map (·.1)) : ct m k = 0 := by
  unfold ct
  rw [lk_none h]
  rfl
theorem ct_in {m : List (Int × Int)} {k : Int} (h : ct m k ≠ 0) : k ∈ m.map (·.1) := by
  by_cases z : k ∈ m.map (·.1)
  · exact z
  · exact absurd (ct_out z) h
theorem lk_ct {m : List (Int × Int)} {k : Int} (h : k ∈ m.map (·.1)) : lkI m k = some (ct m k) := by
  obtain ⟨v, e⟩ := lk_some h
  unfold ct
  rw [e]
  rfl
theorem ct_of {m : List (Int × Int)} (nd : (m.map (·.1)).Nodup) {p : Int × Int} (h : p ∈ m) : ct m p.1 = p.2 := by
  unfold ct
  rw [lk_of (k := p.1) (v := p.2) nd h]
  rfl
theorem Ck.put {m : List (Int × Int)} (c : Ck m) {k v : Int} (h0 : 0 ≤ k) (h1 : k < 63) (hv : 0 ≤ v) : Ck (putI m k v) :=
  ⟨put_nd m k v c.nd, fun p hp => by
    rcases put_vals m k v p hp with z | z
    · rw [z]; exact hv
    · exact c.nn p z, fun p hp => by
    rcases put_vals m k v p hp with z | z
    · rw [z]; exact ⟨h0, h1⟩
    · exact c.rg p z⟩
structure Td (m : List (Int × Int)) : Prop extends Ck m where
  ps : ∀ p ∈ m, 0 < p.2
theorem Td.nil : Td [] := ⟨Ck.nil, (fun p hp => nomatch hp)⟩
theorem Td.pos {m : List (Int × Int)} (t : Td m) {k : Int} (h : k ∈ m.map (·.1)) : 0 < L2.ct m k := by
  obtain ⟨p, hp, e⟩ := List.mem_map.mp h
  rw [← e, ct_of t.nd hp]
  exact t.ps p hp
theorem Td.sub {j m : List (Int × Int)} (tj : Td j) (h : ∀ k, 0 ≤ k → k < 63 → L2.ct j k = L2.ct m k) : ∀ p ∈ j, lkI m p.1 = some p.2 := by
  intro p hp
  have hr := tj.rg p hp
  have e := h p.1 hr.1 hr.2
  rw [ct_of tj.nd hp] at e
  have hk : p.1 ∈ m.map (·.1) := ct_in (by rw [← e]; have := tj.ps p hp; omega)
  rw [lk_ct hk, ← e]
def cov (m n : List (Int × Int)) : Bool := (List.range 63).all fun (h : Nat) => decide (ct n h ≤ ct m h)
theorem x_cat {H : Hp} {Q : VK} {a b : Addr} {xs zs : List V} (h1 : H a = some (.lst xs)) (h2 : H b = some (.lst zs)) (hl : xs.length + zs.length ≤ 1000) (h : ∀ p H', H p = none → Same H H' → H' p = some (.lst (xs ++ zs)) → Q (.ref p) H') : rCat (.ref a) (.ref b) H Q := ⟨a, b, xs, zs, rfl, rfl, h1, h2, Nat.le_of_lt (small1000 hl), fun p hp => h p _ hp (same_upd hp) upd_same⟩
def SmB (d : Addr) (B H : Hp) : Prop := ∀ b o, b ≠ d → B b = some o → H b = some o
end L2
set_option Elab.async false
set_option linter.all false
set_option maxRecDepth 100000
namespace L2
open PySem PySem.Spec PyProof.Rows
def lkG : List (Int × V) → Int → Option V
  | [], _ => none
  | p :: m, k => if p.1 = k then some p.2 else lkG m k
section
variable {X : Cx}
end
section
variable {D : Ends} {σ : St} {H : Hp} {Q : VK}
end
end L2
set_option Elab.async false
set_option linter.all false
set_option maxRecDepth 100000
namespace L2
open PySem PySem.Spec PyProof.Rows
theorem sorted_ext : ∀ {l m : List Nat}, l.Pairwise (· < ·) → m.Pairwise (· < ·) → (∀ x, x ∈ l ↔ x ∈ m) → l = m
  | [], [], _, _, _ => rfl
  | [], y :: m, _, _, h => absurd ((h y).mpr List.mem_cons_self) (by simp)
  | x :: l, [], _, _, h => absurd ((h x).mp List.mem_cons_self) (by simp)
  | x :: l, y :: m, hl, hm, h => by
    rw [List.pairwise_cons] at hl hm
    have e : x = y := by
      rcases List.mem_cons.mp ((h x).mp List.mem_cons_self) with z | z
      · exact z
      · rcases List.mem_cons.mp ((h y).mpr List.mem_cons_self) with w | w
        · exact w.symm
        · have := hm.1 x z
          have := hl.1 y w
          omega
    subst e
    rw [sorted_ext hl.2 hm.2 fun z => ?_]
    constructor
    · intro hz
      rcases List.mem_cons.mp ((h z).mp (List.mem_cons_of_mem _ hz)) with w | w
      · subst w; exact absurd (hl.1 _ hz) (Nat.lt_irrefl _)
      · exact w
    · intro hz
      rcases List.mem_cons.mp ((h z).mpr (List.mem_cons_of_mem _ hz)) with w | w
      · subst w; exact absurd (hm.1 _ hz) (Nat.lt_irrefl _)
      · exact w
theorem snoc_ind {α : Type} {P : List α → Prop} (h0 : P []) (h1 : ∀ l a, P l → P (l ++ [a])) (l : List α) : P l := by
  have key : ∀ r : List α, P r.reverse := by
    intro r
    induction r with
    | nil => exact h0
    | cons a r ih => rw [List.reverse_cons]; exact h1 _ _ ih
  have := key l.reverse
  rw [List.reverse_reverse] at this
  exact this
theorem sum_lt : ∀ (l : List Nat) (b : Nat), l.Pairwise (· < ·) → (∀ x ∈ l, x < b) → (l.map fun h => 2 ^ h).sum < 2 ^ b := by
  refine snoc_ind ?_ ?_
  · intro b _ _; exact Nat.two_pow_pos b
  · intro l h ih b hp hb
    rw [List.pairwise_append] at hp
    have h1 := ih h hp.1 fun x hx => hp.2.2 x hx h (by simp)
    have h2 : h < b := hb h (by simp)
    rw [List.map_append, List.sum_append]
    have h3 : 2 ^ (h + 1) ≤ 2 ^ b := Nat.pow_le_pow_right (by decide) h2
    rw [Nat.pow_succ] at h3
    simp only [List.map_cons, List.map_nil, List.sum_cons, List.sum_nil]
    omega
theorem sum_set : ∀ (l : List Nat), l.Pairwise (· < ·) → (l.map fun h => 2 ^ h).sum = GB.setN l := by
  refine snoc_ind ?_ ?_
  · intro _; rfl
  · intro l h ih hp
    rw [List.pairwise_append] at hp
    have h1 := sum_lt l h hp.1 fun x hx => hp.2.2 x hx h (by simp)
    have e := ih hp.1
    rw [List.map_append, List.sum_append]
    unfold GB.setN at e ⊢
    rw [List.foldl_append, ← e]
    simp only [List.map_cons, List.map_nil, List.sum_cons, List.sum_nil, List.foldl_cons, List.foldl_nil]
    have := Nat.two_pow_add_eq_or_of_lt h1 1
    rw [Nat.mul_one] at this
    rw [Nat.add_zero, Nat.add_comm, this, Nat.or_comm]
structure Hs (hs : List Int) : Prop where
  up : hs.Pairwise (· < ·)
  rg : ∀ h ∈ hs, 0 ≤ h ∧ h < 63
theorem Hs.nat {hs : List Int} (c : Hs hs) : ∃ l : List Nat, hs = l.map (fun (h : Nat) => (h : Int)) ∧ l.Pairwise (· < ·) ∧ ∀ x ∈ l, x < 63 := by
  refine ⟨hs.map Int.toNat, ?_, ?_, ?_⟩
  · rw [List.map_map]
    conv => lhs; rw [← List.map_id hs]
    refine List.map_congr_left fun h hh => ?_
    have := (c.rg h hh).1
    show h = ((h.toNat : Nat) : Int)
    omega
  · rw [List.pairwise_map]
    refine c.up.imp_of_mem fun {a b} ha hb h => ?_
    have := (c.rg a ha).1
    omega
  · intro x hx
    obtain ⟨h, hh, rfl⟩ := List.mem_map.mp hx
    have := c.rg h hh
    omega
theorem isum_nat : ∀ l : List Nat, (l.map fun (h : Nat) => (h : Int)).sum = ((l.sum : Nat) : Int)
  | [] => rfl
  | x :: l => by rw [List.map_cons, List.sum_cons, List.sum_cons, isum_nat l]; omega
theorem Hs.set {hs : List Int} (c : Hs hs) : 0 ≤ (hs.map fun h => 1 * (2 : Int) ^ h.toNat).sum ∧ (hs.map fun h => 1 * (2 : Int) ^ h.toNat).sum < 9223372036854775808 ∧ GB.hl (hs.map fun h => 1 * (2 : Int) ^ h.toNat).sum = hs := by
  obtain ⟨l, rfl, up, rg⟩ := c.nat
  have e : ((l.map fun (h : Nat) => (h : Int)).map fun h => 1 * (2 : Int) ^ h.toNat).sum = ((GB.setN l : Nat) : Int) := by
    rw [← sum_set l up, ← isum_nat, List.map_map, List.map_map]
    congr 1
    refine List.map_congr_left fun h _ => ?_
    show 1 * (2 : Int) ^ ((h : Int)).toNat = ((2 ^ h : Nat) : Int)
    rw [Int.toNat_natCast, Int.one_mul]
    push_cast
    rfl
  have lt : GB.setN l < 2 ^ 63 := GB.setN_lt rg
  have p63 : (2 : Nat) ^ 63 = 9223372036854775808 := by decide
  rw [e]
  refine ⟨by omega, by omega, ?_⟩
  unfold GB.hl
  rw [Int.toNat_natCast]
  congr 1
  refine sorted_ext (GB.hnds_sorted _) up fun x => ?_
  rw [GB.mem_hnds, GB.setN_bit]
  constructor
  · rintro ⟨_, h⟩; exact of_decide_eq_true h
  · intro h; exact ⟨rg x h, decide_eq_true h⟩
abbrev Rws (H : Hp) : List (Int × V) → List (Int × List (Int × Int)) → Prop := Paired fun q e => q.1 = e.1 ∧ ∃ r, q.2 = .ref r ∧ H r = some (.dK (dI e.2))
theorem Rws.keys {H : Hp} : ∀ {rs : List (Int × V)} {tb : List (Int × List (Int × Int))}, Rws H rs tb → rs.map (·.1) = tb.map (·.1)
  | _, _, .nil => rfl
  | _, _, .cons h t => by rw [List.map_cons, List.map_cons, h.1, Rws.keys t]
def tbl : List (Int × List (Int × Int)) → Int → Option (List (Int × Int))
  | [], _ => none
  | e :: tb, h => if e.1 = h then some e.2 else tbl tb h
theorem Rws.lk {H : Hp} : ∀ {rs : List (Int × V)} {tb : List (Int × List (Int × Int))} (h : Int), Rws H rs tb → (lkG rs h = none ∧ tbl tb h = none) ∨ ∃ r m, lkG rs h = some (.ref r) ∧ tbl tb h = some m ∧ H r = some (.dK (dI m))
  | _, _, h, .nil => .inl ⟨rfl, rfl⟩
  | q :: rs, e :: tb, h, .cons ⟨e1, r, e2, e3⟩ t => by
    unfold lkG tbl
    by_cases z : e.1 = h
    · rw [if_pos (e1.trans z), if_pos z]
      exact .inr ⟨r, e.2, by rw [e2], rfl, e3⟩
    · rw [if_neg (fun w => z (e1.symm.trans w)), if_neg z]
      exact Rws.lk h t
end L2
set_option Elab.async false
set_option linter.all false
set_option maxRecDepth 100000
namespace GX
open PySem PyProof.Rows
end GX
namespace L2
open PySem PySem.Spec PyProof.Rows
theorem paired_at {α β : Type} {F : α → β → Prop} : ∀ {l : List α} {m : List β} {i : Nat} {a : α}, Paired F l m → l[i]? = some a → ∃ b, m[i]? = some b ∧ F a b
  | _, _, _, _, .nil, e => by simp at e
  | _, _, 0, _, .cons h _, e => by simp at e; subst e; exact ⟨_, rfl, h⟩
  | _, _, i + 1, x, .cons _ t, e => by
    obtain ⟨b, h1, h2⟩ := paired_at (i := i) t (by simpa using e)
    exact ⟨b, by simpa using h1, h2⟩
section
variable {X : Cx}
end
end L2
set_option Elab.async false
set_option linter.all false
set_option maxRecDepth 100000
namespace L2
open PySem PySem.Spec PyProof.Rows
def Prn (n : Nat) (p : Array Nat) : Prop := p.toList.Perm (List.range n)
section
variable {n : Nat} (hn : 0 < n)
include hn
end
section
variable {prog : Program} {w : World} {A : Around} {E : Value → Shared → Prop} {s : Shared}
def TpI (h : Heap) (v : Value) : Prop := ∃ a o xs n f ns, v = .ref a ∧ h.get? a = some o ∧ o.cls = .type "tuple" ∧ o.data = .seq xs n ∧ IntsAre xs.toList (f :: ns)
theorem TpI.up {h h' : Heap} {v : Value} (x : TpI h v) (k : ∀ b o, h.get? b = some o → h'.get? b = some o) : TpI h' v := by
  obtain ⟨a, o, xs, n, f, ns, e1, e2, e3⟩ := x
  exact ⟨a, o, xs, n, f, ns, e1, k _ _ e2, e3⟩
end
section
variable {X : Cx}
end
end L2
set_option Elab.async false
set_option linter.all false
set_option maxRecDepth 100000
namespace GX
open PySem PySem.Spec PyProof.Rows
abbrev dictO (es : Array DictEntry) (ep : Nat) : Obj := { cls := .type "dict", data := .dict es ep }
abbrev valO (d : Addr) (i n ep : Nat) : Obj := { cls := .type "dict_valueiterator", data := .fields #[.ref d, .int i 0, .int n 0, .int ep 0] }
def RawD (h : Heap) (d : Addr) (es : Array DictEntry) (ep : Nat) : Prop := h.get? d = some (dictO es ep)
def ValAt (h : Heap) (it d : Addr) (i n ep : Nat) : Prop := h.get? it = some (valO d i n ep)
theorem RawD.of {h : Heap} {d : Addr} {o : Obj} {es : Array DictEntry} {ep : Nat} (e : h.get? d = some o) (x : o.ExactDict) (dt : o.data = .dict es ep) : RawD h d es ep := by
  obtain ⟨c, di, dat, sl⟩ := o
  obtain ⟨rfl, rfl, rfl⟩ := x
  cases dt
  exact e
theorem RawD.at {h g : Heap} {d : Addr} {es : Array DictEntry} {ep : Nat} (x : RawD h d es ep) (k : ∀ o, h.get? d = some o → g.get? d = some o) : RawD g d es ep := k _ x
theorem RawD.lt {h : Heap} {d : Addr} {es : Array DictEntry} {ep : Nat} (x : RawD h d es ep) : d < h.objs.size := Heap.lt_size x
theorem ValAt.is {h : Heap} {it d : Addr} {i n ep : Nat} (x : ValAt h it d i n ep) : h.IsValIter it d i n ep := ⟨_, x, rfl, rfl⟩
section
variable {prog : Program} {w : World} {A : Around} {s : Shared} {E : Value → Shared → Prop} {it v d : Addr} {es : Array DictEntry} {i ep : Nat}
end
end GX
set_option Elab.async false
set_option linter.all false
set_option maxRecDepth 100000
namespace L2
open PySem PySem.Spec PyProof.Rows
section
variable (ky : Nat → Int)
variable {ky} {n : Nat} (hn : 0 < n)
include hn
end
def ltF (f : Bool) : List Int → List Int → Bool
  | x :: r, y :: q => if x = y then ltF f r q else decide (x < y)
  | _, _ => f
def ltL (a b : List Int) : Bool := ltF (decide (a.length < b.length)) a b
theorem range_getD {α : Type} (l : List α) (d : α) : ((List.toArray (List.range l.length)).toList.map fun i => l.getD i d) = l := by
  refine List.ext_getElem (by simp) fun i h1 h2 => ?_
  simp at h1 ⊢
  simp [h1]
def OrdP (ks : List (List Int)) (n : Nat) (p : Array Nat) : Prop := (∃ g : Nat → Int, ∀ i j, i < n → j < n → ltL (ks.getD i []) (ks.getD j []) = decide (g i < g j)) → ∀ i j, i ≤ j → j < n → ltL (ks.getD (p.getD j 0) []) (ks.getD (p.getD i 0) []) = false
def OrdW (ks : List (List Int)) (xs ws : List V) : Prop := ∃ p : Array Nat, Prn xs.length p ∧ ws = (p.toList.map fun i => xs.getD i V.non) ∧ OrdP ks xs.length p
section
variable {prog : Program} {w : World} {A : Around} {E : Value → Shared → Prop} {s : Shared}
end
theorem OrdW.perm {ks : List (List Int)} {xs ws : List V} (h : OrdW ks xs ws) : ws.Perm xs := by
  obtain ⟨p, hp, rfl, _⟩ := h
  have := hp.map fun i => xs.getD i V.non
  have e := range_getD xs V.non
  rw [show (List.toArray (List.range xs.length)).toList = List.range xs.length from rfl] at e
  rw [e] at this
  exact this
section
variable {X : Cx} {pins : List (Addr × Obj)} {σ : St} {H : Hp} {s : Shared} {D f : Addr} {xs : List V} {its : List Value} {ks : List (List Int)} {k : Nat} {fd : FuncData} {ps : List Str} {sp : Sp}
end
section
variable {X : Cx}
end
end L2
set_option Elab.async false
set_option linter.all false
set_option maxRecDepth 100000
namespace L2
open PySem PySem.Spec PyProof.Rows
def unl (cs : List Addr) (H : Hp) : Hp := fun b => if b ∈ cs then none else H b
def rln (cs : List Addr) (H H' : Hp) : Hp := fun b => if b ∈ cs then H b else H' b
theorem unl_in {cs : List Addr} {H : Hp} {b : Addr} (h : b ∈ cs) : unl cs H b = none := if_pos h
theorem unl_out {cs : List Addr} {H : Hp} {b : Addr} (h : b ∉ cs) : unl cs H b = H b := if_neg h
theorem unl_some {cs : List Addr} {H : Hp} {b : Addr} {o : HO} (h : unl cs H b = some o) : b ∉ cs ∧ H b = some o := by
  by_cases z : b ∈ cs
  · rw [unl_in z] at h; cases h
  · rw [unl_out z] at h; exact ⟨z, h⟩
theorem rln_in {cs : List Addr} {H H' : Hp} {b : Addr} (h : b ∈ cs) : rln cs H H' b = H b := if_pos h
theorem rln_out {cs : List Addr} {H H' : Hp} {b : Addr} (h : b ∉ cs) : rln cs H H' b = H' b := if_neg h
abbrev CelO (c : Addr) (v : V) : HO := .ext fun h => ∃ u, RelV v u ∧ h.IsCell c (some u)
def Lent (H : Hp) (c : Addr) (v : V) : Prop := ∃ o, H c = some (.frz o (CelO c v))
abbrev FnO (f : Addr) (fo : Obj) : HO := .ext fun h => h.get? f = some fo
abbrev CdO (c : Addr) (qual : Str) : HO := .ext fun h => h.CodeRec (.ref c) qual
section
variable {P : Program} {w : World} {H H' : Hp} {h h' : Heap} {cs fs : List Addr}
theorem hok_unl (hc : ∀ c ∈ cs, ∃ o φ, H c = some (.frz o (.ext φ))) (ok : HOk P w H h) : HOk P w (unl cs H) h := fun a o e => by
  obtain ⟨_, e⟩ := unl_some e
  refine (ok a o e).stay (fun _ _ _ q => q) (fun b q => ?_) fun b xs q => ?_
  · rw [unl_out fun z => by obtain ⟨_, _, z⟩ := hc b z; rw [q] at z; cases z]; exact q
  · rw [unl_out fun z => by obtain ⟨_, _, z⟩ := hc b z; rw [q] at z; cases z]; exact q
theorem hok_rln (hc : ∀ c ∈ cs, ∃ o φ, H c = some (.frz o (.ext φ))) (ok : HOk P w H h) (ok' : HOk P w H' h') (fr : ∀ c ∈ cs, H' c = none) (kp : ∀ c ∈ cs, ∀ o, h.get? c = some o → h'.get? c = some o) : HOk P w (rln cs H H') h' := fun a o e => by
  by_cases z : a ∈ cs
  · rw [rln_in z] at e
    obtain ⟨ob, φ, q⟩ := hc a z
    rw [q] at e
    cases e
    obtain ⟨e1, p, ⟨o2, e2⟩, st⟩ := (show h.get? a = some ob ∧ (φ h ∧ (∃ o, h.get? a = some o) ∧ ∀ h1 h2 : Heap, φ h1 → (∀ o, h1.get? a = some o → h2.get? a = some o) → φ h2) from ok a _ q)
    exact ⟨kp a z _ e1, st _ _ p (kp a z), ⟨o2, kp a z _ e2⟩, st⟩
  · rw [rln_out z] at e
    refine (ok' a o e).stay (fun _ _ _ q => q) (fun b q => ?_) fun b xs q => ?_
    · rw [rln_out fun y => by rw [fr b y] at q; cases q]; exact q
    · rw [rln_out fun y => by rw [fr b y] at q; cases q]; exact q
theorem un_rln (hc : ∀ c ∈ cs, ∃ o φ, H c = some (.frz o (.ext φ))) (u : Un fs [] (unl cs H) H' h h') : Un fs [] H (rln cs H H') h h' where
  keep := fun b o e n hb hx => u.keep b o e (by unfold unl; split <;> first | rfl | exact n) hb hx
  slot := fun b o e n hb hx => u.slot b o e (by unfold unl; split <;> first | rfl | exact n) hb hx
  free := fun b o e n hx => by
    have nb : b ∉ cs := fun z => by obtain ⟨_, _, q⟩ := hc b z; rw [n] at q; cases q
    rw [rln_out nb]
    exact u.free b o e (by rw [unl_out nb]; exact n) hx
  there := u.there
  tups := fun b xs q => by
    have nb : b ∉ cs := fun z => by obtain ⟨_, _, y⟩ := hc b z; rw [q] at y; cases y
    rw [rln_out nb]
    exact u.tups b xs (by rw [unl_out nb]; exact q)
  frzs := fun b o x q => by
    by_cases z : b ∈ cs
    · rw [rln_in z]; exact q
    · rw [rln_out z]; exact u.frzs b o x (by rw [unl_out z]; exact q)
  tbls := fun b ps q => by
    have nb : b ∉ cs := fun z => by obtain ⟨_, _, y⟩ := hc b z; rw [q] at y; cases y
    rw [rln_out nb]
    exact u.tbls b ps (by rw [unl_out nb]; exact q)
end
structure ScM (N ps fr : List Str) (sc : Scope) : Prop where
  kind : sc.kind = .function
  co : sc.isCoroutine = false
  gen : sc.isGenerator = false
  nd : N.Nodup
  pre : N.take (ps ++ fr).length = ps ++ fr
  par : ∀ x ∈ ps, sc.names.lookup x = some .local
  fre : ∀ x ∈ fr, sc.names.lookup x = some .free
  cel : ∀ y ∈ sc.names, y.2 ≠ .cell
  all : ∀ y ∈ sc.names, y.2 = .free → y.1 ∈ fr
def cxM (CX : CXT) (P : Program) (w : World) (K : PySem.W.Frag) (mg : Str → Option Value) (base : Heap) (N : List Str) (qual : Str) (scope : Scope) (f : Addr) (cd : Value) (cl : List (Str × Addr)) (A : Around) (outer : List Env) (s : Shared) (H : Hp) (E : XK) : Cx where
  prog := P
  w := w
  K := K
  mg := mg
  base := base
  A := A.deeper (PySem.W.envX qual scope s.heap.objs.size f cd cl)
  N := N
  s₀ := s
  H₀ := unl (cl.map (·.2)) H
  env := PySem.W.envX qual scope s.heap.objs.size f cd cl
  outer := outer
  stack := PySem.W.envX qual scope s.heap.objs.size f cd cl :: outer
  ex := []
  calm := true
  fn := fun _ => false
  pn := []
  xe := fun e s' => wpAny (model P w) (A.deeper (PySem.W.envX qual scope s.heap.objs.size f cd cl)) (leaving (PySem.W.envX qual scope s.heap.objs.size f cd cl) e) (fun _ s'' => CX outer H s E e s'') (fun e' s'' => CX outer H s E e' s'') s'
theorem lkS_mem {β : Type} : ∀ {l : List (Str × β)} {x : Str} {y : β}, (l.map (·.1)).Nodup → (x, y) ∈ l → l.lookup x = some y
  | [], _, _, _, h => nomatch h
  | (a, b) :: l, x, y, nd, h => by
    rw [List.map_cons, List.nodup_cons] at nd
    rw [List.lookup_cons]
    rcases List.mem_cons.mp h with e | e
    · cases e
      rw [beq_self_eq_true]
    · have : x ≠ a := fun z => nd.1 (List.mem_map.mpr ⟨(x, y), e, z⟩)
      rw [beq_false_of_ne this]
      exact lkS_mem nd.2 e
theorem zip_look {ps : List Str} {us : List Value} (nd : ps.Nodup) {i : Nat} {x : Str} {u : Value} (h1 : ps[i]? = some x) (h2 : us[i]? = some u) : (ps.zip us).reverse.lookup x = some u := by
  refine lkS_mem ?_ (List.mem_reverse.mpr (List.mem_of_getElem? (i := i) (List.getElem?_zip_eq_some.mpr ⟨h1, h2⟩)))
  rw [List.map_reverse]
  refine (List.reverse_perm _).nodup_iff.mpr (nd.sublist ?_)
  have : ∀ (ps : List Str) (us : List Value), ((ps.zip us).map (·.1)).Sublist ps := by
    intro ps
    induction ps with
    | nil => intro us; exact List.Sublist.refl _
    | cons p ps ih =>
      intro us
      cases us with
      | nil => exact List.nil_sublist _
      | cons u us => exact (ih us).cons₂ _
  exact this ps us
section
variable {CX : CXT} {P : Program} {w : World} {K : PySem.W.Frag} {mg : Str → Option Value} {base : Heap} {N ps : List Str} {qual : Str} {scope : Scope} {f : Addr} {cd : Value} {cl : List (Str × Addr)} {A : Around} {outer : List Env} {s : Shared} {H : Hp} {E : XK} {us : List Value} {vs vals : List V}
def LentAll (H : Hp) (cl : List (Str × Addr)) (vals : List V) : Prop := cl.length = vals.length ∧ ∀ (i : Nat) x c v, cl[i]? = some (x, c) → vals[i]? = some v → Lent H c v
theorem LentAll.frz (l : LentAll H cl vals) : ∀ c ∈ cl.map (·.2), ∃ o φ, H c = some (.frz o (.ext φ)) := fun c hc => by
  obtain ⟨p, hp, rfl⟩ := List.mem_map.mp hc
  obtain ⟨i, hi⟩ := List.getElem?_of_mem hp
  have il := (List.getElem?_eq_some_iff.mp hi).1
  have iv : i < vals.length := by have := l.1; omega
  obtain ⟨o, e⟩ := l.2 i p.1 p.2 vals[i] hi (List.getElem?_eq_getElem iv)
  exact ⟨o, _, e⟩
theorem LentAll.cell {h : Heap} (l : LentAll H cl vals) (ok : HOk P w H h) {i : Nat} {x : Str} {c : Addr} {v : V} (e1 : cl[i]? = some (x, c)) (e2 : vals[i]? = some v) : ∃ u, RelV v u ∧ h.IsCell c (some u) := by
  obtain ⟨o, e⟩ := l.2 i x c v e1 e2
  exact (show h.get? c = some o ∧ ((∃ u, RelV v u ∧ h.IsCell c (some u)) ∧ _) from ok c _ e).2.1
theorem inv_startM (S : ScM N ps (cl.map (·.1)) scope) (hd : A.handled = none) (e0 : Env0 P w K mg base A outer s H) (hl : vs.length = ps.length) (r : Vals vs us) (nd2 : (cl.map (·.2)).Nodup) (ln : LentAll H cl vals) {h₁ : Heap} {tk : Nat}
    (hns : h₁.Ns s.heap.objs.size (fun x => (ps.zip us).reverse.lookup x)) (hk : ∀ b o, s.heap.get? b = some o → h₁.get? b = some o) :
    Inv (cxM CX P w K mg base N qual scope f cd cl A outer s H E) [] (start N (vs ++ vals)) (unl (cl.map (·.2)) H) { s with heap := h₁, toks := tk } := by
  have fz := ln.frz
  have noA : ∀ b : Addr, b ∉ (cxM CX P w K mg base N qual scope f cd cl A outer s H E).ex := fun b z => absurd (show b ∈ ([] : List Addr) from z) (by simp)
  have lkc : ∀ x c, cl.lookup x = some c → ∃ (i : Nat) (v : V), cl[i]? = some (x, c) ∧ vals[i]? = some v := fun x c h => by
    obtain ⟨i, hi⟩ := List.getElem?_of_mem (PySem.mem_of_lookup h)
    have il := (List.getElem?_eq_some_iff.mp hi).1
    exact ⟨i, vals[i]'(by have := ln.1; omega), hi, List.getElem?_eq_getElem _⟩
  have none_of : ∀ b, H b = none → unl (cl.map (·.2)) H b = none := fun b n => by unfold unl; split <;> first | rfl | exact n
  have hpl : (ps ++ cl.map (·.1)).length ≤ N.length := by have := congrArg List.length S.pre; rw [List.length_take] at this; omega
  have ndP : (ps ++ cl.map (·.1)).Nodup := by rw [← S.pre]; exact S.nd.sublist (List.take_sublist _ _)
  rw [List.nodup_append] at ndP
  refine ⟨⟨e0.mod, S.kind, rfl, rfl, Nat.le_refl _, fun y z c h1 h2 => ?_, fun y hy => ?_, fun y c z _ => ?_, fun _ => hd, Around.frames_deeper e0.frames, .inr ⟨rfl, rfl⟩, fun b z => absurd z (noA b), fun b o e => ⟨(e0.bs b o e).1, none_of b (e0.bs b o e).2⟩, e0.bsz, fun b _ _ => noA b, fun b z => absurd z (noA b), e0.funs, fun b hb => none_of b (e0.frf b hb)⟩,
    rfl, e0.bare, Un.kept hk, ⟨_, hns, fun i y v h1 h2 h3 => ?_⟩, fun y c h => ?_, none_of _ (e0.hok.fresh (Nat.le_refl _)), fun y c h => ?_, fun p hp => absurd (show p ∈ ([] : List (Addr × Obj)) from hp) (by simp), (hok_unl fz e0.hok).kept hk, ?_⟩
  · obtain ⟨i, _, hi, _⟩ := lkc y c h1
    obtain ⟨j, _, hj, _⟩ := lkc z c h2
    have il := (List.getElem?_eq_some_iff.mp hi).1
    have : i = j := (List.getElem?_inj (by rw [List.length_map]; exact il) nd2).mp (by rw [List.getElem?_map, List.getElem?_map, hi, hj]; rfl)
    subst this
    rw [hi] at hj
    cases hj
    rfl
  · have hy : scope.names.lookup y = some .cell ∨ scope.names.lookup y = some .free := hy
    rcases hy with hy | hy
    · exact absurd rfl (S.cel _ (PySem.mem_of_lookup hy))
    · obtain ⟨p, hp, e⟩ := List.mem_map.mp (S.all _ (PySem.mem_of_lookup hy) rfl)
      have e : p.1 = y := e
      exact ⟨p.2, lkS_mem ndP.2.1 (by rw [← e]; exact hp)⟩
  · exact absurd z Bool.false_ne_true
  · have hi : i < (vs ++ vals).length := by
      unfold start at h2
      by_cases hi : i < (vs ++ vals).length
      · exact hi
      · rw [List.getElem?_append_right (by simpa using hi)] at h2
        rw [List.getElem?_replicate] at h2
        split at h2 <;> cases h2
    have ha : (vs ++ vals)[i]? = some v := by
      unfold start at h2
      rw [List.getElem?_append_left (by simpa using hi), List.getElem?_map] at h2
      cases e : (vs ++ vals)[i]? with
      | none => rw [e] at h2; cases h2
      | some a => rw [e] at h2; cases h2; rfl
    have l1 := ln.1
    rw [List.length_append] at hi
    have hp : (ps ++ cl.map (·.1))[i]? = some y := by
      rw [← S.pre, List.getElem?_take_of_lt (by rw [List.length_append, List.length_map]; omega)]; exact h1
    by_cases z : i < vs.length
    · rw [List.getElem?_append_left z] at ha
      rw [List.getElem?_append_left (by omega)] at hp
      obtain ⟨u, hu, rv⟩ := r.get ha
      exact ⟨u, rv, .inl ⟨S.par y (List.mem_of_getElem? hp), zip_look ndP.1 hp hu⟩⟩
    · rw [List.getElem?_append_right (by omega)] at ha
      rw [List.getElem?_append_right (by omega), List.getElem?_map, ← hl] at hp
      cases e : cl[i - vs.length]? with
      | none => rw [e] at hp; cases hp
      | some q =>
        rw [e] at hp
        obtain ⟨x, c⟩ := q
        have hp : x = y := Option.some.inj hp
        subst hp
        obtain ⟨u, rv, ic⟩ := ln.cell e0.hok e ha
        have xm : x ∈ cl.map (·.1) := List.mem_map.mpr ⟨(x, c), List.mem_of_getElem? e, rfl⟩
        exact ⟨u, rv, .inr ⟨.inr (S.fre x xm), c, lkS_mem ndP.2.1 (List.mem_of_getElem? e), ic.keeps hk⟩⟩
  · obtain ⟨i, v, e1, e2⟩ := lkc y c h
    obtain ⟨u, _, ic⟩ := ln.cell e0.hok e1 e2
    exact ⟨_, ic.keeps hk⟩
  · obtain ⟨i, v, e1, e2⟩ := lkc y c h
    exact unl_in (List.mem_map.mpr ⟨(y, c), List.mem_of_getElem? e1, rfl⟩)
  · unfold start
    show _ = N.length
    rw [List.length_append, List.length_map, List.length_replicate, List.length_append]
    rw [List.length_append, List.length_map] at hpl
    have := ln.1
    omega
def spM (f c' : Addr) (fo : Obj) (qual : Str) (cl : List (Str × Addr)) (vals : List V) (sp : Sp) : Sp := fun vs H Q E => H f = some (FnO f fo) ∧ H c' = some (CdO c' qual) ∧ LentAll H cl vals ∧ sp vs (unl (cl.map (·.2)) H) (fun v H' => Q v (rln (cl.map (·.2)) H H')) E
theorem fn_ofM {k : Nat} {name : Str} {params : Arguments} {body : List Stmt} {c' : Addr} {doc pm ctv : Value} {sp : Sp} (S : ScM N ps (cl.map (·.1)) scope) (nd2 : (cl.map (·.2)).Nodup)
    (len : ∀ vs H Q E, sp vs H Q E → vs.length = ps.length)
    (hbody : ∀ (A : Around) (outer : List Env) (s : Shared) (H : Hp) (vs : List V) (Q : VK) (E : XK), Room k (A.deeper (PySem.W.envX qual scope s.heap.objs.size f (.ref c') cl)) → sp vs (unl (cl.map (·.2)) H) Q E →
      ∃ t, PSs (cxM CX P w K mg base N qual scope f (.ref c') cl A outer s H E) body t ∧ t { nx := fun _ H' => Q .non H', rt := Q } (start N (vs ++ vals)) (unl (cl.map (·.2)) H)) :
    FnOk P w K mg base CX (k + 1) f (PySem.W.fnX name qual params body scope cl .none .none doc pm none (.ref c') ctv) ps (spM f c' (PySem.W.fnMade name qual params body scope cl doc pm c' ctv) qual cl vals sp) := by
  refine ⟨fun vs H Q E h => len _ _ _ _ h.2.2.2, fun A outer s H args us vs Q E hr e0 hb r hsp => ?_⟩
  obtain ⟨hf, hc, ln, hs⟩ := hsp
  have hl := len _ _ _ _ hs
  have fz := ln.frz
  have lim : s.heap.NoLimit := e0.mod.nolimit.keeps fun b o e => (e0.bs b o e).1
  have of : s.heap.get? f = some (PySem.W.fnMade name qual params body scope cl doc pm c' ctv) := (show s.heap.get? f = some _ ∧ _ from e0.hok f _ hf).1
  have oc : s.heap.CodeRec (.ref c') qual := (show s.heap.CodeRec (.ref c') qual ∧ _ from e0.hok c' _ hc).1
  refine codeAny_call_def (fd := PySem.W.fnX name qual params body scope cl .none .none doc pm none (.ref c') ctv) hr.depth of rfl lim oc rfl hb S.cel (fun y hy => S.par y.1 (List.of_mem_zip (show (y.1, y.2) ∈ ps.zip us from hy)).1) (fun h₁ hns hk => ?_) S.co S.gen S.kind
  obtain ⟨t, ht, hq⟩ := hbody A outer s H vs _ E (hr.deeper _) hs
  have I : Inv (cxM CX P w K mg base N qual scope f (.ref c') cl A outer s H E) [] (start N (vs ++ vals)) (unl (cl.map (·.2)) H) { s with heap := h₁, toks := s.toks + (ps.zip us).length } := inv_startM S hr.hd e0 hl r nd2 ln hns hk
  refine wpAny_mono (ht [] _ (start N (vs ++ vals)) _ _ I hq) (fun fl s' hs => ?_) fun e s' hs => hs
  have fin : ∀ {σ' : St} {H' : Hp} {v : V} {u : Value}, Inv (cxM CX P w K mg base N qual scope f (.ref c') cl A outer s H E) [] σ' H' s' → RelV v u → Q v (rln (cl.map (·.2)) H H') → CE outer P w H s Q u s' := fun {σ' H' v u} J rv q => by
    have fr : ∀ c ∈ cl.map (·.2), H' c = none := fun c hc => by
      obtain ⟨p, hp, rfl⟩ := List.mem_map.mp hc
      have nd1 : (cl.map (·.1)).Nodup := by
        have := S.nd.sublist (List.take_sublist (ps ++ cl.map (·.1)).length N)
        rw [S.pre, List.nodup_append] at this
        exact this.2.1
      exact J.freeC p.1 p.2 (lkS_mem nd1 hp)
    have kp : ∀ c ∈ cl.map (·.2), ∀ o, s.heap.get? c = some o → s'.heap.get? c = some o := fun c hc o e => by
      refine J.base.keep c o e (unl_in hc) (fun z => ?_) (fun z => absurd (show c ∈ ([] : List Addr) from z) (by simp))
      obtain ⟨_, _, q⟩ := fz c hc
      rw [e0.frf c z] at q
      cases q
    exact ⟨v, _, J.os, J.bare, un_rln fz J.base, hok_rln fz e0.hok J.hok fr kp, rv, q⟩
  cases fl with
  | ret u =>
    obtain ⟨v, σ', H', J, rv, q⟩ := hs
    exact fin J rv q
  | next =>
    obtain ⟨σ', H', J, q⟩ := hs
    exact fin (v := V.non) (u := Value.none) J rfl q
  | brk =>
    obtain ⟨_, _, _, q⟩ := hs
    exact False.elim q
  | cont =>
    obtain ⟨_, _, _, q⟩ := hs
    exact False.elim q
end
end L2
set_option Elab.async false
set_option linter.all false
set_option maxRecDepth 100000
namespace L2
open PySem PySem.Spec PyProof.Rows
def BltM (base : Heap) (mg : Str → Option Value) : Prop := ∃ bm ob, mg "__builtins__" = some (.ref bm) ∧ bm ≠ builtinsNs ∧ bm ≠ mainGlobals ∧ base.get? bm = some ob ∧ ob.cls = .type "module" ∧ ob.dict = some builtinsNs ∧ ob.data = .plain
def tDef (Pt : Addr) (i : Nat) (pos : Pos) (qual : Str) (mk : Value → Addr → Value → Obj) : TS := fun D σ H => ∃ ps, H Pt = some (.tbl ps) ∧ TriplesOk ps.toList ∧ codeAmong pos ps.toList = none ∧
  ∀ f c' doc ctv H', H f = none → H c' = none → f ≠ c' → (∀ b, b ≠ f → b ≠ c' → b ≠ Pt → H' b = H b) → H' f = some (FnO f (mk doc c' ctv)) → H' c' = some (CdO c' qual) → H' Pt = some (.tbl (ps ++ #[rawInt pos.line, rawInt pos.col, .ref c'])) → D.nx (σ.set i (some (.ref f))) H'
section
variable {X : Cx}
theorem ps_def {name : Str} {params : Arguments} {body : List Stmt} {scope : Scope} {pos : Pos} {i : Nat} {c Pt : Addr} {clos : List (Str × Addr)} (hN : X.N.Nodup) (hi : X.N[i]? = some name) (hx : Loc X.env.scope name) (hf : X.fn name = true ∨ X.env.scope.names.lookup name = some .local)
    (hd0 : params.defaults = []) (hk0 : params.kw_defaults = []) (ha : annTrees params none X.env = []) (hcl : closureFor scope X.env = pure clos) (hcode : X.env.code = .ref c) (hC : PySem.W.CodeHd X.base c Pt) (hB : BltM X.base X.mg) :
    PS X (.FunctionDef name params body [] none [] scope none name pos) (tDef Pt i pos (qualnameIn X.env name name) fun doc c' ctv => PySem.W.fnMade name (qualnameIn X.env name name) params body scope clos doc ((X.mg "__name__").getD .none) c' ctv) := by
  intro pins s σ H D I h
  obtain ⟨ps, hP, ht, hn, q⟩ := h
  have oP : s.heap.get? Pt = some (PySem.W.tabObj ps) := I.hok Pt _ hP
  have nb : ∀ b o, X.base.get? b = some o → b ≠ Pt := fun b o e z => by have := (I.bs b o e).2; rw [z, hP] at this; cases this
  have hg : s.heap.Ns mainGlobals X.mg := I.mod.glob.keeps I.bk
  obtain ⟨bm, ob, b1, b2, b3, b4, b5⟩ := hB
  refine PySem.W.nestDef_K hd0 hk0 ha ?_
  refine PySem.W.makeFunction_K (mg := X.mg) hcl I.ok.glob hg hcode (hC.keeps I.bk) oP ht hn (by obtain ⟨o, _, _, e, _⟩ := I.mod.glob; exact nb _ _ e) ⟨bm, ob, b1, b2, b3, nb _ _ b4, I.bk _ _ b4, b5⟩ fun c' ctv doc h' tk hx' hge hlt hrec htb => ?_
  have hsz : s.heap.objs.size ≤ h'.objs.size := Nat.le_of_lt (Nat.lt_of_le_of_lt hge hlt)
  have Hf : H h'.objs.size = none := I.hok.fresh hsz
  have Hc : H c' = none := I.hok.fresh hge
  have nfc : h'.objs.size ≠ c' := Nat.ne_of_gt hlt
  have nfP : h'.objs.size ≠ Pt := fun z => by rw [z, hP] at Hf; cases Hf
  have ncP : c' ≠ Pt := fun z => by rw [z, hP] at Hc; cases Hc
  let H' : Hp := upd (upd (upd H Pt (.tbl (ps ++ #[rawInt pos.line, rawInt pos.col, .ref c']))) c' (CdO c' (qualnameIn X.env name name))) h'.objs.size (FnO h'.objs.size (PySem.W.fnMade name (qualnameIn X.env name name) params body scope clos doc ((X.mg "__name__").getD .none) c' ctv))
  have ef : H' h'.objs.size = some (FnO h'.objs.size (PySem.W.fnMade name (qualnameIn X.env name name) params body scope clos doc ((X.mg "__name__").getD .none) c' ctv)) := upd_same
  have ec : H' c' = some (CdO c' (qualnameIn X.env name name)) := by show upd _ _ _ c' = _; rw [upd_ne nfc.symm, upd_same]
  have eP : H' Pt = some (.tbl (ps ++ #[rawInt pos.line, rawInt pos.col, .ref c'])) := by show upd _ _ _ Pt = _; rw [upd_ne nfP.symm, upd_ne ncP.symm, upd_same]
  have eo : ∀ b, b ≠ h'.objs.size → b ≠ c' → b ≠ Pt → H' b = H b := fun b n1 n2 n3 => by show upd _ _ _ b = _; rw [upd_ne n1, upd_ne n2, upd_ne n3]
  have es : ∀ b u, H b = some u → b ≠ Pt → H' b = some u := fun b u e n => by rw [eo b (ne_of_none e Hf) (ne_of_none e Hc) n]; exact e
  have old : ∀ b o, b ≠ Pt → s.heap.get? b = some o → (h'.push (PySem.W.fnMade name (qualnameIn X.env name name) params body scope clos doc ((X.mg "__name__").getD .none) c' ctv)).get? b = some o := fun b o n e => Heap.get?_push_of_some _ (hx' b o n e)
  have np : ∀ b, H b = none → b ≠ Pt := fun b n z => by rw [z, hP] at n; cases n
  have I2 : Inv X pins σ H' { s with heap := h'.push (PySem.W.fnMade name (qualnameIn X.env name name) params body scope clos doc ((X.mg "__name__").getD .none) c' ctv), toks := tk } := by
    refine I.step (g' := s.gens) (d' := s.drawn) (t' := tk) (ch := []) (fun _ z => nomatch z) (fun b o _ _ _ e n => old b o (np b n) e) (fun b o _ _ _ e n => ⟨o.slots, old b o (np b n) e⟩) (fun b o _ e n => ?_) (fun b o _ e => ?_) (fun b xs e => es b _ e fun z => by rw [z, hP] at e; cases e) (fun b o u e => es b _ e fun z => by rw [z, hP] at e; cases e) (fun b qs e => ?_) (fun m hm => ?_) (fun a u e => ?_) I.bare
    · have lt := Heap.lt_size e
      rw [eo b (Nat.ne_of_lt (Nat.lt_of_lt_of_le lt hsz)) (Nat.ne_of_lt (Nat.lt_of_lt_of_le lt hge)) (np b n)]
      exact n
    · by_cases z : b = Pt
      · rw [z]; exact ⟨_, Heap.get?_push_of_some _ htb⟩
      · exact ⟨o, old b o z e⟩
    · by_cases z : b = Pt
      · rw [z, hP] at e
        cases e
        exact ⟨_, by rw [z]; exact eP⟩
      · exact ⟨#[], by rw [es b _ e z]; simp⟩
    · exact (hm.extBut hx' (np _ I.free)).push _
    · by_cases z1 : a = h'.objs.size
      · rw [z1, ef] at e
        cases e
        rw [z1]
        exact ⟨Heap.get?_push_size _ rfl, ⟨_, Heap.get?_push_size _ rfl⟩, fun h1 h2 e k => k _ e⟩
      by_cases z2 : a = c'
      · rw [z2, ec] at e
        cases e
        rw [z2]
        obtain ⟨c2, oc, vs, t, e2, hoc, hd, hv⟩ := id hrec
        cases e2
        refine ⟨⟨_, oc, vs, t, rfl, Heap.get?_push_of_some _ hoc, hd, hv⟩, ⟨oc, Heap.get?_push_of_some _ hoc⟩, ?_⟩
        rintro h1 h2 ⟨c2, oc, vs, t, e2, hoc, hd, hv⟩ k
        cases e2
        exact ⟨_, oc, vs, t, rfl, k _ hoc, hd, hv⟩
      by_cases z3 : a = Pt
      · rw [z3, eP] at e
        cases e
        rw [z3]
        exact Heap.get?_push_of_some _ htb
      · rw [eo a z1 z2 z3] at e
        refine (I.hok a u e).stay (fun b v hb r => old b v ?_ r) (fun b r => es b _ r fun z => by rw [z, hP] at r; cases r) fun b xs r => es b _ r fun z => by rw [z, hP] at r; cases r
        rcases hb with z | z
        · rw [z]; exact z3
        · exact fun y => by rw [y, hP] at z; cases z
  exact store_ok I2 hN hi hx (v := .ref h'.objs.size) rfl (fun s' I' => ⟨_, _, I', q h'.objs.size c' doc ctv H' Hf Hc nfc eo ef ec eP⟩) hf
end
end L2
set_option Elab.async false
set_option linter.all false
set_option maxRecDepth 100000
namespace L2
open PySem PySem.Spec PyProof.Rows
def unlQ (cs : List Addr) (Q : VK) : VK := fun v H3 => Q v (unl cs H3)
structure Lnd (H : Hp) (cl : List (Str × Addr)) (vals : List V) (H2 : Hp) : Prop where
  out : ∀ b, b ∉ cl.map (·.2) → H2 b = H b
  non : ∀ c ∈ cl.map (·.2), H c = none
  all : LentAll H2 cl vals
def tCallL (sp : Sp) (ix : List Nat) (cl : List (Str × Addr)) (t : TA) : TE := fun σ H Q => t σ H fun vs H1 => ∃ vals : List V, cl.length = vals.length ∧ (∀ (j : Nat) i v, ix[j]? = some i → vals[j]? = some v → σ[i]? = some (some v)) ∧
  ∀ H2, Lnd H1 cl vals H2 → sp vs H2 (unlQ (cl.map (·.2)) Q) E0
structure OwnC (X : Cx) (ix : List Nat) (cl : List (Str × Addr)) : Prop where
  len : ix.length = cl.length
  nd : (cl.map (·.2)).Nodup
  at_ : ∀ (j : Nat) i x c, ix[j]? = some i → cl[j]? = some (x, c) → X.N[i]? = some x ∧ X.env.scope.names.lookup x = some .cell ∧ X.env.cells.lookup x = some c ∧ X.fn x = true
def tCallM (OK : Addr → Sp → Prop) (tf : TE) (t : TA) : TE := fun σ H Q => tf σ H fun x H1 => ∃ f sp, x = .ref f ∧ OK f sp ∧ (∃ fo : Obj, (∃ fd, fo.data = .func fd) ∧ H1 f = some (FnO f fo)) ∧ t σ H1 fun vs H2 => sp vs H2 Q E0
section
variable {X : Cx}
theorem run_fnL {k : Nat} {f : Addr} {fd : FuncData} {ps : List Str} {sp : Sp} {ix : List Nat} {cl : List (Str × Addr)} {vals : List V} {pins : List (Addr × Obj)} {σ : St} {H : Hp} {s : Shared} {Q : VK} {us : List Value} {vs : List V} (F : FnOk X.prog X.w X.K X.mg X.base CX0 k f fd ps sp) (hr : Room k X.A) (hb : Binds X.K fd ps []) (hx : Passes CX0 X E0)
    (O : OwnC X ix cl) (I : Inv X pins σ H s) (r : Vals vs us) (lv : cl.length = vals.length) (hv : ∀ (j : Nat) i v, ix[j]? = some i → vals[j]? = some v → σ[i]? = some (some v)) (h : ∀ H2, Lnd H cl vals H2 → sp vs H2 (unlQ (cl.map (·.2)) Q) E0) :
    wpAny (model X.prog X.w) X.A (call (.ref f) us) (EP X pins σ Q) X.xe s := by
  have cell : ∀ (j : Nat) x c v, cl[j]? = some (x, c) → vals[j]? = some v → (∃ u, RelV v u ∧ s.heap.IsCell c (some u)) ∧ X.env.cells.lookup x = some c ∧ X.fn x = true := fun j x c v e1 e2 => by
    have jl := (List.getElem?_eq_some_iff.mp e1).1
    have jx : j < ix.length := by have := O.len; omega
    have hj : ix[j]? = some ix[j] := List.getElem?_eq_getElem jx
    obtain ⟨a1, a2, a3, a4⟩ := O.at_ j _ x c hj e1
    obtain ⟨m, hn, hl⟩ := I.loc
    obtain ⟨u, ru, lo⟩ := hl _ x v a1 (hv j _ v hj e2) (.inr (.inl a2))
    rcases lo with ⟨z, _⟩ | ⟨_, c2, e3, ic⟩
    · have z : X.env.scope.names.lookup x = some .local := z
      rw [a2] at z; cases z
    · rw [a3] at e3
      cases e3
      exact ⟨⟨u, ru, ic⟩, a3, a4⟩
  have cm : ∀ c ∈ cl.map (·.2), ∃ (j : Nat) (x : Str) (v : V), cl[j]? = some (x, c) ∧ vals[j]? = some v := fun c hc => by
    obtain ⟨p, hp, rfl⟩ := List.mem_map.mp hc
    obtain ⟨j, hj⟩ := List.getElem?_of_mem hp
    have jl := (List.getElem?_eq_some_iff.mp hj).1
    exact ⟨j, p.1, vals[j]'(by omega), hj, List.getElem?_eq_getElem _⟩
  have cn : ∀ c ∈ cl.map (·.2), H c = none := fun c hc => by
    obtain ⟨j, x, v, e1, e2⟩ := cm c hc
    exact I.freeC x c (cell j x c v e1 e2).2.1
  have cab : ∀ c ∈ cl.map (·.2), X.s₀.heap.objs.size ≤ c := fun c hc => by
    obtain ⟨j, x, v, e1, e2⟩ := cm c hc
    exact I.ok.cab x c (cell j x c v e1 e2).2.2 (cell j x c v e1 e2).2.1
  have cns : ∀ c ∈ cl.map (·.2), c ∉ frs X.stack := fun c hc hb => by
    rcases List.mem_cons.mp (I.stkSub c hb) with z | z
    · obtain ⟨j, x, v, e1, e2⟩ := cm c hc
      exact I.cne x c (cell j x c v e1 e2).2.1 z
    · obtain ⟨_, o, ho, _⟩ := I.ok.funs.mem z
      exact absurd (Nat.lt_of_lt_of_le (Heap.lt_size ho) (cab c hc)) (Nat.lt_irrefl _)
  have ex : ∃ H2 : Hp, (∀ b, b ∉ cl.map (·.2) → H2 b = H b) ∧ ∀ (j : Nat) x c v, cl[j]? = some (x, c) → vals[j]? = some v → ∃ o, s.heap.get? c = some o ∧ H2 c = some (.frz o (CelO c v)) := by
    refine ⟨fun b => match (cl.zip vals).find? (fun p => decide (p.1.2 = b)) with | some p => (s.heap.get? b).map fun o => .frz o (CelO b p.2) | none => H b, fun b hb => ?_, fun j x c v e1 e2 => ?_⟩
    · have : (cl.zip vals).find? (fun p => decide (p.1.2 = b)) = none := List.find?_eq_none.mpr fun p hp z => hb (List.mem_map.mpr ⟨p.1, (List.of_mem_zip (show (p.1, p.2) ∈ cl.zip vals from hp)).1, of_decide_eq_true z⟩)
      dsimp only
      rw [this]
    · obtain ⟨⟨u, ru, o, eo, d⟩, _⟩ := cell j x c v e1 e2
      refine ⟨o, eo, ?_⟩
      have mz : ((x, c), v) ∈ cl.zip vals := List.mem_of_getElem? (i := j) (List.getElem?_zip_eq_some.mpr ⟨e1, e2⟩)
      cases hf : (cl.zip vals).find? (fun p => decide (p.1.2 = c)) with
      | none => exact absurd (decide_eq_true rfl) (List.find?_eq_none.mp hf _ mz)
      | some p =>
        have pc : p.1.2 = c := by have := List.find?_some hf; simpa using this
        obtain ⟨j2, hj2⟩ := List.getElem?_of_mem (List.mem_of_find?_eq_some hf)
        obtain ⟨f1, f2⟩ := List.getElem?_zip_eq_some.mp hj2
        have jl := (List.getElem?_eq_some_iff.mp e1).1
        have : j = j2 := (List.getElem?_inj (by rw [List.length_map]; exact jl) O.nd).mp (by rw [List.getElem?_map, List.getElem?_map, e1, f1, ← pc]; rfl)
        subst this
        rw [e2] at f2
        have pv : p.2 = v := (Option.some.inj f2).symm
        dsimp only
        rw [hf]
        dsimp only
        rw [eo, pv]
        rfl
  obtain ⟨H2, out, inn⟩ := ex
  have ln : LentAll H2 cl vals := ⟨lv, fun j x c v e1 e2 => let ⟨o, _, e⟩ := inn j x c v e1 e2; ⟨o, e⟩⟩
  have ld : Lnd H cl vals H2 := ⟨out, cn, ln⟩
  have es : ∀ b u, H b = some u → b ∉ cl.map (·.2) ∧ H2 b = some u := fun b u e => by
    have nb : b ∉ cl.map (·.2) := fun z => by rw [cn b z] at e; cases e
    exact ⟨nb, by rw [out b nb]; exact e⟩
  have ok2 : HOk X.prog X.w H2 s.heap := fun a o e => by
    by_cases z : a ∈ cl.map (·.2)
    · obtain ⟨j, x, v, e1, e2⟩ := cm a z
      obtain ⟨ob, eo, e3⟩ := inn j x a v e1 e2
      rw [e3] at e
      cases e
      refine ⟨eo, (cell j x a v e1 e2).1, ⟨ob, eo⟩, ?_⟩
      rintro h1 h2 ⟨u, ru, o, eo, d⟩ k
      exact ⟨u, ru, o, k _ eo, d⟩
    · rw [out a z] at e
      exact (I.hok a o e).stay (fun _ _ _ q => q) (fun b q => (es b _ q).2) fun b xs q => (es b _ q).2
  have e0 : Env0 X.prog X.w X.K X.mg X.base X.A X.stack s H2 := ⟨I.ok.frames, I.ok.mod, fun b o e => ⟨(I.bs b o e).1, by
      rw [out b fun z => absurd (Nat.lt_of_lt_of_le (Heap.lt_size e) (Nat.le_trans I.ok.bsz (cab b z))) (Nat.lt_irrefl _)]
      exact (I.bs b o e).2⟩, Nat.le_trans I.ok.bsz I.sz, I.stack, fun b hb => by rw [out b fun z => cns b z hb]; exact I.stkFree b hb, ok2, I.bare⟩
  have hs := h H2 ld
  have hl : us.length = ps.length := by rw [← r.length]; exact F.len _ _ _ _ hs
  refine wpAny_call (codeAny_mono (F.run X.A X.stack s H2 ⟨us, []⟩ us vs _ E0 hr e0 (by have := hb s us I.kIn (by rw [List.append_nil]; exact hl); rw [List.append_nil] at this; exact this) r hs) fun r' s' hq => ?_)
  cases r' with
  | error e => exact hx pins σ H s e s' I (by exact hq.elim)
  | ok fl =>
    cases fl with
    | next => exact False.elim hq
    | brk => exact False.elim hq
    | cont => exact False.elim hq
    | ret u =>
      obtain ⟨v, H3, os, bare, un, hok3, rv, q⟩ := hq
      have fz : ∀ c ∈ cl.map (·.2), ∃ o φ, s.heap.get? c = some o ∧ H3 c = some (.frz o (.ext φ)) := fun c hc => by
        obtain ⟨j, x, v, e1, e2⟩ := cm c hc
        obtain ⟨o, eo, e3⟩ := inn j x c v e1 e2
        exact ⟨o, _, eo, un.frzs c o _ e3⟩
      have fz' : ∀ c ∈ cl.map (·.2), ∃ o φ, H3 c = some (.frz o (.ext φ)) := fun c hc => let ⟨o, φ, _, e⟩ := fz c hc; ⟨o, φ, e⟩
      have un2 : Un (frs X.stack) [] H (unl (cl.map (·.2)) H3) s.heap s'.heap := by
        refine ⟨fun b o e n hb hx => ?_, fun b o e n hb hx => ?_, fun b o e n hx => ?_, un.there, fun b xs e => ?_, fun b o u e => ?_, fun b qs e => ?_⟩
        · by_cases z : b ∈ cl.map (·.2)
          · obtain ⟨o', φ, eo, e3⟩ := fz b z
            rw [e] at eo
            cases eo
            exact (show s'.heap.get? b = some o ∧ _ from hok3 b _ e3).1
          · exact un.keep b o e (by rw [out b z]; exact n) hb hx
        · exact un.slot b o e (by rw [out b fun z => cns b z hb]; exact n) hb hx
        · by_cases z : b ∈ cl.map (·.2)
          · exact unl_in z
          · rw [unl_out z]; exact un.free b o e (by rw [out b z]; exact n) hx
        · obtain ⟨nb, e2⟩ := es b _ e
          rw [unl_out nb]; exact un.tups b xs e2
        · obtain ⟨nb, e2⟩ := es b _ e
          rw [unl_out nb]; exact un.frzs b o u e2
        · obtain ⟨nb, e2⟩ := es b _ e
          rw [unl_out nb]; exact un.tbls b qs e2
      obtain ⟨hh, g, d, t, os'⟩ := s'
      obtain rfl : os' = s.os := os
      exact ⟨v, _, I.call (h' := hh) (g' := g) (d' := d) (t' := t) (ch := []) un2 (hok_unl fz' hok3) bare (fun b z => absurd z (by simp)), rv, q⟩
theorem pe_callL {k : Nat} {f : Addr} {fd : FuncData} {ps : List Str} {sp : Sp} {ix : List Nat} {cl : List (Str × Addr)} {x : Str} {p pos : Pos} {e : Expr} {es : List Expr} {t : TA} (F : FnOk X.prog X.w X.K X.mg X.base CX0 k f fd ps sp) (hr : Room k X.A) (hg : Gl X x) (hm : X.mg x = some (.ref f)) (hk : PySem.W.keepIn X.K (.ref f) = true) (hb : Binds X.K fd ps []) (hx : Passes CX0 X E0)
    (O : OwnC X ix cl) (ha : PA X (e :: es) t) (hdb : (x == ("__debug__" : Str)) = false := by decide) (he : starEach (e :: es) X.env = (false, eval e X.env) :: starEach es X.env := by rfl) (hpl : (backTo pos (starEach es X.env)).any (·.1) = false := by rfl) :
    PE X (.Call (.Name x p) (e :: es) [] pos) (tCallL sp ix cl t) := by
  intro pins s σ H Q I h
  refine wpAny_Call_Name_kw (ld_glob I hg hm ?_ hdb)
  refine PySem.W.callWith_K (h₀ := X.base) I.ok.mod.kin hk (thn (ha pos pins s σ H _ I h) fun us s1 ⟨vs, H1, I1, r, vals, lv, hv, q⟩ => ⟨I1.kIn, ?_⟩) he hpl
  exact run_fnL F hr hb hx O I1 r lv hv q
theorem pe_callM {OK : Addr → Sp → Prop} {k : Nat} {x : Str} {p pos : Pos} {e : Expr} {es : List Expr} {tf : TE} {t : TA} (hOK : ∀ f sp, OK f sp → (∃ fd ps, FnOk X.prog X.w X.K X.mg X.base CX0 k f fd ps sp ∧ Binds X.K fd ps []) ∧ ∀ vs H Q E, sp vs H Q E → ∃ fo : Obj, (∃ fd, fo.data = .func fd) ∧ H f = some (FnO f fo))
    (hr : Room k X.A) (hp : Passes CX0 X E0) (hf : PE X (.Name x p) tf) (ha : PA X (e :: es) t) (he : starEach (e :: es) X.env = (false, eval e X.env) :: starEach es X.env := by rfl) (hpl : (backTo pos (starEach es X.env)).any (·.1) = false := by rfl) :
    PE X (.Call (.Name x p) (e :: es) [] pos) (tCallM OK tf t) := by
  intro pins s σ H Q I h
  refine wpAny_Call_Name_kw (thn (hf pins s σ H _ I h) fun u s1 ⟨v, H1, I1, r1, q1⟩ => ?_)
  obtain ⟨f, sp, rfl, ok, ⟨fo1, ⟨fd1, d1⟩, e1⟩, q⟩ := q1
  cases r1
  obtain ⟨⟨fd, ps, F, hb⟩, hH⟩ := hOK f sp ok
  have at1 : ∀ {H1 : Hp} {s1 : Shared} {fo : Obj} {fd : FuncData}, HOk X.prog X.w H1 s1.heap → H1 f = some (FnO f fo) → fo.data = .func fd → PySem.W.FnAt f s1.heap := fun {H1 s1 fo fd} ok e d => by
    have := (show s1.heap.get? f = some fo ∧ _ from ok f _ e).1
    obtain ⟨c, di, dat, sl⟩ := fo
    have d : dat = .func fd := d
    subst d
    exact ⟨c, di, fd, sl, this⟩
  refine PySem.W.callWith_F (first := []) (at1 I1.hok e1 d1) (thn (ha pos pins s1 σ H1 _ I1 q) fun us s2 ⟨vs, H2, I2, r, q2⟩ => ?_) he hpl
  obtain ⟨fo2, ⟨fd2, d2⟩, e2⟩ := hH _ _ _ _ q2
  exact ⟨at1 I2.hok e2 d2, run_fn F hr hb .nil hp I2 r (by rw [List.append_nil]; exact q2)⟩
theorem x_callL {sp : Sp} {ix : List Nat} {cl : List (Str × Addr)} {t : TA} {σ : St} {H : Hp} {Q : VK} (h : t σ H fun vs H1 => ∃ vals : List V, cl.length = vals.length ∧ (∀ (j : Nat) i v, ix[j]? = some i → vals[j]? = some v → σ[i]? = some (some v)) ∧
    ∀ H2, Lnd H1 cl vals H2 → sp vs H2 (unlQ (cl.map (·.2)) Q) E0) : tCallL sp ix cl t σ H Q := h
theorem x_callM {OK : Addr → Sp → Prop} {tf : TE} {t : TA} {σ : St} {H : Hp} {Q : VK} (h : tf σ H fun x H1 => ∃ f sp, x = .ref f ∧ OK f sp ∧ (∃ fo : Obj, (∃ fd, fo.data = .func fd) ∧ H1 f = some (FnO f fo)) ∧ t σ H1 fun vs H2 => sp vs H2 Q E0) : tCallM OK tf t σ H Q := h
end
end L2
set_option Elab.async false
set_option linter.all false
set_option maxRecDepth 100000
namespace L2
open PySem PySem.Spec PyProof.Rows
def OnlyT (ts : List Addr) (H : Hp) : Prop := (∀ b, H b = none ∨ (∃ o xs, H b = some (.frz o (.lst xs))) ∨ (b ∈ ts ∧ H b = some (.tbl #[]))) ∧ ∀ t ∈ ts, H t = some (.tbl #[])
theorem law_callT {P : Program} {w : World} {K : PySem.W.Frag} {mg mb : Str → Option Value} {k : Nat} {fa a : Addr} {fd : FuncData} {x : Str} {sp : Sp} {s₁ : Shared} {vs : List Value} {ns : List Int} {ts : List Addr}
    (KX : K.In s₁.heap) (hns : s₁.heap.Ns mainGlobals mg) (hb : s₁.heap.Ns builtinsNs mb) (hbb : ∀ x : Str, x ≠ "__name__" → mb x = bootBuiltins x) (hlim : s₁.heap.NoLimit) (hg : s₁.gens = #[]) (hB : BltM s₁.heap mg)
    (ha : s₁.heap.get? a = some { cls := .type "list", data := .seq vs.toArray }) (hi : IntsAre vs ns) (hl : ns.length ≤ sizeLine) (hr : Room k callerA)
    (hts : ∀ t ∈ ts, K.lookup t = none ∧ s₁.heap.get? t = some (PySem.W.tabObj #[]) ∧ isCodeTable s₁.heap t)
    (F : ∀ base : Heap, K.In base → base.Ns mainGlobals mg → BltM base mg → FnOk P w K mg base CX0 k fa fd [x] sp) (hbind : ∀ (s : Shared) (u : Value), BindsTo s fd ⟨[u], []⟩ [(x, u)])
    (hsp : ∀ H : Hp, OnlyT ts H → SqL K H a (ns.map V.int) → sp [.ref a] H (fun v _ => v = .bl true) fun _ _ _ => False)
    (hCX : ∀ H e s', CX0 [] H s₁ (fun _ _ _ => False) e s' → False) :
    codeAny (model P w) callerA (.call (.ref fa) ⟨[.ref a], []⟩) (fun r s' => r = .ok (.ret (.bool true)) ∧ OldK s₁.heap s'.heap ∧ s'.os = s₁.os ∧ AllBare s'.gens) s₁ := by
  have rv := vals_ints hi
  have lenV := hi.length
  have nta : ∀ t ∈ ts, t ≠ a := fun t ht z => by
    have := (hts t ht).2.1
    rw [z, ha] at this
    cases this
  have core : ∀ H : Hp, OnlyT ts H → SqL K H a (ns.map V.int) → HOk P w H s₁.heap → (∀ b, H b ≠ none → b = a ∨ b ∈ ts) → (H a ≠ none → K.lookup a = none) →
      codeAny (model P w) callerA (.call (.ref fa) ⟨[.ref a], []⟩) (fun r s' => r = .ok (.ret (.bool true)) ∧ OldK s₁.heap s'.heap ∧ s'.os = s₁.os ∧ AllBare s'.gens) s₁ := by
    intro H hO hS hok hA hK
    have free : ∀ {b : Addr} {o : Obj}, s₁.heap.get? b = some o → (∀ it n, o.data ≠ .seq it n) → (∀ fs, o.data ≠ .fields fs) → H b = none := fun {b o} e n1 n2 => by
      cases q : H b with
      | none => rfl
      | some u =>
        rcases hA b (by rw [q]; simp) with z | z
        · rw [z, ha] at e; cases e; exact absurd rfl (n1 _ _)
        · rw [(hts b z).2.1] at e; cases e; exact absurd rfl (n2 _)
    have nsK : ∀ {b : Addr} {m : Str → Option Value}, s₁.heap.Ns b m → (hidT s₁.heap H).Ns b m := fun {b m} ⟨o, es, ep, e, d, r⟩ => ⟨o, es, ep, hidT_get e (free e (fun _ _ z => by rw [d] at z; cases z) fun _ z => by rw [d] at z; cases z), d, r⟩
    have hKb : K.In (hidT s₁.heap H) := fun b o e => hidT_get (KX b o e) (by
      cases q : H b with
      | none => rfl
      | some u =>
        rcases hA b (by rw [q]; simp) with z | z
        · subst z; rw [hK (by rw [q]; simp)] at e; cases e
        · rw [(hts b z).1] at e; cases e)
    have hM : Mod K mg (hidT s₁.heap H) := ⟨hKb, nsK hns, ⟨mb, nsK hb, hbb⟩, let ⟨mc, h1, h2⟩ := hlim; ⟨mc, nsK h1, h2⟩⟩
    have hB' : BltM (hidT s₁.heap H) mg := let ⟨bm, ob, b1, b2, b3, b4, b5, b6, b7⟩ := hB; ⟨bm, ob, b1, b2, b3, hidT_get b4 (free b4 (fun _ _ z => by rw [b7] at z; cases z) fun _ z => by rw [b7] at z; cases z), b5, b6, b7⟩
    have e0 : Env0 P w K mg (hidT s₁.heap H) callerA [] s₁ H := ⟨rfl, hM, fun b o e => of_hidT e, Nat.le_of_eq (hidT_size _ _), trivial, fun b hb => absurd (show b ∈ ([] : List Addr) from hb) (by simp), hok, .of_eq hg⟩
    refine codeAny_mono ((F _ hKb (nsK hns) hB').run callerA [] s₁ H ⟨[.ref a], []⟩ [.ref a] [.ref a] _ _ hr e0 (hbind s₁ (.ref a)) (.cons rfl .nil) (hsp H hO hS)) fun r s' h => ?_
    cases r with
    | error e => exact (hCX H e s' h).elim
    | ok fl =>
      cases fl with
      | next => exact False.elim h
      | brk => exact False.elim h
      | cont => exact False.elim h
      | ret u =>
        obtain ⟨v, H', os, bare, un, hok', r', q⟩ := h
        have q' : v = .bl true := q
        subst q'
        obtain rfl : u = Value.bool true := r'
        have grown : ∀ t ∈ ts, ∃ ps, s'.heap.get? t = some (PySem.W.tabObj ps) := fun t ht => by
          obtain ⟨more, e⟩ := un.tbls t #[] (hO.2 t ht)
          exact ⟨_, (show s'.heap.get? t = some { cls := .none, data := .fields (#[] ++ more) } from hok' t _ e)⟩
        have keep : ∀ b o, b ∉ ts → s₁.heap.get? b = some o → s'.heap.get? b = some o := fun b o nb e => by
          rcases hO.1 b with z | ⟨ob, xs, z⟩ | ⟨z, _⟩
          · exact un.keep b o e z (by intro z; exact absurd (show b ∈ ([] : List Addr) from z) (by simp)) (by simp)
          · obtain ⟨e1, _⟩ := hok b _ z
            obtain ⟨e2, _⟩ := hok' b _ (un.frzs b ob _ z)
            rw [e] at e1; cases e1
            exact e2
          · exact absurd z nb
        refine ⟨rfl, ⟨fun b o e => ?_, fun b o e => ?_⟩, os, bare⟩
        · by_cases hb : b ∈ ts
          · obtain ⟨ps, hP⟩ := grown b hb
            obtain ⟨_, e2, ct⟩ := hts b hb
            rw [e] at e2
            cases e2
            exact .inr (.inl ⟨ct, rfl, #[], ps, rfl, by rw [Array.empty_append]; exact hP⟩)
          · exact .inl (keep b o hb e)
        · by_cases hb : b ∈ ts
          · obtain ⟨ps, hP⟩ := grown b hb
            exact ⟨_, hP⟩
          · exact ⟨o, keep b o hb e⟩
  cases hk : K.lookup a with
  | some o =>
    have e := KX a o hk
    rw [ha] at e
    cases e
    refine core (fun b => if b ∈ ts then some (.tbl #[]) else none) ⟨fun b => ?_, fun t ht => if_pos ht⟩ (.inr ⟨_, vs.toArray, _, hk, rfl, rfl, rfl, by rw [List.size_toArray, lenV]; exact hl, by simpa using rv⟩) (fun b u z => ?_) (fun b z => ?_) fun z => ?_
    · by_cases hb : b ∈ ts
      · exact .inr (.inr ⟨hb, if_pos hb⟩)
      · exact .inl (if_neg hb)
    · by_cases hb : b ∈ ts
      · have z' := (if_pos hb).symm.trans z
        cases z'
        exact (hts b hb).2.1
      · have z' := (if_neg hb).symm.trans z
        cases z'
    · by_cases hb : b ∈ ts
      · exact .inr hb
      · exact absurd (if_neg hb) z
    · exact absurd (if_neg fun q => nta a q rfl) z
  | none =>
    refine core (fun b => if b = a then some (.frz { cls := .type "list", data := .seq vs.toArray } (.lst (ns.map V.int))) else if b ∈ ts then some (.tbl #[]) else none) ⟨fun b => ?_, fun t ht => ?_⟩ (.inl (.inr ⟨{ cls := .type "list", data := .seq vs.toArray }, if_pos rfl⟩)) (fun b u z => ?_) (fun b z => ?_) fun _ => hk
    · by_cases hb : b = a
      · exact .inr (.inl ⟨_, _, if_pos hb⟩)
      · by_cases ht : b ∈ ts
        · exact .inr (.inr ⟨ht, by dsimp only; rw [if_neg hb, if_pos ht]⟩)
        · exact .inl (by dsimp only; rw [if_neg hb, if_neg ht])
    · dsimp only
      rw [if_neg (nta t ht), if_pos ht]
    · dsimp only at z
      by_cases hb : b = a
      · rw [if_pos hb] at z
        cases z
        subst hb
        exact ⟨ha, by rw [List.length_map]; exact hl, vs, _, rv, ha⟩
      · rw [if_neg hb] at z
        by_cases ht : b ∈ ts
        · rw [if_pos ht] at z
          cases z
          exact (hts b ht).2.1
        · rw [if_neg ht] at z
          cases z
    · by_cases hb : b = a
      · exact .inl hb
      · rw [if_neg hb] at z
        by_cases ht : b ∈ ts
        · exact .inr ht
        · rw [if_neg ht] at z
          exact absurd rfl z
theorem walk_ofT {l : PySem.W.OpenLaw} {n k : Nat} {q : Program} {loose : List Str} {XP : (Str → Option Value) → Heap → Prop} {YP : World → Heap → Prop} {d : DefRec} {K : Params → PySem.W.Frag} {sp : World → Sp} {x : Str} {tabs : List (Addr × Addr)}
    (hn : l.most = some n) (hn2 : n ≤ sizeLine) (hdf : d.params.defaults = []) (hr : Room k callerA)
    (hY : ∀ (w : World) (h : Heap), YP w h → (K w.params).In h ∧ ∀ t ∈ tabs.map (·.2), h.get? t = some (PySem.W.tabObj #[]))
    (hK : ∀ (w : World), ∀ q ∈ tabs, PySem.W.codeHdIn (K w.params) q.1 q.2 = true ∧ (K w.params).lookup q.2 = none)
    (F : ∀ (w : World) (mg : Str → Option Value) (fa : Addr) (h : Heap), (K w.params).In h → h.Ns mainGlobals mg → mg d.name = some (.ref fa) →
      ∃ fd : FuncData, (∀ (s : Shared) (u : Value), BindsTo s fd ⟨[u], []⟩ [(x, u)]) ∧
        ∀ base : Heap, (K w.params).In base → base.Ns mainGlobals mg → BltM base mg → FnOk l.prog w (K w.params) mg base CX0 k fa fd [x] (sp w))
    (hsp : ∀ (w : World) (H : Hp) (a : Addr) (ns : List Int), ns.length ≤ n → OnlyT (tabs.map (·.2)) H → SqL (K w.params) H a (ns.map V.int) → sp w [.ref a] H (fun v _ => v = .bl true) fun _ _ _ => False)
    (hCX : ∀ (H : Hp) (s : Shared) (e : Value) (s' : Shared), CX0 [] H s (fun _ _ _ => False) e s' → False) :
    PySem.W.WalkO q loose XP YP l.row.toRowW d [] (fun f vs => PySem.call f vs) := by
  refine Att.attach_call hn hdf fun w s₀ s₁ mg mb fa o pm cd doc a vs ns G Y ho hd hcd hmg hobj hints hlen hg => ?_
  obtain ⟨KX, hT⟩ := hY w _ Y
  obtain ⟨fd, hb, hF⟩ := F w mg fa _ KX G.T.g hmg
  have hB : BltM s₁.heap mg := by
    obtain ⟨bm, ob, b1, b2, b3, b4, b5, b6⟩ := G.T.bmain
    refine ⟨bm, ob, b1, b2, fun z => ?_, b3, b4, b5, b6⟩
    obtain ⟨o, es, ep, e, hd, _⟩ := G.T.g
    rw [z, e] at b3; cases b3; rw [hd] at b6; cases b6
  refine law_callT (ts := tabs.map (·.2)) KX G.T.g G.T.b G.T.builtins G.T.nolimit hg hB hobj hints (Nat.le_trans hlen hn2) hr (fun t ht => ?_) hF hb (fun H hO hS => hsp w H a ns hlen hO hS) fun H e s' => hCX H s₁ e s'
  obtain ⟨q, hq, rfl⟩ := List.mem_map.mp ht
  obtain ⟨h1, h2⟩ := hK w q hq
  exact ⟨h2, hT _ ht, ((PySem.W.codeHd_of_K KX h1).tab (hT _ ht)).isCodeTable⟩
end L2
set_option Elab.async false
set_option linter.all false
set_option maxRecDepth 100000
namespace L2
open PySem PySem.Spec PyProof.Rows
structure FunC (K : PySem.W.Frag) (x qual : Str) (st : Stmt) (f : Addr) (fd : FuncData) (c : Addr) : Prop where
  ex : ∃ (oc : Value) (od : Option Addr) (kV doc pm : Value) (an : Option Addr) (ct : Value) (osl : Array (Option Value)),
    fd = PySem.W.fnOf x qual (defArgs st) (defBody st) (defScope st) .none kV doc pm an (.ref c) ct ∧ K.lookup f = some ⟨oc, od, .func fd, osl⟩ ∧ PySem.W.codeIn K (.ref c) qual = true
def inDef (s : Stmt) (j : Nat) : Stmt := (defBody s).getD j (.Pass ⟨0, 0, 0, 0⟩)
section
variable {P : Program} {w : World} {K : PySem.W.Frag} {mg : Str → Option Value} {base : Heap}
theorem FunC.ok {x qual : Str} {st : Stmt} {f c : Addr} {fd : FuncData} {N ps : List Str} {k : Nat} {sp : Sp} (F : FunC K x qual st f fd c) (S : FnScope N ps (defScope st)) (len : ∀ vs H Q E, sp vs H Q E → vs.length = ps.length)
    (hbody : ∀ (A : Around) (outer : List Env) (s : Shared) (H : Hp) (vs : List V) (Q : VK) (E : XK), Room k (A.deeper (envOfC qual (defScope st) s.heap.objs.size f (.ref c))) → sp vs H Q E →
      ∃ t, PSs (cxOf CX0 P w K mg base N qual (defScope st) f (.ref c) A outer s H E).nox (defBody st) t ∧ t { nx := fun _ H' => Q .non H', rt := Q } (start N vs) H) : FnOk P w K mg base CX0 (k + 1) f fd ps sp := by
  obtain ⟨oc, od, kV, doc, pm, an, ct, osl, rfl, lk, hcd⟩ := F.ex
  refine fn_of lk hcd S len fun A outer s H vs Q E hr hsp => ?_
  obtain ⟨t, h, q⟩ := hbody A outer s H vs Q E hr hsp
  exact ⟨t, h.nox, q⟩
theorem made_ok {N ps : List Str} {k : Nat} {st : Stmt} {name qual : Str} {f c' : Addr} {doc pm ctv : Value} {cl : List (Str × Addr)} {vals : List V} {sp : Sp} (S : ScM N ps (cl.map (·.1)) (defScope st)) (nd2 : (cl.map (·.2)).Nodup) (len : ∀ vs H Q E, sp vs H Q E → vs.length = ps.length)
    (hbody : ∀ (A : Around) (outer : List Env) (s : Shared) (H : Hp) (vs : List V) (Q : VK) (E : XK), Room k (A.deeper (PySem.W.envX qual (defScope st) s.heap.objs.size f (.ref c') cl)) → sp vs (unl (cl.map (·.2)) H) Q E →
      ∃ t, PSs (cxM CX0 P w K mg base N qual (defScope st) f (.ref c') cl A outer s H E).nox (defBody st) t ∧ t { nx := fun _ H' => Q .non H', rt := Q } (start N (vs ++ vals)) (unl (cl.map (·.2)) H)) :
    FnOk P w K mg base CX0 (k + 1) f (PySem.W.fnX name qual (defArgs st) (defBody st) (defScope st) cl .none .none doc pm none (.ref c') ctv) ps (spM f c' (PySem.W.fnMade name qual (defArgs st) (defBody st) (defScope st) cl doc pm c' ctv) qual cl vals sp) := by
  refine fn_ofM S nd2 len fun A outer s H vs Q E hr hsp => ?_
  obtain ⟨t, h, q⟩ := hbody A outer s H vs Q E hr hsp
  exact ⟨t, h.nox, q⟩
end
theorem own2 {X : Cx} {i1 i2 : Nat} {x1 x2 : Str} {c1 c2 : Addr} (ne : c1 ≠ c2) (a1 : X.N[i1]? = some x1) (a2 : X.N[i2]? = some x2) (k1 : X.env.scope.names.lookup x1 = some .cell) (k2 : X.env.scope.names.lookup x2 = some .cell) (l1 : X.env.cells.lookup x1 = some c1) (l2 : X.env.cells.lookup x2 = some c2) (f1 : X.fn x1 = true) (f2 : X.fn x2 = true) :
    OwnC X [i1, i2] [(x1, c1), (x2, c2)] := by
  refine ⟨rfl, by simp [ne], fun j i x c h1 h2 => ?_⟩
  match j with
  | 0 =>
    cases h1
    cases h2
    exact ⟨a1, k1, l1, f1⟩
  | 1 =>
    cases h1
    cases h2
    exact ⟨a2, k2, l2, f2⟩
  | j + 2 => cases h1
theorem x_def {Pt : Addr} {i : Nat} {pos : Pos} {qual : Str} {mk : Value → Addr → Value → Obj} {u : TS} {D : Ends} {σ : St} {H : Hp} {ps : Array Value} (hP : H Pt = some (.tbl ps)) (ht : TriplesOk ps.toList) (hn : codeAmong pos ps.toList = none)
    (h : ∀ f c' doc ctv H', H f = none → H c' = none → SmB Pt H H' → H' f = some (FnO f (mk doc c' ctv)) → H' c' = some (CdO c' qual) → H' Pt = some (.tbl (ps ++ #[rawInt pos.line, rawInt pos.col, .ref c'])) → u D (σ.set i (some (.ref f))) H') : tSeq (tDef Pt i pos qual mk) u D σ H :=
  ⟨ps, hP, ht, hn, fun f c' doc ctv H' h1 h2 _ o e1 e2 e3 => h f c' doc ctv H' h1 h2 (fun b v n e => by rw [o b (ne_of_none e h1) (ne_of_none e h2) n]; exact e) e1 e2 e3⟩
theorem unl_tup {cs : List Addr} {H : Hp} {b : Addr} {u : HO} (hc : ∀ c ∈ cs, ∃ o φ, H c = some (.frz o (.ext φ))) (e : H b = some u) (n : ∀ o φ, u ≠ .frz o (.ext φ)) : unl cs H b = some u := by
  rw [unl_out fun z => by obtain ⟨o, φ, q⟩ := hc b z; rw [e] at q; cases q; exact n _ _ rfl]
  exact e
theorem same_rln {cs : List Addr} {H H' : Hp} (s : Same (unl cs H) H') : Same H (rln cs H H') := fun b o e => by
  by_cases z : b ∈ cs
  · rw [rln_in z]; exact e
  · rw [rln_out z]; exact s b o (by rw [unl_out z]; exact e)
theorem Lnd.same {H : Hp} {cl : List (Str × Addr)} {vals : List V} {H2 : Hp} (l : Lnd H cl vals H2) : Same H H2 := fun b o e => by
  rw [l.out b fun z => by rw [l.non b z] at e; cases e]
  exact e
theorem Lnd.back {H : Hp} {cl : List (Str × Addr)} {vals : List V} {H2 H3 : Hp} (l : Lnd H cl vals H2) (s : Same H2 H3) : Same H (unl (cl.map (·.2)) H3) := fun b o e => by
  rw [unl_out fun z => by rw [l.non b z] at e; cases e]
  exact s _ _ (l.same _ _ e)
theorem LentAll.up {H H' : Hp} {cl : List (Str × Addr)} {vals : List V} (l : LentAll H cl vals) (s : Same H H') : LentAll H' cl vals := ⟨l.1, fun i x c v e1 e2 => let ⟨o, e⟩ := l.2 i x c v e1 e2; ⟨o, s _ _ e⟩⟩
end L2
local macro_rules | `(tactic| sizeOf_list_dec) => `(tactic| first | assumption | decide | exact ⟨by decide, by decide⟩ | exact ⟨by decide, by decide, by decide⟩ | exact Nat.le_of_ble_eq_true rfl | exact L2.small1000 (by omega) | exact L2.pow18p | exact L2.pow60p | omega | fail)
local macro_rules | `(tactic| decreasing_trivial_pre_omega) => `(tactic| first | assumption | (apply L2.SqL.of; assumption) | (apply L2.SqT.of; assumption) | (refine Or.inl ?_; assumption) | (refine Or.inl ?_; apply L2.SqL.of; assumption) | (refine Or.inr ?_; apply L2.SqT.of; assumption))
local macro_rules | `(tactic| bv_omega) => `(tactic| first | assumption | exact L2.atI_nat (j := 0) rfl | exact L2.atI_nat (j := 1) rfl | exact L2.atI_nat (j := 2) rfl | exact L2.atI_nat (j := 3) rfl | exact L2.atI_nat (j := 4) rfl | exact L2.atI_nat (j := 5) rfl)
local macro_rules | `(tactic| array_get_dec) => `(tactic| array_mem_dec)
local macro_rules | `(tactic| array_get_dec) => `(tactic| with_reducible first
  | refine L2.x_seqA ?_ | refine L2.x_seqD ?_ | refine L2.x_seqP ?_ | refine L2.x_seqF ?_ | refine L2.x_seqW ?_ | refine L2.x_seqM ?_ | refine L2.x_seqG ?_ | refine L2.x_asg ?_ | refine L2.x_op ?_ | refine L2.x_c ?_ | refine L2.x_ret ?_ | refine L2.x_ifs ?_ | refine L2.x_name ?_
  | refine L2.x_cons ?_ | refine L2.x_nil ?_ | refine L2.x_call ?_ | refine L2.x_cb ?_ | refine L2.x_I0 ?_ | refine L2.x_test ?_ | refine L2.x_tru ?_ | refine L2.x_b ?_ | refine L2.x_exbl ?_ | refine L2.x_extru ?_
  | refine L2.x_and ?_ | refine L2.x_or ?_ | refine L2.x_not ?_ | refine L2.x_andV ?_ | refine L2.x_orV ?_ | refine L2.x_notV ?_ | refine L2.x_ife ?_
  | refine L2.x_next ?_ | refine L2.x_drop ?_ | refine L2.x_un ?_ | refine L2.x_U ?_ | refine L2.x_eqI ?_ | refine L2.x_neI ?_ | refine L2.x_eqS ?_ | refine L2.x_neS ?_ | refine L2.x_eqB ?_ | refine L2.x_neB ?_
  | refine L2.x_tup ?_ | refine L2.x_lst ?_ | refine L2.x_dnew ?_ | refine L2.x_sl ?_ | refine L2.x_nopart ?_ | refine L2.x_part ?_ | refine L2.x_exint ?_
  | refine L2.x_dget ?_ | refine L2.x_dget2 ?_ | refine L2.x_din ?_ | refine L2.x_dnotin ?_ | refine L2.x_dput ?_ | refine L2.x_for ?_ | refine L2.x_ilist ?_ | refine L2.x_itup ?_ | refine L2.x_ir1 ?_ | refine L2.x_bm ?_ | refine L2.x_bm0 ?_ | refine L2.x_comp ?_
  | refine L2.x_gcons ?_ | refine L2.x_gnil ?_ | refine L2.x_retN ?_ | refine L2.x_brk ?_ | refine L2.x_cont ?_ | refine L2.iteT ?_ | refine L2.iteF ?_ | refine L2.iteNT ?_ | refine L2.iteNF ?_)
local macro_rules | `(tactic| array_mem_dec) => `(tactic| ((with_reducible apply L2.x_gtup); (focus decreasing_trivial_pre_omega); (focus rfl)))
local macro_rules | `(tactic| array_mem_dec) => `(tactic| ((with_reducible apply L2.x_var); (focus exact rfl)))
local macro_rules | `(tactic| array_mem_dec) => `(tactic| ((with_reducible apply L2.x_I); (focus sizeOf_list_dec)))
local macro_rules | `(tactic| array_mem_dec) => `(tactic| ((with_reducible apply L2.x_ixT); (focus decreasing_trivial_pre_omega); (focus bv_omega)))
local macro_rules | `(tactic| array_mem_dec) => `(tactic| ((with_reducible apply L2.x_ixL); (focus decreasing_trivial_pre_omega); (focus bv_omega)))
local macro_rules | `(tactic| array_mem_dec) => `(tactic| ((with_reducible apply L2.x_slL); (focus decreasing_trivial_pre_omega)))
local macro_rules | `(tactic| array_mem_dec) => `(tactic| ((with_reducible apply L2.x_exisd); (focus decreasing_trivial_pre_omega)))
local macro_rules | `(tactic| array_mem_dec) => `(tactic| ((with_reducible apply L2.x_exil); (focus decreasing_trivial_pre_omega)))
local macro_rules | `(tactic| array_mem_dec) => `(tactic| ((with_reducible apply L2.x_exit); (focus decreasing_trivial_pre_omega)))
local macro_rules | `(tactic| array_mem_dec) => `(tactic| ((with_reducible apply L2.x_exdo); (focus decreasing_trivial_pre_omega); (first | rw [L2.getDmap] | rw [L2.isSomemap] | skip)))
local macro_rules | `(tactic| array_mem_dec) => `(tactic| ((with_reducible apply L2.x_exdin); (focus decreasing_trivial_pre_omega); (first | rw [L2.getDmap] | rw [L2.isSomemap] | skip)))
local macro_rules | `(tactic| array_mem_dec) => `(tactic| ((with_reducible apply L2.x_exdg); (focus decreasing_trivial_pre_omega); (focus decreasing_trivial_pre_omega)))
local macro_rules | `(tactic| array_mem_dec) => `(tactic| ((with_reducible apply L2.x_tyl); (focus decreasing_trivial_pre_omega)))
local macro_rules | `(tactic| array_mem_dec) => `(tactic| ((with_reducible apply L2.x_lenL); (focus decreasing_trivial_pre_omega)))
local macro_rules | `(tactic| array_mem_dec) => `(tactic| ((with_reducible apply L2.x_lenT); (focus decreasing_trivial_pre_omega)))
local macro_rules | `(tactic| array_mem_dec) => `(tactic| ((with_reducible apply L2.x_lenD); (focus decreasing_trivial_pre_omega)))
local macro_rules | `(tactic| array_mem_dec) => `(tactic| ((with_reducible apply L2.x_nwT); (focus sizeOf_list_dec)))
local macro_rules | `(tactic| array_mem_dec) => `(tactic| ((with_reducible apply L2.x_nwL); (focus sizeOf_list_dec)))
local macro_rules | `(tactic| array_mem_dec) => `(tactic| ((with_reducible apply L2.x_append); (focus assumption); (focus sizeOf_list_dec)))
local macro_rules | `(tactic| array_mem_dec) => `(tactic| ((with_reducible apply L2.x_exdput); (focus assumption); (focus assumption); (focus sizeOf_list_dec)))
local macro_rules | `(tactic| clean_wf) => `(tactic| repeat' (first | array_get_dec | fail))
local macro_rules | `(tactic| array_mem_dec) => `(tactic| ((with_reducible apply L2.x_rlenL); (focus decreasing_trivial_pre_omega)))
local macro_rules | `(tactic| array_mem_dec) => `(tactic| ((with_reducible apply L2.x_rlenT); (focus decreasing_trivial_pre_omega)))
local macro_rules | `(tactic| array_mem_dec) => `(tactic| ((with_reducible apply L2.x_rlistL); (focus decreasing_trivial_pre_omega)))
local macro_rules | `(tactic| array_mem_dec) => `(tactic| ((with_reducible apply L2.x_rlistT); (focus decreasing_trivial_pre_omega)))
local macro_rules | `(tactic| array_mem_dec) => `(tactic| ((with_reducible apply L2.x_rtupL); (focus decreasing_trivial_pre_omega)))
local macro_rules | `(tactic| array_mem_dec) => `(tactic| ((with_reducible apply L2.x_rdict); (focus decreasing_trivial_pre_omega)))
local macro_rules | `(tactic| array_mem_dec) => `(tactic| (with_reducible refine L2.x_nonand ?_))
local macro_rules | `(tactic| array_mem_dec) => `(tactic| ((with_reducible apply L2.x_rlenQ); (focus decreasing_trivial_pre_omega)))
local macro_rules | `(tactic| array_mem_dec) => `(tactic| ((with_reducible apply L2.x_ixQ); (focus decreasing_trivial_pre_omega); (focus bv_omega)))
local macro_rules | `(tactic| array_mem_dec) => `(tactic| (with_reducible first | refine L2.x_nx ?_ | refine L2.x_yes ?_ | refine L2.x_turn ?_ | refine L2.x_seqN ?_ | refine L2.x_fld ?_ | refine L2.x_sfld ?_ | refine L2.x_methS ?_ | refine L2.x_make ?_ | refine L2.x_mk ?_))
local macro_rules | `(tactic| array_mem_dec) => `(tactic| ((with_reducible refine L2.x_mtS1 ?_); (with_reducible refine L2.x_mtS1 ?_); (with_reducible apply L2.x_mtS0); (focus assumption); (focus sizeOf_list_dec)))
local macro_rules | `(tactic| array_mem_dec) => `(tactic| ((with_reducible refine L2.x_mtS1 ?_); (with_reducible apply L2.x_mtS0); (focus assumption); (focus sizeOf_list_dec)))
local macro_rules | `(tactic| array_mem_dec) => `(tactic| ((with_reducible apply L2.x_mtS0); (focus assumption); (focus sizeOf_list_dec)))
local macro_rules | `(tactic| array_mem_dec) => `(tactic| ((with_reducible apply L2.x_fldk); (focus assumption); (focus sizeOf_list_dec); (focus sizeOf_list_dec); (focus sizeOf_list_dec)))
local macro_rules | `(tactic| array_mem_dec) => `(tactic| ((with_reducible apply L2.x_sfk); (focus assumption); (focus sizeOf_list_dec); (focus sizeOf_list_dec); (focus sizeOf_list_dec)))
local macro_rules | `(tactic| sizeOf_list_dec) => `(tactic| with_reducible first | exact L2.cfl_number | exact L2.cfl_caller | exact L2.cfl_count | exact L2.cfl_word | exact L2.cfl_causes | exact L2.cfl_free | exact L2.cfl_in_turn | exact L2.cfl_asks_place | exact L2.cfl_kind | exact L2.cfl_name | exact L2.cfl_rank | exact L2.cfl_told | exact L2.cfl_shown | fail)
local macro_rules | `(tactic| array_mem_dec) => `(tactic| ((with_reducible apply L2.x_gisd); (focus decreasing_trivial_pre_omega)))
local macro_rules | `(tactic| array_mem_dec) => `(tactic| ((with_reducible apply L2.x_gdg); (focus decreasing_trivial_pre_omega); (focus assumption)))
local macro_rules | `(tactic| array_mem_dec) => `(tactic| ((with_reducible apply L2.x_gdo); (focus decreasing_trivial_pre_omega)))
local macro_rules | `(tactic| array_mem_dec) => `(tactic| ((with_reducible apply L2.x_gdin); (focus decreasing_trivial_pre_omega)))
local macro_rules | `(tactic| array_mem_dec) => `(tactic| ((with_reducible apply L2.x_gdput); (focus assumption); (focus assumption); (focus sizeOf_list_dec)))
local macro_rules | `(tactic| sizeOf_list_dec) => `(tactic| with_reducible first | exact L2.kf_learnt | exact L2.kf_learn | exact L2.kf_row_of | exact L2.kf_floor | exact L2.kf_reach | exact L2.kf_sure | fail)
local macro_rules | `(tactic| array_mem_dec) => `(tactic| ((with_reducible apply L2.x_rdictG); (focus decreasing_trivial_pre_omega)))
local macro_rules | `(tactic| array_mem_dec) => `(tactic| (with_reducible first | refine L2.x_ivals ?_ | refine L2.x_ikeys ?_ | refine L2.x_iseq ?_ | refine L2.x_sl3 ?_))
local macro_rules | `(tactic| array_mem_dec) => `(tactic| ((with_reducible apply L2.x_tyd); (focus assumption)))
local macro_rules | `(tactic| array_mem_dec) => `(tactic| (with_reducible first | refine L2.x_iitems ?_))
local macro_rules | `(tactic| array_mem_dec) => `(tactic| ((with_reducible apply L2.x_neE); (focus decreasing_trivial_pre_omega); (focus decreasing_trivial_pre_omega)))
local macro_rules | `(tactic| sizeOf_list_dec) => `(tactic| with_reducible first | exact L2.kf_listed | exact L2.kf_merge | fail)
local macro_rules | `(tactic| array_mem_dec) => `(tactic| (with_reducible first | refine L2.x_gsub ?_))
local macro_rules | `(tactic| array_mem_dec) => `(tactic| (with_reducible first | refine L2.x_maxl ?_))
local macro_rules | `(tactic| sizeOf_list_dec) => `(tactic| with_reducible first | exact L2.chf_me | exact L2.chf_hands | exact L2.chf_ballot | exact L2.chf_yes | exact L2.chf_votes | exact L2.chf_reports | exact L2.chf_agreed | exact L2.chf_begin | exact L2.chf_message | exact L2.chf_receive | exact L2.chf_see_ballot | exact L2.chf_see_yes | exact L2.chf_see_votes | exact L2.chf_gathers | exact L2.chf_settled | exact L2.chf_len | fail)
local macro_rules | `(tactic| array_mem_dec) => `(tactic| (with_reducible first | refine L2.x_mink ?_))
local macro_rules | `(tactic| array_mem_dec) => `(tactic| (with_reducible first | refine L2.x_sortk ?_))
local macro_rules | `(tactic| array_mem_dec) => `(tactic| (with_reducible refine L2.x_irev ?_))
local macro_rules | `(tactic| array_mem_dec) => `(tactic| (with_reducible refine L2.x_ivalsT ?_))
local macro_rules | `(tactic| array_mem_dec) => `(tactic| (with_reducible first | refine L2.x_sorto ?_))
local macro_rules | `(tactic| array_mem_dec) => `(tactic| (with_reducible first | refine L2.x_callL ?_ | refine L2.x_callM ?_))
namespace K82
open PySem L2
def top (i : Nat) : Stmt := PySem.Challenge.pw_groupcall_k82_a_book_folded.main.body.getD i (.Pass ⟨0, 0, 0, 0⟩)
abbrev s_own_copy : Stmt := top 1
abbrev s_folded : Stmt := top 3
section
variable {P : Program} {w : World} {K : PySem.W.Frag} {mg : Str → Option Value} {base : Heap}
mutual

inductive Pc (H : Hp) : Nat → V → PyData → Prop
  | non {n : Nat} : Pc H n .non .none
  | int {n : Nat} (i : Int) : Pc H n (.int i) (.int i)
  | str {n : Nat} (x : Str) : Pc H n (.str x) (.str x)
  | tup {n : Nat} {a : Addr} {xs : List V} {ds : List PyData} : H a = some (.tup xs) → xs.length ≤ 63 → Pcs H n xs ds → Pc H (n + 1) (.ref a) (.tuple ds)
inductive Pcs (H : Hp) : Nat → List V → List PyData → Prop
  | nil {n : Nat} : Pcs H n [] []
  | cons {n : Nat} {x : V} {xs : List V} {d : PyData} {ds : List PyData} : Pc H n x d → Pcs H n xs ds → Pcs H n (x :: xs) (d :: ds)
end
mutual
theorem Pc.up {H H' : Hp} (s : SmH H H') : ∀ {n : Nat} {x : V} {d : PyData}, Pc H n x d → Pc H' n x d
  | _, _, _, .non => .non
  | _, _, _, .int i => .int i
  | _, _, _, .str i => .str i
  | _, _, _, .tup e l h => .tup (s _ _ e) l (Pcs.up s h)
theorem Pcs.up {H H' : Hp} (s : SmH H H') : ∀ {n : Nat} {xs : List V} {ds : List PyData}, Pcs H n xs ds → Pcs H' n xs ds
  | _, _, _, .nil => .nil
  | _, _, _, .cons h t => .cons (Pc.up s h) (Pcs.up s t)
end
theorem pcs_at {H : Hp} {n : Nat} : ∀ {xs : List V} {ds : List PyData} {i : Nat} {x : V}, Pcs H n xs ds → xs[i]? = some x → ∃ d, ds[i]? = some d ∧ Pc H n x d
  | _, _, _, _, .nil, e => by simp at e
  | _, _, 0, _, .cons h _, e => by simp at e; subst e; exact ⟨_, rfl, h⟩
  | _, _, i + 1, x, .cons _ t, e => by
    obtain ⟨b, h1, h2⟩ := pcs_at (i := i) t (by simpa using e)
    exact ⟨b, by simpa using h1, h2⟩
theorem pcs_snoc {H : Hp} {n : Nat} : ∀ {xs : List V} {ds : List PyData} {x : V} {d : PyData}, Pcs H n xs ds → Pc H n x d → Pcs H n (xs ++ [x]) (ds ++ [d])
  | _, _, _, _, .nil, h => .cons h .nil
  | _, _, _, _, .cons r t, h => .cons r (pcs_snoc t h)
theorem pcs_len {H : Hp} {n : Nat} : ∀ {xs : List V} {ds : List PyData}, Pcs H n xs ds → xs.length = ds.length
  | _, _, .nil => rfl
  | _, _, .cons _ t => congrArg (· + 1) (pcs_len t)

def Pq (H : Hp) (n : Nat) (x : V) (d : PyData) : Prop := Pc H n x d ∨ ∃ a xs ds m, n = m + 1 ∧ x = .ref a ∧ H a = some (.lst xs) ∧ xs.length ≤ 63 ∧ Pcs H m xs ds ∧ d = .list ds
def spr_own_copy (K : PySem.W.Frag) : Nat → Sp
  | 0 => fun _ _ _ _ => False
  | n + 1 => fun vs H Q _ => ∃ x, vs = [x] ∧ ∃ d, Pq H n x d ∧ ∀ H' x', Same H H' → Pq H' n x' d → Q x' H'
theorem sc_own_copy : FnScope ["value"] ["value"] (defScope s_own_copy) := ⟨rfl, rfl, rfl, by decide +kernel, rfl, by decide +kernel, by decide +kernel⟩
set_option maxHeartbeats 1000000 in
theorem okr_own_copy {f  : Addr} {fd  : FuncData} (F : Fun K "own_copy" "own_copy" s_own_copy f fd)
    (n k : Nat) (G_own_copy : FnOk P w K mg base CX0 k f fd ["value"] (spr_own_copy K n)) (C_own_copy : Cal K mg "own_copy" f fd ["value"]) (h_dict : mg "dict" = none) (h_isinstance : mg "isinstance" = none) (h_list : mg "list" = none) (h_tuple : mg "tuple" = none) : FnOk P w K mg base CX0 (k + 1) f fd ["value"] (spr_own_copy K (n + 1)) := by
  refine F.ok sc_own_copy (fun vs H Q E h => ?_) (fun cdv A outer s H vs Q E hr h => ?_)
  · obtain ⟨x, rfl, _⟩ := h
    rfl
  obtain ⟨x, rfl, h⟩ := h
  have hu64 := hr.units
  have hu0 := hr.units0
  have hu := hu_of hr
  refine ⟨_, (pss_cons (ps_if (pt_callK K rfl (pe_callB (call_isiK (K := K) rfl) (by rfl) h_isinstance PyProof.Rows.boot_isinstance (pa_cons (pv 0) (pa_cons (pe_type h_list PyProof.Rows.boot_list) pa_nil)))) (pss_one (ps_ret (pe_comp ["part"] [none] rfl rfl (by kernel_rfl) (pi_listK (K := K) rfl (pv 0)) (fun _ _ _ _ _ nd => pg_name (i := 0) nd rfl (Or.inl rfl)) (fun _ _ _ _ _ => pif_nil) (fun _ _ _ _ _ => (pcall G_own_copy C_own_copy hr (pa_cons (pv 0) pa_nil)))))) pss_nil)
      (pss_cons (ps_if (pt_callK K rfl (pe_callB (call_isiK (K := K) rfl) (by rfl) h_isinstance PyProof.Rows.boot_isinstance (pa_cons (pv 0) (pa_cons (pe_type h_tuple PyProof.Rows.boot_tuple) pa_nil)))) (pss_one (ps_ret (pe_callTy (call_tupleK (K := K) rfl) (by rfl) h_tuple PyProof.Rows.boot_tuple (pa_cons (pe_comp ["part"] [none] rfl rfl (by kernel_rfl) (pi_tupK (K := K) rfl (pv 0)) (fun _ _ _ _ _ nd => pg_name (i := 0) nd rfl (Or.inl rfl)) (fun _ _ _ _ _ => pif_nil) (fun _ _ _ _ _ => (pcall G_own_copy C_own_copy hr (pa_cons (pv 0) pa_nil)))) pa_nil)))) pss_nil)
      (pss_cons (ps_if (pt_callK K rfl (pe_callB (call_isiK (K := K) rfl) (by rfl) h_isinstance PyProof.Rows.boot_isinstance (pa_cons (pv 0) (pa_cons (pe_type h_dict PyProof.Rows.boot_dict) pa_nil)))) (pss_one ps_never) pss_nil)
      (pss_one (ps_ret (pv 0)))))), ?_⟩
  obtain ⟨d, hp, kk⟩ := h
  rcases hp with hp | ⟨a, xs, ds, m, rfl, rfl, e, hl, hs, rfl⟩
  rotate_left
  · clean_wf
    refine ⟨_, _, _, true, rfl, .lst e, (by kernel_rfl), ?_⟩
    have st := SqL.of (K := K) e
    clean_wf
    intro E hE
    refine comp_list (K := K) (a := a) (xs := xs) (fun i σ A => ∃ v zs, σ = [v] ∧ Same H A ∧ A E = some (.lst zs) ∧ zs.length = i ∧ Pcs A m zs (ds.take i)) ⟨none, [], rfl, same_upd hE, upd_same, rfl, .nil⟩ ?_ ?_ ?_
    · rintro i σ A _ ⟨_, _, _, z, _⟩
      exact SqL.of (z _ _ e)
    · rintro i x σ A hx ⟨v, zs, rfl, sA, hEx, lz, pz⟩
      obtain ⟨d', hd', hpl⟩ := pcs_at hs hx
      have hi := (List.getElem?_eq_some_iff.mp hx).1
      clean_wf
      refine ⟨x, rfl, d', .inl (hpl.up (.same sA)), fun A1 x' s1 p1 => ?_⟩
      have p1 : Pc A1 m x' d' := by
        rcases p1 with p1 | ⟨_, _, ds, _, _, _, _, _, _, ed⟩
        · exact p1
        · exact absurd hpl (by rw [ed]; intro z; cases z)
      have hE1 := s1 _ _ hEx
      have kp : SmH A1 (upd A1 E (.lst (zs ++ [x']))) := SmH.lst hE1
      refine ⟨zs, hE1, small1000 (by omega), _, zs ++ [x'], rfl, fun b o z => ?_, upd_same, by rw [List.length_append, lz]; rfl, ?_⟩
      · rw [upd_ne (ne_of_none z hE)]
        exact s1 _ _ (sA b o z)
      · rw [take_get hd']
        exact pcs_snoc (pz.up fun a xs z => kp _ _ (s1 _ _ z)) (p1.up kp)
    rintro σ A ⟨v, zs, rfl, sA, hEx, lz, pz⟩
    rw [pcs_len hs, List.take_length] at pz
    exact kk A _ sA (.inr ⟨E, zs, ds, m, rfl, rfl, hEx, by omega, pz, rfl⟩)
  cases hp with
  | non =>
    clean_wf
    refine ⟨_, _, _, false, rfl, .non, (by kernel_rfl), ?_⟩
    clean_wf
    refine ⟨_, _, _, false, rfl, .non, (by kernel_rfl), ?_⟩
    clean_wf
    refine ⟨_, _, _, false, rfl, .non, (by kernel_rfl), ?_⟩
    clean_wf
    exact kk H _ (.refl _) (.inl .non)
  | int i =>
    clean_wf
    refine ⟨_, _, _, false, rfl, .int _, (by kernel_rfl), ?_⟩
    clean_wf
    refine ⟨_, _, _, false, rfl, .int _, (by kernel_rfl), ?_⟩
    clean_wf
    refine ⟨_, _, _, false, rfl, .int _, (by kernel_rfl), ?_⟩
    clean_wf
    exact kk H _ (.refl _) (.inl (.int i))
  | str i =>
    clean_wf
    refine ⟨_, _, _, false, rfl, .str _, (by kernel_rfl), ?_⟩
    clean_wf
    refine ⟨_, _, _, false, rfl, .str _, (by kernel_rfl), ?_⟩
    clean_wf
    refine ⟨_, _, _, false, rfl, .str _, (by kernel_rfl), ?_⟩
    clean_wf
    exact kk H _ (.refl _) (.inl (.str i))
  | @tup m a xs ds e hl hs =>
    clean_wf
    refine ⟨_, _, _, false, rfl, .tup e, (by kernel_rfl), ?_⟩
    clean_wf
    refine ⟨_, _, _, true, rfl, .tup e, (by kernel_rfl), ?_⟩
    have st := SqT.of (K := K) e
    clean_wf
    intro E hE
    refine comp_tup (K := K) (a := a) (xs := xs) (fun i σ A => ∃ v zs, σ = [v] ∧ Same H A ∧ A E = some (.lst zs) ∧ zs.length = i ∧ Pcs A m zs (ds.take i)) ⟨none, [], rfl, same_upd hE, upd_same, rfl, .nil⟩ ?_ ?_ ?_
    · rintro i σ A _ ⟨_, _, _, z, _⟩
      exact SqT.of (z _ _ e)
    · rintro i x σ A hx ⟨v, zs, rfl, sA, hEx, lz, pz⟩
      obtain ⟨d', hd', hpl⟩ := pcs_at hs hx
      have hi := (List.getElem?_eq_some_iff.mp hx).1
      clean_wf
      refine ⟨x, rfl, d', .inl (hpl.up (.same sA)), fun A1 x' s1 p1 => ?_⟩
      have p1 : Pc A1 m x' d' := by
        rcases p1 with p1 | ⟨_, _, ds, _, _, _, _, _, _, ed⟩
        · exact p1
        · exact absurd hpl (by rw [ed]; intro z; cases z)
      have hE1 := s1 _ _ hEx
      have kp : SmH A1 (upd A1 E (.lst (zs ++ [x']))) := SmH.lst hE1
      refine ⟨zs, hE1, small1000 (by omega), _, zs ++ [x'], rfl, fun b o z => ?_, upd_same, by rw [List.length_append, lz]; rfl, ?_⟩
      · rw [upd_ne (ne_of_none z hE)]
        exact s1 _ _ (sA b o z)
      · rw [take_get hd']
        exact pcs_snoc (pz.up fun a xs z => kp _ _ (s1 _ _ z)) (p1.up kp)
    rintro σ A ⟨v, zs, rfl, sA, hEx, lz, pz⟩
    rw [pcs_len hs, List.take_length] at pz
    clean_wf
    intro t A1 ht s1 g1
    exact kk A1 _ (sA.trans s1) (.inl (.tup g1 (by omega) (pz.up (.same s1))))
def sp_own_copy (K : PySem.W.Frag) : Sp := spr_own_copy K 3
theorem ok_own_copy {f : Addr} {fd : FuncData} (F : Fun K "own_copy" "own_copy" s_own_copy f fd) (C : Cal K mg "own_copy" f fd ["value"]) (h_dict : mg "dict" = none) (h_isinstance : mg "isinstance" = none) (h_list : mg "list" = none) (h_tuple : mg "tuple" = none) : FnOk P w K mg base CX0 3 f fd ["value"] (sp_own_copy K) :=
  okr_own_copy F 2 2 (okr_own_copy F 1 1 (okr_own_copy F 0 0 ⟨fun _ _ _ _ h => h.elim, fun _ _ _ _ _ _ _ _ _ _ _ _ _ h => h.elim⟩ C h_dict h_isinstance h_list h_tuple) C h_dict h_isinstance h_list h_tuple) C h_dict h_isinstance h_list h_tuple
def sp__law_turned (K : PySem.W.Frag) (v1 v2 : V) : Sp := fun vs H Q _ => ∃ (st : Int) (r : Addr), vs = [.int st, .ref r] ∧ ∃ t l n c k kd w, v1 = .int t ∧ v2 = .int l ∧ SqT K H r [.int n, .int c, .int k, .str kd, .int w] ∧ -1000 < t ∧ t < 1000 ∧ Q (.int ((st * t + w - l) % (10 ^ (60 : Int).toNat + 7))) H
abbrev s__law_turned : Stmt := inDef (top 7) 4
theorem sc__law_turned : ScM ["_law_state", "_law_row", "_law_times", "_law_less"] ["_law_state", "_law_row"] ["_law_times", "_law_less"] (defScope s__law_turned) := ⟨rfl, rfl, rfl, by decide +kernel, rfl, by decide +kernel, by decide +kernel, by decide +kernel, by decide +kernel⟩
abbrev fx__law_turned (c1 c2 : Addr) ( doc pm ctv : Value) (c' : Addr) : FuncData := PySem.W.fnX "_law_turned" "law.<locals>._law_turned" (defArgs s__law_turned) (defBody s__law_turned) (defScope s__law_turned) [("_law_times", c1), ("_law_less", c2)] .none .none doc pm none (.ref c') ctv
abbrev sm__law_turned (K : PySem.W.Frag) (f c' c1 c2 : Addr) (doc pm ctv : Value) (v1 v2 : V) : Sp := spM f c' (PySem.W.fnMade "_law_turned" "law.<locals>._law_turned" (defArgs s__law_turned) (defBody s__law_turned) (defScope s__law_turned) [("_law_times", c1), ("_law_less", c2)] doc pm c' ctv) "law.<locals>._law_turned" [("_law_times", c1), ("_law_less", c2)] [v1, v2] (sp__law_turned K v1 v2)
theorem ok__law_turned {f c' c1 c2 : Addr} {doc pm ctv : Value} {v1 v2 : V} (ne : c1 ≠ c2)  : FnOk P w K mg base CX0 1 f (fx__law_turned c1 c2 doc pm ctv c') ["_law_state", "_law_row"] (sm__law_turned K f c' c1 c2 doc pm ctv v1 v2) := by
  refine made_ok sc__law_turned (by simp [ne]) (fun vs H Q E h => ?_) (fun A outer s H vs Q E hr h => ?_)
  · obtain ⟨st, r, rfl, _⟩ := h
    rfl
  obtain ⟨st, r, rfl, h⟩ := h
  have hu64 := hr.units
  have hu0 := hr.units0
  have hu := hu_of hr
  refine ⟨_, (pss_one (ps_ret (pe_op op_mod (pe_op op_sub (pe_op op_add (pe_op op_mul (pv 0) (pv 2)) (pe_ix (ix_tupK (K := K) rfl) (pv 1) pe_int (fun _ _ => rfl))) (pv 3)) (pe_op op_add (pe_op op_pow pe_int pe_int) pe_int)))), ?_⟩
  generalize unl _ H = H0 at h ⊢
  obtain ⟨t, l, n, c, k, kd, w', rfl, rfl, hr', t0, t1, kk⟩ := h
  have cm : CMul st t := .inr ⟨by omega, by omega⟩
  have p60 : (0 : Int) < 10 ^ (60 : Int).toNat + 7 := by have := pow60p; omega
  clean_wf
  exact kk
def sp__law_greater (K : PySem.W.Frag) : Sp := fun vs H Q _ => ∃ (st : Int) (r : Addr), vs = [.int st, .ref r] ∧ ∃ n c k kd w, SqT K H r [.int n, .int c, .int k, .str kd, .int w] ∧ Q (.int (max st w)) H
abbrev s__law_greater : Stmt := inDef (top 7) 5
theorem sc__law_greater : ScM ["_law_state", "_law_row"] ["_law_state", "_law_row"] [] (defScope s__law_greater) := ⟨rfl, rfl, rfl, by decide +kernel, rfl, by decide +kernel, by decide +kernel, by decide +kernel, by decide +kernel⟩
abbrev fx__law_greater ( doc pm ctv : Value) (c' : Addr) : FuncData := PySem.W.fnX "_law_greater" "law.<locals>._law_greater" (defArgs s__law_greater) (defBody s__law_greater) (defScope s__law_greater) [] .none .none doc pm none (.ref c') ctv
abbrev sm__law_greater (K : PySem.W.Frag) (f c'  : Addr) (doc pm ctv : Value) : Sp := spM f c' (PySem.W.fnMade "_law_greater" "law.<locals>._law_greater" (defArgs s__law_greater) (defBody s__law_greater) (defScope s__law_greater) [] doc pm c' ctv) "law.<locals>._law_greater" [] [] (sp__law_greater K )
theorem ok__law_greater {f c'  : Addr} {doc pm ctv : Value} (h_max : mg "max" = none) : FnOk P w K mg base CX0 1 f (fx__law_greater  doc pm ctv c') ["_law_state", "_law_row"] (sm__law_greater K f c'  doc pm ctv ) := by
  refine made_ok sc__law_greater (by decide) (fun vs H Q E h => ?_) (fun A outer s H vs Q E hr h => ?_)
  · obtain ⟨st, r, rfl, _⟩ := h
    rfl
  obtain ⟨st, r, rfl, h⟩ := h
  have hu64 := hr.units
  have hu0 := hr.units0
  have hu := hu_of hr
  refine ⟨_, (pss_one (ps_ret (pe_callB (call_max2 rfl) (by rfl) h_max PyProof.Rows.boot_max (pa_cons (pv 0) (pa_cons (pe_ix (ix_tupK (K := K) rfl) (pv 1) pe_int (fun _ _ => rfl)) pa_nil))))), ?_⟩
  generalize unl _ H = H0 at h ⊢
  obtain ⟨n, c, k, kd, w', hr', kk⟩ := h
  clean_wf
  refine ⟨_, _, rfl, ?_⟩
  rw [show max st w' = if w' > st then w' else st by split <;> omega] at kk
  exact kk
def sp__law_listed (K : PySem.W.Frag) : Sp := fun vs H Q _ => ∃ (a : Addr) (x : V), vs = [.ref a, x] ∧ ∃ xs, H a = some (.lst xs) ∧ xs.length ≤ 63 ∧ ∀ p H', H p = none → Same H H' → H' p = some (.lst (xs ++ [x])) → Q (.ref p) H'
abbrev s__law_listed : Stmt := inDef (top 7) 6
theorem sc__law_listed : ScM ["_law_state", "_law_row"] ["_law_state", "_law_row"] [] (defScope s__law_listed) := ⟨rfl, rfl, rfl, by decide +kernel, rfl, by decide +kernel, by decide +kernel, by decide +kernel, by decide +kernel⟩
abbrev fx__law_listed ( doc pm ctv : Value) (c' : Addr) : FuncData := PySem.W.fnX "_law_listed" "law.<locals>._law_listed" (defArgs s__law_listed) (defBody s__law_listed) (defScope s__law_listed) [] .none .none doc pm none (.ref c') ctv
abbrev sm__law_listed (K : PySem.W.Frag) (f c'  : Addr) (doc pm ctv : Value) : Sp := spM f c' (PySem.W.fnMade "_law_listed" "law.<locals>._law_listed" (defArgs s__law_listed) (defBody s__law_listed) (defScope s__law_listed) [] doc pm c' ctv) "law.<locals>._law_listed" [] [] (sp__law_listed K )
theorem ok__law_listed {f c'  : Addr} {doc pm ctv : Value}  : FnOk P w K mg base CX0 1 f (fx__law_listed  doc pm ctv c') ["_law_state", "_law_row"] (sm__law_listed K f c'  doc pm ctv ) := by
  refine made_ok sc__law_listed (by decide) (fun vs H Q E h => ?_) (fun A outer s H vs Q E hr h => ?_)
  · obtain ⟨a, x, rfl, _⟩ := h
    rfl
  obtain ⟨a, x, rfl, h⟩ := h
  have hu64 := hr.units
  have hu0 := hr.units0
  have hu := hu_of hr
  refine ⟨_, (pss_one (ps_ret (pe_op op_cat (pv 0) (pe_lst (pa_cons (pv 1) pa_nil))))), ?_⟩
  generalize unl _ H = H0 at h ⊢
  obtain ⟨xs, ha, hl, kk⟩ := h
  clean_wf
  intro q H1 hq s1 g1
  refine x_cat (s1 _ _ ha) g1 (by rw [List.length_singleton]; omega) fun p H2 hp s2 g2 => ?_
  clean_wf
  exact kk p H2 (s1.free hp) (s1.trans s2) g2

def OKs (K : PySem.W.Frag) (f : Addr) (sp : Sp) : Prop := (∃ c' c1 c2 doc pm ctv v1 v2, c1 ≠ c2 ∧ sp = sm__law_turned K f c' c1 c2 doc pm ctv v1 v2) ∨ (∃ c' doc pm ctv, sp = sm__law_greater K f c' doc pm ctv) ∨ ∃ c' doc pm ctv, sp = sm__law_listed K f c' doc pm ctv
theorem step_ok (h_max : mg "max" = none) : ∀ f sp, OKs K f sp → (∃ fd ps, FnOk P w K mg base CX0 3 f fd ps sp ∧ Binds K fd ps []) ∧ ∀ vs H Q E, sp vs H Q E → ∃ fo : Obj, (∃ fd, fo.data = .func fd) ∧ H f = some (FnO f fo) := by
  rintro f sp (⟨c', c1, c2, doc, pm, ctv, v1, v2, ne, rfl⟩ | ⟨c', doc, pm, ctv, rfl⟩ | ⟨c', doc, pm, ctv, rfl⟩)
  · exact ⟨⟨_, _, (ok__law_turned ne).mono (by decide), .all fun us hl => match us, hl with | [_, _], _ => rfl⟩, fun vs H Q E h => ⟨_, ⟨_, rfl⟩, h.1⟩⟩
  · exact ⟨⟨_, _, (ok__law_greater h_max).mono (by decide), .all fun us hl => match us, hl with | [_, _], _ => rfl⟩, fun vs H Q E h => ⟨_, ⟨_, rfl⟩, h.1⟩⟩
  · exact ⟨⟨_, _, ok__law_listed.mono (by decide), .all fun us hl => match us, hl with | [_, _], _ => rfl⟩, fun vs H Q E h => ⟨_, ⟨_, rfl⟩, h.1⟩⟩
def sp_folded (K : PySem.W.Frag) : Sp := fun vs H Q _ => ∃ (b : Addr) (x : V) (f : Addr), vs = [.ref b, x, .ref f] ∧ ∃ xs d sp, SqT K H b xs ∧ Pq H 2 x d ∧ OKs K f sp ∧ ∃ Pv : Nat → V → Hp → Prop, (∀ H' x', Same H H' → Pq H' 2 x' d → Pv 0 x' H') ∧ (∀ i v H', Pv i v H' → SqT K H' b xs ∧ ∃ fo : Obj, (∃ fd, fo.data = .func fd) ∧ H' f = some (FnO f fo)) ∧
  (∀ (i : Nat) r v H' Q', xs[i]? = some r → Pv i v H' → (∀ v2 H2, Pv (i + 1) v2 H2 → Q' v2 H2) → sp [v, r] H' Q' E0) ∧ ∀ v H', Pv xs.length v H' → Q v H'
theorem sc_folded : FnScope ["book", "begin", "step", "state", "row"] ["book", "begin", "step"] (defScope s_folded) := ⟨rfl, rfl, rfl, by decide +kernel, rfl, by decide +kernel, by decide +kernel⟩
set_option maxHeartbeats 1000000 in
theorem ok_folded {f f_own_copy : Addr} {fd fd_own_copy : FuncData} (F : Fun K "folded" "folded" s_folded f fd) (G_step : ∀ f sp, OKs K f sp → (∃ fd ps, FnOk P w K mg base CX0 3 f fd ps sp ∧ Binds K fd ps []) ∧ ∀ vs H Q E, sp vs H Q E → ∃ fo : Obj, (∃ fd, fo.data = .func fd) ∧ H f = some (FnO f fo))
    (G_own_copy : FnOk P w K mg base CX0 3 f_own_copy fd_own_copy ["value"] (sp_own_copy K)) (C_own_copy : Cal K mg "own_copy" f_own_copy fd_own_copy ["value"]) : FnOk P w K mg base CX0 4 f fd ["book", "begin", "step"] (sp_folded K) := by
  refine F.ok sc_folded (fun vs H Q E h => ?_) (fun cdv A outer s H vs Q E hr h => ?_)
  · obtain ⟨b, x, f', rfl, _⟩ := h
    rfl
  obtain ⟨b, x, f', rfl, h⟩ := h
  have hu64 := hr.units
  have hu0 := hr.units0
  have hu := hu_of hr
  refine ⟨_, (pss_cons (ps_set (i := 3) sc_folded.nd rfl (Or.inl rfl) (pcall G_own_copy C_own_copy hr (pa_cons (pv 1) pa_nil)))
      (pss_cons (ps_for PassesOwn.never rfl (pi_tupK (K := K) rfl (pv 0)) (pg_name (i := 4) sc_folded.nd rfl (Or.inl rfl))
      (pss_one (ps_set (i := 3) sc_folded.nd rfl (Or.inl rfl) (pe_callM G_step hr pass0 (pv 2) (pa_cons (pv 3) (pa_cons (pv 4) pa_nil))))))
      (pss_one (ps_ret (pv 3))))), ?_⟩
  obtain ⟨xs, d, sp, hb, hp, ok, Pv, h0, h1, h2, kk⟩ := h
  clean_wf
  refine ⟨x, rfl, d, hp, fun H1 x' s1 p1 => ?_⟩
  have pv0 := h0 H1 x' s1 p1
  have hb1 := (h1 0 x' H1 pv0).1
  clean_wf
  refine for_tup (xs := xs) (fun i σ A => ∃ v v4, σ = [some (.ref b), some x, some (.ref f'), some v, v4] ∧ Pv i v A) ⟨x', none, rfl, pv0⟩ (fun i σ A _ z => by obtain ⟨_, _, _, z⟩ := z; exact (h1 i _ _ z).1) ?_ ?_
  · rintro i r σ A hr' ⟨v, v4, rfl, pv⟩
    clean_wf
    refine ⟨f', sp, rfl, ok, (h1 i v A pv).2, ?_⟩
    clean_wf
    refine h2 i r v A _ hr' pv fun v2 H2 pv2 => ?_
    exact ⟨v2, _, rfl, pv2⟩
  rintro σ A ⟨v, v4, rfl, pv⟩
  clean_wf
  exact kk v A pv
end
end K82


namespace K82
open PySem L2
abbrev s__law_cell_at : Stmt := top 5
abbrev s__law_rows : Stmt := top 6
abbrev s_law : Stmt := top 7
section
variable {P : Program} {w : World} {K : PySem.W.Frag} {mg : Str → Option Value} {base : Heap}
def sp__law_cell_at (K : PySem.W.Frag) : Sp := fun vs H Q _ => ∃ (a : Addr) (k : Int), vs = [.ref a, .int k] ∧ ∃ ns : List Int, SqL K H a (ns.map V.int) ∧ 0 ≤ k ∧ ∀ c : Int, Q (.int c) H
theorem sc__law_cell_at : FnScope ["_law_script", "_law_k"] ["_law_script", "_law_k"] (defScope s__law_cell_at) := ⟨rfl, rfl, rfl, by decide +kernel, rfl, by decide +kernel, by decide +kernel⟩
theorem ok__law_cell_at {f  : Addr} {fd  : FuncData} (F : Fun K "_law_cell_at" "_law_cell_at" s__law_cell_at f fd) (h_len : mg "len" = none) : FnOk P w K mg base CX0 1 f fd ["_law_script", "_law_k"] (sp__law_cell_at K) := by
  refine F.ok sc__law_cell_at (fun vs H Q E h => ?_) (fun cdv A outer s H vs Q E hr h => ?_)
  · obtain ⟨a, k, rfl, _⟩ := h
    rfl
  obtain ⟨a, k, rfl, h⟩ := h
  have hu64 := hr.units
  have hu0 := hr.units0
  have hu := hu_of hr
  refine ⟨_, (pss_cons (ps_if (pt_cmpR op_lt (pv 1) (pe_callB (call_lenK (K := K) rfl) (by rfl) h_len PySem.boot_len (pa_cons (pv 0) pa_nil)) (nomark _)) (pss_one (ps_ret (pe_ix (ix_listK (K := K) rfl) (pv 0) (pv 1) (fun _ _ => rfl)))) pss_nil)
      (pss_one (ps_ret pe_int))), ?_⟩
  obtain ⟨ns, hS, h0, q⟩ := h
  clean_wf
  refine ite2 (fun h1 => ?_) fun h1 => ?_
  · have h1 : k < ((ns.map V.int).length : Nat) := of_decide_eq_true h1
    rw [List.length_map] at h1
    have hx : k.toNat < ns.length := by omega
    have hat : atI (ns.map V.int) k = some (V.int ns[k.toNat]) := atI_int h0 (by rw [List.getElem?_map, List.getElem?_eq_getElem hx]; rfl)
    clean_wf
    exact q _
  · clean_wf
    exact q _

abbrev Rw := Int × Int × Int × Str × Int
def RwA (H : Hp) (v : V) (r : Rw) : Prop := ∃ t, v = .ref t ∧ H t = some (.tup [.int r.1, .int r.2.1, .int r.2.2.1, .str r.2.2.2.1, .int r.2.2.2.2])
abbrev Rws (H : Hp) : List V → List Rw → Prop := Paired (RwA H)
theorem rws_up {H H' : Hp} (s : SmH H H') {xs : List V} {rs : List Rw} (h : Rws H xs rs) : Rws H' xs rs := Paired.mapP h fun _ _ ⟨t, e, g⟩ => ⟨t, e, s _ _ g⟩
theorem p18 : (0 : Int) < 10 ^ (18 : Int).toNat := by decide +kernel
theorem p30 : (0 : Int) < 10 ^ (30 : Int).toNat := by decide +kernel
theorem p60 : (0 : Int) < 10 ^ (60 : Int).toNat := by decide +kernel
theorem p40 : (0 : Int) < 10 ^ (40 : Int).toNat := by decide +kernel
theorem p20 : (0 : Int) < 10 ^ (20 : Int).toNat := by decide +kernel
def sp__law_rows (K : PySem.W.Frag) : Sp := fun vs H Q _ => ∃ (a : Addr), vs = [.ref a] ∧ ∃ ns : List Int, SqL K H a (ns.map V.int) ∧ ns.length ≤ 63 ∧ ∀ H' l ws rs, Same H H' → H' l = some (.lst ws) → Rws H' ws rs → rs.length ≤ 63 → (∀ r ∈ rs, r.2.2.2.1 = "own" ∨ r.2.2.2.1 = "heard" ∨ r.2.2.2.1 = "one") → Q (.ref l) H'
theorem sc__law_rows : FnScope ["_law_cells", "_law_found", "_law_cell", "_law_kind", "_law_word"] ["_law_cells"] (defScope s__law_rows) := ⟨rfl, rfl, rfl, by decide +kernel, rfl, by decide +kernel, by decide +kernel⟩
set_option maxHeartbeats 2000000 in
theorem ok__law_rows {f  : Addr} {fd  : FuncData} (F : Fun K "_law_rows" "_law_rows" s__law_rows f fd) : FnOk P w K mg base CX0 1 f fd ["_law_cells"] (sp__law_rows K) := by
  refine F.ok sc__law_rows (fun vs H Q E h => ?_) (fun cdv A outer s H vs Q E hr h => ?_)
  · obtain ⟨a, rfl, _⟩ := h
    rfl
  obtain ⟨a, rfl, h⟩ := h
  have hu64 := hr.units
  have hu0 := hr.units0
  have hu := hu_of hr
  refine ⟨_, (pss_cons (ps_set (i := 1) sc__law_rows.nd rfl (Or.inl rfl) (pe_lst pa_nil))
      (pss_cons (ps_for PassesOwn.never rfl (pi_listK (K := K) rfl (pv 0)) (pg_name (i := 2) sc__law_rows.nd rfl (Or.inl rfl))
      (pss_cons (ps_set (i := 3) sc__law_rows.nd rfl (Or.inl rfl) (pe_ix (ix_listK (K := K) rfl) (pe_lst (pa_cons pe_str (pa_cons pe_str (pa_cons pe_str pa_nil)))) (pe_op op_mod (pv 2) pe_int) (fun _ _ => rfl)))
      (pss_cons (ps_set (i := 4) sc__law_rows.nd rfl (Or.inl rfl) (pe_op op_sub (pe_op op_mod (pe_op op_mul (pv 2) pe_int) (pe_op op_pow pe_int pe_int)) (pe_op op_mod (pv 2) (pe_op op_pow pe_int pe_int))))
      (pss_one (ps_expr (pe_appendK (K := K) rfl (pe_bm PySem.F.plainAttrs_list PySem.F.slot_list_append PySem.F.type_list_append mt_append (pv 1) (pa_cons (pe_tup (pa_cons (pe_op op_mod (pe_op op_fdiv (pv 2) pe_int) (pe_op op_pow pe_int pe_int)) (pa_cons (pe_op op_mod (pv 2) pe_int) (pa_cons (pe_op op_add pe_int (pe_op op_mod (pe_op op_fdiv (pv 2) pe_int) pe_int)) (pa_cons (pv 3) (pa_cons (pv 4) pa_nil)))))) pa_nil))))))))
      (pss_one (ps_ret (pv 1))))), ?_⟩
  obtain ⟨ns, hS, ln, kk⟩ := h
  have q18 := p18
  have q30 := p30
  have q60 := p60
  clean_wf
  intro l H1 hl s1 g1
  have hS1 := s1.seq hS
  clean_wf
  refine for_list (xs := ns.map V.int) (fun i σ A => ∃ v2 v3 v4 ws rs, σ = [some (.ref a), some (.ref l), v2, v3, v4] ∧ Same H A ∧ A l = some (.lst ws) ∧ Rws A ws rs ∧ rs.length ≤ i ∧ (∀ r ∈ rs, r.2.2.2.1 = "own" ∨ r.2.2.2.1 = "heard" ∨ r.2.2.2.1 = "one")) ⟨none, none, none, [], [], rfl, s1, g1, .nil, Nat.le_refl _, (fun _ z => nomatch z)⟩ (fun i σ A _ z => by obtain ⟨_, _, _, _, _, _, z, _⟩ := z; exact z.seq hS) ?_ ?_
  · rintro i x σ A hx ⟨v2, v3, v4, ws, rs, rfl, sA, gl, rw', lr, kd⟩
    obtain ⟨c, hc, rfl⟩ := int_get hx
    have hi := (List.getElem?_eq_some_iff.mp hc).1
    have cm : CMul c 69621 := .inr ⟨by decide, by decide⟩
    obtain ⟨kd', hkd, ekd⟩ : ∃ kd, atI [V.str "own", V.str "heard", V.str "one"] (c % 3) = some (V.str kd) ∧ (kd = "own" ∨ kd = "heard" ∨ kd = "one") := by
      have k0 := Int.emod_nonneg c (show (3 : Int) ≠ 0 by decide)
      have k1 := Int.emod_lt_of_pos c (show (0 : Int) < 3 by decide)
      generalize c % 3 = j at k0 k1 ⊢
      rcases (by omega : j = 0 ∨ j = 1 ∨ j = 2) with rfl | rfl | rfl
      · exact ⟨_, rfl, .inl rfl⟩
      · exact ⟨_, rfl, .inr (.inl rfl)⟩
      · exact ⟨_, rfl, .inr (.inr rfl)⟩
    have lw := Paired.length rw'
    have ls : ws.length < sizeLine := small1000 (by omega)
    clean_wf
    intro k0 B2 hk0 t4 gk
    have sk : SqL K B2 k0 [V.str "own", V.str "heard", V.str "one"] := SqL.of gk
    have gl2 := t4 _ _ gl
    clean_wf
    intro u B3 hu t5 gu
    have gl3 := t5 _ _ gl2
    clean_wf
    intro B4 b4 g4
    have m4 : SmH B3 B4 := SmH.but b4 gl3 (by intro _ z; cases z)
    refine ⟨_, _, _, ws ++ [.ref u], rs ++ [(c / 3 % 10 ^ (18 : Int).toNat, c % 63, 1 + c / 5 % 100, kd', c * 69621 % 10 ^ (60 : Int).toNat - c % 10 ^ (30 : Int).toNat)], rfl, b4.same (sA.trans (t4.trans t5)) hl, g4, Paired.snoc (rws_up ((SmH.same (t4.trans t5)).trans m4) rw') ⟨u, rfl, m4 _ _ gu⟩, by rw [List.length_append]; exact Nat.succ_le_succ lr, fun r hr => ?_⟩
    rcases List.mem_append.mp hr with z | z
    · exact kd r z
    · rw [List.mem_singleton.mp z]; exact ekd
  rintro σ A ⟨v2, v3, v4, ws, rs, rfl, sA, gl, rw', lr, kd⟩
  rw [List.length_map] at lr
  clean_wf
  exact kk A l ws rs sA gl rw' (by omega) kd

def stp (t l d : Int) (r : Rw) : Int := (d * t + r.2.2.2.2 - l) % (10 ^ (60 : Int).toNat + 7)
abbrev clT (n : Nat) : List (Str × Addr) := [("_law_times", n + 1 + 1), ("_law_less", n + 1)]
abbrev fT (n : Nat) (doc pm ctv : Value) (c' : Addr) : Obj := PySem.W.fnMade "_law_turned" "law.<locals>._law_turned" (defArgs s__law_turned) (defBody s__law_turned) (defScope s__law_turned) (clT n) doc pm c' ctv
abbrev fG (doc pm ctv : Value) (c' : Addr) : Obj := PySem.W.fnMade "_law_greater" "law.<locals>._law_greater" (defArgs s__law_greater) (defBody s__law_greater) (defScope s__law_greater) [] doc pm c' ctv
abbrev fL (doc pm ctv : Value) (c' : Addr) : Obj := PySem.W.fnMade "_law_listed" "law.<locals>._law_listed" (defArgs s__law_listed) (defBody s__law_listed) (defScope s__law_listed) [] doc pm c' ctv
theorem call_turned {A : Hp} {n : Nat} {f c' b : Addr} {doc pm ctv : Value} {t l d0 : Int} {ws : List V} {rs : List Rw} {Q : VK} (ef : A f = some (FnO f (fT n doc pm ctv c'))) (ec : A c' = some (CdO c' "law.<locals>._law_turned")) (hb : A b = some (.tup ws)) (hr : Rws A ws rs) (t0 : -1000 < t) (t1 : t < 1000)
    (kk : ∀ A2, Same A A2 → Q (.int (rs.foldl (stp t l) d0)) A2) : ∀ L, Lnd A (clT n) [.int t, .int l] L → sp_folded K [.ref b, .int d0, .ref f] L (unlQ ((clT n).map (·.2)) Q) E0 := by
  intro L ld
  have sL := ld.same
  have lw : ws.length = rs.length := Paired.length hr
  refine ⟨b, .int d0, f, rfl, ws, .int d0, _, SqT.of (sL _ _ hb), .inl (.int d0), .inl ⟨c', n + 1 + 1, n + 1, doc, pm, ctv, .int t, .int l, Nat.succ_ne_self _, rfl⟩, fun i v H' => v = .int ((rs.take i).foldl (stp t l) d0) ∧ Same L H', fun H' x' s p => ?_, fun i v H' ⟨_, s⟩ => ⟨SqT.of (s _ _ (sL _ _ hb)), _, ⟨_, rfl⟩, s _ _ (sL _ _ ef)⟩, fun i r v H' Q' hri pv k => ?_, fun v H' ⟨e, s⟩ => ?_⟩
  · rcases p with p | ⟨_, _, _, _, _, _, _, _, _, z⟩
    · cases p
      exact ⟨rfl, s⟩
    · cases z
  · obtain ⟨rfl, s⟩ := pv
    obtain ⟨r', hr', tt, rfl, ht⟩ := paired_at hr hri
    have la := ld.all.up s
    refine ⟨s _ _ (sL _ _ ef), s _ _ (sL _ _ ec), la, _, tt, rfl, t, l, _, _, _, _, _, rfl, rfl, SqT.of (unl_tup la.frz (s _ _ (sL _ _ ht)) (by intro _ _ z; cases z)), t0, t1, k _ _ ⟨?_, s.trans (same_rln (.refl _))⟩⟩
    rw [take_get hr', List.foldl_append]
    rfl
  · rw [e, lw, List.take_length]
    exact kk _ (ld.back s)
theorem call_greater {A : Hp} {n : Nat} {f c' b : Addr} {doc pm ctv : Value} {t l d0 : Int} {ws : List V} {rs : List Rw} {Q : VK} (ef : A f = some (FnO f (fG doc pm ctv c'))) (ec : A c' = some (CdO c' "law.<locals>._law_greater")) (hb : A b = some (.tup ws)) (hr : Rws A ws rs)
    (kk : ∀ A2, Same A A2 → Q (.int (rs.foldl (fun d r => max d r.2.2.2.2) d0)) A2) : ∀ L, Lnd A (clT n) [.int t, .int l] L → sp_folded K [.ref b, .int d0, .ref f] L (unlQ ((clT n).map (·.2)) Q) E0 := by
  intro L ld
  have sL := ld.same
  have lw : ws.length = rs.length := Paired.length hr
  refine ⟨b, .int d0, f, rfl, ws, .int d0, _, SqT.of (sL _ _ hb), .inl (.int d0), .inr (.inl ⟨c', doc, pm, ctv, rfl⟩), fun i v H' => v = .int ((rs.take i).foldl (fun d r => max d r.2.2.2.2) d0) ∧ Same L H', fun H' x' s p => ?_, fun i v H' ⟨_, s⟩ => ⟨SqT.of (s _ _ (sL _ _ hb)), _, ⟨_, rfl⟩, s _ _ (sL _ _ ef)⟩, fun i r v H' Q' hri pv k => ?_, fun v H' ⟨e, s⟩ => ?_⟩
  · rcases p with p | ⟨_, _, _, _, _, _, _, _, _, z⟩
    · cases p
      exact ⟨rfl, s⟩
    · cases z
  · obtain ⟨rfl, s⟩ := pv
    obtain ⟨r', hr', tt, rfl, ht⟩ := paired_at hr hri
    have la : LentAll H' [] [] := ⟨rfl, fun i x c v e1 _ => by simp at e1⟩
    refine ⟨s _ _ (sL _ _ ef), s _ _ (sL _ _ ec), la, _, tt, rfl, _, _, _, _, _, SqT.of (unl_tup la.frz (s _ _ (sL _ _ ht)) (by intro _ _ z; cases z)), k _ _ ⟨?_, s.trans (same_rln (.refl _))⟩⟩
    rw [take_get hr', List.foldl_append]
    rfl
  · rw [e, lw, List.take_length]
    exact kk _ (ld.back s)
def rwD (r : Rw) : PyData := .tuple [.int r.1, .int r.2.1, .int r.2.2.1, .str r.2.2.2.1, .int r.2.2.2.2]
theorem rws_pcs {H : Hp} : ∀ {zs : List V} {rs : List Rw}, Rws H zs rs → Pcs H 1 zs (rs.map rwD)
  | _, _, .nil => .nil
  | _, _, .cons ⟨t, e, g⟩ r => by
    subst e
    exact .cons (.tup g (by show 5 ≤ 63; decide) (.cons (.int _) (.cons (.int _) (.cons (.int _) (.cons (.str _) (.cons (.int _) .nil)))))) (rws_pcs r)
theorem pcs_rws {H : Hp} : ∀ {zs : List V} {rs : List Rw}, Pcs H 1 zs (rs.map rwD) → Rws H zs rs
  | _, [], .nil => .nil
  | _, r :: rs, .cons h t => by
    refine .cons ?_ (pcs_rws t)
    cases h with
    | tup e _ p =>
      cases p with
      | cons p1 p =>
        cases p1
        cases p with
        | cons p2 p =>
          cases p2
          cases p with
          | cons p3 p =>
            cases p3
            cases p with
            | cons p4 p =>
              cases p4
              cases p with
              | cons p5 p =>
                cases p5
                cases p
                exact ⟨_, rfl, e⟩
theorem call_listed {A : Hp} {n : Nat} {f c' b a0 : Addr} {doc pm ctv : Value} {t l : Int} {ws zs : List V} {rs rs0 : List Rw} {Q : VK} (ef : A f = some (FnO f (fL doc pm ctv c'))) (ec : A c' = some (CdO c' "law.<locals>._law_listed")) (hb : A b = some (.tup ws)) (hr : Rws A ws rs) (ha : A a0 = some (.lst zs)) (hz : Rws A zs rs0) (hl : rs0.length + rs.length ≤ 63)
    (kk : ∀ A2 p zs', Same A A2 → A2 p = some (.lst zs') → Rws A2 zs' (rs0 ++ rs) → Q (.ref p) A2) : ∀ L, Lnd A (clT n) [.int t, .int l] L → sp_folded K [.ref b, .ref a0, .ref f] L (unlQ ((clT n).map (·.2)) Q) E0 := by
  intro L ld
  have sL := ld.same
  have lw : ws.length = rs.length := Paired.length hr
  have lz : zs.length = rs0.length := Paired.length hz
  refine ⟨b, .ref a0, f, rfl, ws, .list (rs0.map rwD), _, SqT.of (sL _ _ hb), .inr ⟨a0, zs, _, 1, rfl, rfl, sL _ _ ha, by omega, rws_pcs (rws_up (.same sL) hz), rfl⟩, .inr (.inr ⟨c', doc, pm, ctv, rfl⟩), fun i v H' => (∃ p zs', v = .ref p ∧ H' p = some (.lst zs') ∧ Rws H' zs' (rs0 ++ rs.take i)) ∧ Same L H', fun H' x' s p => ?_, fun i v H' ⟨_, s⟩ => ⟨SqT.of (s _ _ (sL _ _ hb)), _, ⟨_, rfl⟩, s _ _ (sL _ _ ef)⟩, fun i r v H' Q' hri pv k => ?_, fun v H' ⟨e, s⟩ => ?_⟩
  · rcases p with p | ⟨p, zs', ds, m, em, rfl, hp, _, pz, ed⟩
    · cases p
    · cases em
      have ed : rs0.map rwD = ds := by injection ed
      subst ed
      exact ⟨⟨p, zs', rfl, hp, by rw [List.take_zero, List.append_nil]; exact pcs_rws pz⟩, s⟩
  · obtain ⟨⟨p, zs', rfl, hp, hz'⟩, s⟩ := pv
    obtain ⟨r', hr', tt, rfl, ht⟩ := paired_at hr hri
    have hi := (List.getElem?_eq_some_iff.mp hr').1
    have la : LentAll H' [] [] := ⟨rfl, fun i x c v e1 _ => by simp at e1⟩
    have lz' := Paired.length hz'
    rw [List.length_append, List.length_take] at lz'
    refine ⟨s _ _ (sL _ _ ef), s _ _ (sL _ _ ec), la, p, _, rfl, zs', unl_tup la.frz hp (by intro _ _ z; cases z), by omega, fun p2 H2 hp2 s2 g2 => k _ _ ⟨⟨p2, _, rfl, g2, ?_⟩, s.trans (same_rln s2)⟩⟩
    have s2' : Same H' H2 := same_rln (cs := []) s2
    rw [take_get hr', ← List.append_assoc]
    exact Paired.snoc (rws_up (.same s2') hz') ⟨tt, rfl, s2' _ _ (s _ _ (sL _ _ ht))⟩
  · obtain ⟨p, zs', rfl, hp, hz'⟩ := e
    rw [lw, List.take_length] at hz'
    have fz := (ld.all.up s).frz
    exact kk _ p zs' (ld.back s) (unl_tup fz hp (by intro _ _ z; cases z)) (Paired.mapP hz' fun _ _ ⟨t, e, g⟩ => ⟨t, e, unl_tup fz g (by intro _ _ z; cases z)⟩)
theorem call_none {A : Hp} {n : Nat} {f c' b : Addr} {doc pm ctv : Value} {t l : Int} {Q : VK} (ef : A f = some (FnO f (fL doc pm ctv c'))) (hb : A b = some (.tup []))
    (kk : ∀ A2, Same A A2 → Q .non A2) : ∀ L, Lnd A (clT n) [.int t, .int l] L → sp_folded K [.ref b, .non, .ref f] L (unlQ ((clT n).map (·.2)) Q) E0 := by
  intro L ld
  have sL := ld.same
  refine ⟨b, .non, f, rfl, [], .none, _, SqT.of (sL _ _ hb), .inl .non, .inr (.inr ⟨c', doc, pm, ctv, rfl⟩), fun i v H' => v = .non ∧ Same L H', fun H' x' s p => ?_, fun i v H' ⟨_, s⟩ => ⟨SqT.of (s _ _ (sL _ _ hb)), _, ⟨_, rfl⟩, s _ _ (sL _ _ ef)⟩, fun i r v H' Q' hri pv k => by simp at hri, fun v H' ⟨e, s⟩ => ?_⟩
  · rcases p with p | ⟨_, _, _, _, _, _, _, _, _, z⟩
    · cases p
      exact ⟨rfl, s⟩
    · cases z
  · rw [e]
    exact kk _ (ld.back s)
theorem seq_smb {K : PySem.W.Frag} {H A : Hp} {a P : Addr} {xs : List V} {ps : Array Value} (sm : SmB P H A) (hP : H P = some (.tbl ps)) (h : SqL K H a xs) : SqL K A a xs := by
  rcases h with (h | ⟨o, h⟩) | h
  · exact .inl (.inl (sm _ _ (ne_of h hP (by intro z; cases z)) h))
  · exact .inl (.inr ⟨o, sm _ _ (ne_of h hP (by intro z; cases z)) h⟩)
  · exact .inr h
theorem lend2 {σ : St} {i1 i2 : Nat} {v1 v2 : V} (h1 : σ[i1]? = some (some v1)) (h2 : σ[i2]? = some (some v2)) : ∀ (j : Nat) i v, [i1, i2][j]? = some i → [v1, v2][j]? = some v → σ[i]? = some (some v)
  | 0, i, v, e1, e2 => by cases e1; cases e2; exact h1
  | 1, i, v, e1, e2 => by cases e1; cases e2; exact h2
  | j + 2, i, v, e1, e2 => by cases e1
theorem cut_take (xs : List V) (k : Nat) (h : k ≤ xs.length) : cutV xs none (some (k : Int)) = xs.take k := by
  unfold cutV
  have e1 : HT.sIx xs.length 0 none = 0 := rfl
  have e2 : HT.sIx xs.length xs.length (some (k : Int)) = k := by
    show (if (k : Int) < 0 then ((k : Int) + (xs.length : Nat)).toNat else min (k : Int).toNat xs.length) = k
    rw [if_neg (by omega), Int.toNat_natCast]
    omega
  rw [e1, e2, List.drop_zero, Nat.sub_zero]
theorem cut_drop (xs : List V) (k : Nat) (h : k ≤ xs.length) : cutV xs (some (k : Int)) none = xs.drop k := by
  unfold cutV
  have e1 : HT.sIx xs.length 0 (some (k : Int)) = k := by
    show (if (k : Int) < 0 then ((k : Int) + (xs.length : Nat)).toNat else min (k : Int).toNat xs.length) = k
    rw [if_neg (by omega), Int.toNat_natCast]
    omega
  have e2 : HT.sIx xs.length xs.length none = xs.length := rfl
  rw [e1, e2]
  exact List.take_of_length_le (by rw [List.length_drop]; exact Nat.le_refl _)
theorem paired_take {α β : Type} {F : α → β → Prop} : ∀ {l : List α} {m : List β} (k : Nat), Paired F l m → Paired F (l.take k) (m.take k)
  | _, _, 0, _ => .nil
  | _, _, _ + 1, .nil => .nil
  | _, _, k + 1, .cons h t => .cons h (paired_take k t)
theorem paired_drop {α β : Type} {F : α → β → Prop} : ∀ {l : List α} {m : List β} (k : Nat), Paired F l m → Paired F (l.drop k) (m.drop k)
  | _, _, 0, h => h
  | _, _, _ + 1, .nil => .nil
  | _, _, k + 1, .cons _ t => paired_drop k t
theorem rws_dps {K : PySem.W.Frag} {H : Hp} : ∀ {zs : List V} {rs : List Rw}, Rws H zs rs → Dps K H zs (rs.map rwD)
  | _, _, .nil => .nil
  | _, _, .cons ⟨t, e, g⟩ r => by
    subst e
    exact .cons (.tup (SqT.of g) (.cons (.int _) (.cons (.int _) (.cons (.int _) (.cons (.str _) (.cons (.int _) .nil)))))) (rws_dps r)
theorem rws_lay : ∀ {rs : List Rw}, (∀ r ∈ rs, r.2.2.2.1 = "own" ∨ r.2.2.2.1 = "heard" ∨ r.2.2.2.1 = "one") → PyData.canLayAll0 (rs.map rwD) = true
  | [], _ => rfl
  | r :: rs, h => by
    have e : PyData.strOk r.2.2.2.1 = true := by
      rcases h r List.mem_cons_self with h | h | h <;> rw [h] <;> decide +kernel
    rw [List.map_cons, PyData.canLayAll0.eq_2, rws_lay fun x hx => h x (List.mem_cons_of_mem _ hx), Bool.and_true]
    simp [rwD, PyData.canLay0, PyData.canLayAll0, e]
theorem rws_dep : ∀ rs : List Rw, PyData.depthAll (rs.map rwD) ≤ 50
  | [] => by decide
  | r :: rs => by
    have e : PyData.depthAll ((r :: rs).map rwD) = max (rwD r).depth (PyData.depthAll (rs.map rwD)) := rfl
    have := rws_dep rs
    have e2 : (rwD r).depth = 1 := rfl
    rw [e, e2]
    omega
theorem fold_max : ∀ (rs : List Rw) (d : Int), rs.foldl (fun d r => max d r.2.2.2.2) d ∈ d :: rs.map (fun r => r.2.2.2.2) ∧ ∀ z ∈ d :: rs.map (fun r => r.2.2.2.2), z ≤ rs.foldl (fun d r => max d r.2.2.2.2) d
  | [], d => ⟨List.mem_cons_self, fun z hz => by simp at hz; rw [hz]; exact Int.le_refl _⟩
  | r :: rs, d => by
    obtain ⟨a, b⟩ := fold_max rs (max d r.2.2.2.2)
    rw [List.foldl_cons, List.map_cons]
    refine ⟨?_, fun z hz => ?_⟩
    · rcases List.mem_cons.mp a with e | e
      · rw [e]
        rcases (show max d r.2.2.2.2 = d ∨ max d r.2.2.2.2 = r.2.2.2.2 by omega) with q | q
        · rw [q]; exact List.mem_cons_self
        · rw [q]; exact List.mem_cons_of_mem _ List.mem_cons_self
      · exact List.mem_cons_of_mem _ (List.mem_cons_of_mem _ e)
    · have m := b _ List.mem_cons_self
      rcases List.mem_cons.mp hz with e | hz
      · rw [e]; omega
      · rcases List.mem_cons.mp hz with e | hz
        · rw [e]; omega
        · exact b z (List.mem_cons_of_mem _ hz)
def sp_law (K : PySem.W.Frag) (P_mk : Addr) : Sp := fun vs H Q _ => ∃ (a : Addr) (ns : List Int), vs = [.ref a] ∧ SqL K H a (ns.map V.int) ∧ ns.length ≤ 63 ∧ H P_mk = some (.tbl #[]) ∧ ∀ H', Q (.bl true) H'
theorem sc_law : FnScope ["_law_script", "_law_rows_here", "_law_begin", "_law_times", "_law_less", "_law_turned", "_law_greater", "_law_listed", "_law_due", "_law_row", "_law_at"] ["_law_script"] (defScope s_law) := ⟨rfl, rfl, rfl, by decide +kernel, rfl, by decide +kernel, by decide +kernel⟩
set_option maxHeartbeats 16000000 in
theorem ok_law {f f_folded f__law_cell_at f__law_rows : Addr} {fd fd_folded fd__law_cell_at fd__law_rows : FuncData} {c_mk P_mk : Addr} (F : FunC K "law" "law" s_law f fd c_mk) (hC : PySem.W.CodeHd base c_mk P_mk) (hB : BltM base mg)
    (G_folded : FnOk P w K mg base CX0 4 f_folded fd_folded ["book", "begin", "step"] (sp_folded K)) (C_folded : Cal K mg "folded" f_folded fd_folded ["book", "begin", "step"])
    (G__law_cell_at : FnOk P w K mg base CX0 4 f__law_cell_at fd__law_cell_at ["_law_script", "_law_k"] (sp__law_cell_at K)) (C__law_cell_at : Cal K mg "_law_cell_at" f__law_cell_at fd__law_cell_at ["_law_script", "_law_k"])
    (G__law_rows : FnOk P w K mg base CX0 4 f__law_rows fd__law_rows ["_law_cells"] (sp__law_rows K)) (C__law_rows : Cal K mg "_law_rows" f__law_rows fd__law_rows ["_law_cells"]) (h_len : mg "len" = none) (h_max : mg "max" = none) (h_tuple : mg "tuple" = none) : FnOk P w K mg base CX0 5 f fd ["_law_script"] (sp_law K P_mk) := by
  refine F.ok sc_law (fun vs H Q E h => ?_) (fun A outer s H vs Q E hr h => ?_)
  · obtain ⟨a, ns, rfl, _⟩ := h
    rfl
  obtain ⟨a, ns, rfl, h⟩ := h
  have hu64 := hr.units
  have hu0 := hr.units0
  have hu := hu_of hr
  refine ⟨_, (pss_cons (ps_set (i := 1) sc_law.nd rfl (Or.inl rfl) (pcall G__law_rows C__law_rows hr (pa_cons (pe_slice (sl_listK (K := K) rfl) (pv 0) po_none (po_some pe_int)) pa_nil)))
      (pss_cons (ps_set (i := 2) sc_law.nd rfl (Or.inl rfl) (pe_op op_mod (pcall G__law_cell_at C__law_cell_at hr (pa_cons (pv 0) (pa_cons pe_int pa_nil))) (pe_op op_pow pe_int pe_int)))
      (pss_cons (ps_set (i := 3) sc_law.nd rfl (Or.inr rfl) (pe_op op_sub (pe_op op_mod (pcall G__law_cell_at C__law_cell_at hr (pa_cons (pv 0) (pa_cons pe_int pa_nil))) pe_int) pe_int))
      (pss_cons (ps_set (i := 4) sc_law.nd rfl (Or.inr rfl) (pe_op op_mod (pcall G__law_cell_at C__law_cell_at hr (pa_cons (pv 0) (pa_cons pe_int pa_nil))) (pe_op op_pow pe_int pe_int)))
      (pss_cons (ps_def (c := c_mk) (Pt := P_mk) (i := 5) sc_law.nd rfl (Or.inl rfl) (Or.inl rfl) rfl rfl rfl rfl rfl hC hB)
      (pss_cons (ps_def (c := c_mk) (Pt := P_mk) (i := 6) sc_law.nd rfl (Or.inl rfl) (Or.inl rfl) rfl rfl rfl rfl rfl hC hB)
      (pss_cons (ps_def (c := c_mk) (Pt := P_mk) (i := 7) sc_law.nd rfl (Or.inl rfl) (Or.inl rfl) rfl rfl rfl rfl rfl hC hB)
      (pss_cons (ps_set (i := 8) sc_law.nd rfl (Or.inl rfl) (pv 2))
      (pss_cons (ps_for PassesOwn.never rfl (pi_listK (K := K) rfl (pv 1)) (pg_name (i := 9) sc_law.nd rfl (Or.inl rfl))
      (pss_one (ps_set (i := 8) sc_law.nd rfl (Or.inl rfl) (pe_op op_mod (pe_op op_sub (pe_op op_add (pe_op op_mul (pv 8) (pv 3)) (pe_ix (ix_tupK (K := K) rfl) (pv 9) pe_int (fun _ _ => rfl))) (pv 4)) (pe_op op_add (pe_op op_pow pe_int pe_int) pe_int)))))
      (pss_cons (ps_set (i := 10) sc_law.nd rfl (Or.inl rfl) (pe_op op_mod (pcall G__law_cell_at C__law_cell_at hr (pa_cons (pv 0) (pa_cons pe_int pa_nil))) (pe_op op_add (pe_callB (call_lenK (K := K) rfl) (by rfl) h_len PySem.boot_len (pa_cons (pv 1) pa_nil)) pe_int)))
      (pss_cons (ps_if (pt_cmpR (op_neK (K := K) rfl hu64) (pe_callL G_folded hr rfl C_folded.mg C_folded.kp C_folded.bd pass0 (own2 (i1 := 3) (i2 := 4) (x1 := "_law_times") (x2 := "_law_less") (c1 := s.heap.objs.size + 1 + 1) (c2 := s.heap.objs.size + 1) (Nat.succ_ne_self _) rfl rfl rfl rfl rfl rfl rfl rfl) (pa_cons (pe_callTy (call_tupleK (K := K) rfl) (by rfl) h_tuple PyProof.Rows.boot_tuple (pa_cons (pv 1) pa_nil)) (pa_cons (pv 2) (pa_cons (pv 5) pa_nil)))) (pv 8) (nomark _)) (pss_one (ps_ret pe_bl)) pss_nil)
      (pss_cons (ps_if (pt_cmpR (op_neK (K := K) rfl hu64) (pe_callL G_folded hr rfl C_folded.mg C_folded.kp C_folded.bd pass0 (own2 (i1 := 3) (i2 := 4) (x1 := "_law_times") (x2 := "_law_less") (c1 := s.heap.objs.size + 1 + 1) (c2 := s.heap.objs.size + 1) (Nat.succ_ne_self _) rfl rfl rfl rfl rfl rfl rfl rfl) (pa_cons (pe_callTy (call_tupleK (K := K) rfl) (by rfl) h_tuple PyProof.Rows.boot_tuple (pa_cons (pe_slice (sl_listK (K := K) rfl) (pv 1) (po_some (pv 10)) po_none) pa_nil)) (pa_cons (pe_callL G_folded hr rfl C_folded.mg C_folded.kp C_folded.bd pass0 (own2 (i1 := 3) (i2 := 4) (x1 := "_law_times") (x2 := "_law_less") (c1 := s.heap.objs.size + 1 + 1) (c2 := s.heap.objs.size + 1) (Nat.succ_ne_self _) rfl rfl rfl rfl rfl rfl rfl rfl) (pa_cons (pe_callTy (call_tupleK (K := K) rfl) (by rfl) h_tuple PyProof.Rows.boot_tuple (pa_cons (pe_slice (sl_listK (K := K) rfl) (pv 1) po_none (po_some (pv 10))) pa_nil)) (pa_cons (pv 2) (pa_cons (pv 5) pa_nil)))) (pa_cons (pv 5) pa_nil)))) (pv 8) (nomark _)) (pss_one (ps_ret pe_bl)) pss_nil)
      (pss_cons (ps_if (PW.pt (pw_or (pt_cmpR (op_neK (K := K) rfl hu64) (pe_callL G_folded hr rfl C_folded.mg C_folded.kp C_folded.bd pass0 (own2 (i1 := 3) (i2 := 4) (x1 := "_law_times") (x2 := "_law_less") (c1 := s.heap.objs.size + 1 + 1) (c2 := s.heap.objs.size + 1) (Nat.succ_ne_self _) rfl rfl rfl rfl rfl rfl rfl rfl) (pa_cons (pe_tup pa_nil) (pa_cons (pv 2) (pa_cons (pv 5) pa_nil)))) (pv 2) (nomark _)) (pw_or1 (pt_cmpR op_notN (pe_callL G_folded hr rfl C_folded.mg C_folded.kp C_folded.bd pass0 (own2 (i1 := 3) (i2 := 4) (x1 := "_law_times") (x2 := "_law_less") (c1 := s.heap.objs.size + 1 + 1) (c2 := s.heap.objs.size + 1) (Nat.succ_ne_self _) rfl rfl rfl rfl rfl rfl rfl rfl) (pa_cons (pe_tup pa_nil) (pa_cons pe_non (pa_cons (pv 7) pa_nil)))) pe_non (nomark _))))) (pss_one (ps_ret pe_bl)) pss_nil)
      (pss_cons (ps_if (pt_cmpR (op_neK (K := K) rfl hu64) (pe_callL G_folded hr rfl C_folded.mg C_folded.kp C_folded.bd pass0 (own2 (i1 := 3) (i2 := 4) (x1 := "_law_times") (x2 := "_law_less") (c1 := s.heap.objs.size + 1 + 1) (c2 := s.heap.objs.size + 1) (Nat.succ_ne_self _) rfl rfl rfl rfl rfl rfl rfl rfl) (pa_cons (pe_callTy (call_tupleK (K := K) rfl) (by rfl) h_tuple PyProof.Rows.boot_tuple (pa_cons (pv 1) pa_nil)) (pa_cons (pv 2) (pa_cons (pv 6) pa_nil)))) (pe_callB (call_max1 rfl) (by rfl) h_max PyProof.Rows.boot_max (pa_cons (pe_op op_cat (pe_lst (pa_cons (pv 2) pa_nil)) (pe_comp ["_law_row"] [none] rfl rfl (by kernel_rfl) (pi_listK (K := K) rfl (pv 1)) (fun _ _ _ _ _ nd => pg_name (i := 0) nd rfl (Or.inl rfl)) (fun _ _ _ _ _ => pif_nil) (fun _ _ _ _ _ => (pe_ix (ix_tupK (K := K) rfl) (pv 0) pe_int (fun _ _ => rfl))))) pa_nil)) (nomark _)) (pss_one (ps_ret pe_bl)) pss_nil)
      (pss_one (ps_ret (pe_and (pe_cmpR (op_eqK (K := K) rfl hu64) (pe_callL G_folded hr rfl C_folded.mg C_folded.kp C_folded.bd pass0 (own2 (i1 := 3) (i2 := 4) (x1 := "_law_times") (x2 := "_law_less") (c1 := s.heap.objs.size + 1 + 1) (c2 := s.heap.objs.size + 1) (Nat.succ_ne_self _) rfl rfl rfl rfl rfl rfl rfl rfl) (pa_cons (pe_callTy (call_tupleK (K := K) rfl) (by rfl) h_tuple PyProof.Rows.boot_tuple (pa_cons (pv 1) pa_nil)) (pa_cons (pe_lst pa_nil) (pa_cons (pv 7) pa_nil)))) (pv 1) (nomark _)) (pe_one (pe_cmpR (op_eqK (K := K) rfl hu64) (pe_callL G_folded hr rfl C_folded.mg C_folded.kp C_folded.bd pass0 (own2 (i1 := 3) (i2 := 4) (x1 := "_law_times") (x2 := "_law_less") (c1 := s.heap.objs.size + 1 + 1) (c2 := s.heap.objs.size + 1) (Nat.succ_ne_self _) rfl rfl rfl rfl rfl rfl rfl rfl) (pa_cons (pe_callTy (call_tupleK (K := K) rfl) (by rfl) h_tuple PyProof.Rows.boot_tuple (pa_cons (pe_slice (sl_listK (K := K) rfl) (pv 1) (po_some (pv 10)) po_none) pa_nil)) (pa_cons (pe_slice (sl_listK (K := K) rfl) (pv 1) po_none (po_some (pv 10))) (pa_cons (pv 7) pa_nil)))) (pv 1) (nomark _)))))))))))))))))))), ?_⟩
  obtain ⟨hS, ln, hP, kk⟩ := h
  have q40 := p40
  have q20 := p20
  clean_wf
  intro p H1 hp s1 g1
  obtain ⟨ms, ems, _⟩ := cut_ints ns none (some 63)
  have lms : ms.length ≤ 63 := by
    have := congrArg List.length ems
    rw [List.length_map] at this
    rw [← this]
    unfold cutV
    rw [List.length_take, List.length_drop, List.length_map]
    omega
  rw [ems] at g1
  clean_wf
  refine ⟨p, rfl, ms, SqL.of g1, lms, fun H2 l ws rs s2 gl rw' lr kd => ?_⟩
  have s02 := s1.trans s2
  clean_wf
  refine ⟨a, 0, rfl, ns, s02.seq hS, by decide, fun c0 => ?_⟩
  clean_wf
  refine ⟨a, 1, rfl, ns, s02.seq hS, by decide, fun c1 => ?_⟩
  clean_wf
  refine ⟨a, 2, rfl, ns, s02.seq hS, by decide, fun c2 => ?_⟩
  clean_wf
  have hP2 := s02 _ _ hP
  refine x_def hP2 True.intro rfl fun f1 d1 doc1 ctv1 A1 hf1 hd1 sm1 e1 g1' eP1 => ?_
  refine x_def eP1 (by simp [TriplesOk, rawInt]) (by simp [codeAmong, rawInt]) fun f2 d2 doc2 ctv2 A2 hf2 hd2 sm2 e2 g2' eP2 => ?_
  refine x_def eP2 (by simp [TriplesOk, rawInt]) (by simp [codeAmong, rawInt]) fun f3 d3 doc3 ctv3 A3 hf3 hd3 sm3 e3 g3' eP3 => ?_
  have up : ∀ b u, (∀ ps, u ≠ .tbl ps) → H2 b = some u → A3 b = some u := fun b u n e => by
    have a1 := sm1 b u (fun z => by rw [z, hP2] at e; cases e; exact n _ rfl) e
    have a2 := sm2 b u (fun z => by rw [z, eP1] at a1; cases a1; exact n _ rfl) a1
    exact sm3 b u (fun z => by rw [z, eP2] at a2; cases a2; exact n _ rfl) a2
  have ef1 : A3 f1 = some (FnO f1 (fT s.heap.objs.size doc1 ((mg "__name__").getD .none) ctv1 d1)) := by
    have a2 := sm2 _ _ (ne_of e1 eP1 (by intro z; cases z)) e1
    exact sm3 _ _ (ne_of a2 eP2 (by intro z; cases z)) a2
  have ec1 : A3 d1 = some (CdO d1 "law.<locals>._law_turned") := by
    have a2 := sm2 _ _ (ne_of g1' eP1 (by intro z; cases z)) g1'
    exact sm3 _ _ (ne_of a2 eP2 (by intro z; cases z)) a2
  have ef2 : A3 f2 = some (FnO f2 (fG doc2 ((mg "__name__").getD .none) ctv2 d2)) := sm3 _ _ (ne_of e2 eP2 (by intro z; cases z)) e2
  have ec2 : A3 d2 = some (CdO d2 "law.<locals>._law_greater") := sm3 _ _ (ne_of g2' eP2 (by intro z; cases z)) g2'
  have ef3 : A3 f3 = some (FnO f3 (fL doc3 ((mg "__name__").getD .none) ctv3 d3)) := e3
  have ec3 : A3 d3 = some (CdO d3 "law.<locals>._law_listed") := g3'
  have glW : A3 l = some (.lst ws) := up _ _ (by intro _ z; cases z) gl
  have rwW : Rws A3 ws rs := rws_up (fun b ys z => up _ _ (by intro _ z; cases z) z) rw'
  have hSW : SqL K A3 a (ns.map V.int) := seq_smb sm3 eP2 (seq_smb sm2 eP1 (seq_smb sm1 hP2 (s02.seq hS)))
  clear e1 e2 e3 g1' g2' g3' up
  have t0 := Int.emod_nonneg c1 (show (1000 : Int) ≠ 0 by decide)
  have t1 := Int.emod_lt_of_pos c1 (show (0 : Int) < 1000 by decide)
  have t0 : -1000 < c1 % 1000 - 500 := by omega
  have t1 : c1 % 1000 - 500 < 1000 := by omega
  have lw : ws.length = rs.length := Paired.length rwW
  have q67 : (0 : Int) < 10 ^ (60 : Int).toNat + 7 := by have := p60; omega
  clean_wf
  generalize c0 % 10 ^ Int.toNat 40 = bg
  generalize c1 % 1000 - 500 = tm at t0 t1 ⊢
  generalize c2 % 10 ^ Int.toNat 20 = le
  refine for_list (xs := ws) (fun i σ A => ∃ v9, σ = [some (.ref a), some (.ref l), some (.int bg), some (.int tm), some (.int le), some (.ref f1), some (.ref f2), some (.ref f3), some (.int ((rs.take i).foldl (stp tm le) bg)), v9, none] ∧ Same A3 A) ⟨none, rfl, .refl _⟩ (fun i σ A _ z => by obtain ⟨_, _, z⟩ := z; exact SqL.of (z _ _ glW)) ?_ ?_
  · rintro i v σ A hv ⟨v9, rfl, sA⟩
    obtain ⟨r', hr', tt, rfl, ht⟩ := paired_at rwW hv
    have st : SqT K A tt [.int r'.1, .int r'.2.1, .int r'.2.2.1, .str r'.2.2.2.1, .int r'.2.2.2.2] := SqT.of (sA _ _ ht)
    have cm : CMul ((rs.take i).foldl (stp tm le) bg) tm := .inr ⟨by omega, by omega⟩
    clean_wf
    refine ⟨some (.ref tt), ?_, sA⟩
    rw [take_get hr', List.foldl_append]
    rfl
  rintro σ A ⟨v9, rfl, sA⟩
  rw [lw, List.take_length]
  have slA : SqL K A l ws := SqL.of (sA _ _ glW)
  have md : (0 : Int) < (ws.length : Int) + 1 := by omega
  clean_wf
  refine ⟨a, 3, rfl, ns, sA.seq hSW, by decide, fun c3 => ?_⟩
  clean_wf
  intro tb B1 hb u1 gb
  have s1B := sA.trans u1
  clean_wf
  refine ⟨[.int tm, .int le], rfl, lend2 rfl rfl, call_turned (s1B _ _ ef1) (s1B _ _ ec1) gb (rws_up (.same s1B) rwW) t0 t1 fun B2 u2 => ?_⟩
  clean_wf
  refine rNeP_refl (d := .int _) (.inl (.int _)) (.inl (.int _)) rfl (by show 0 ≤ 60; decide) ?_
  have s2B := s1B.trans u2
  have y0 := Int.emod_nonneg c3 (Int.ne_of_gt md)
  have y1 := Int.emod_lt_of_pos c3 md
  obtain ⟨j, ej⟩ : ∃ j : Nat, c3 % ((ws.length : Int) + 1) = (j : Int) := ⟨_, (Int.toNat_of_nonneg y0).symm⟩
  rw [ej] at y1 ⊢
  have sl2 : SqL K B2 l ws := SqL.of (s2B _ _ glW)
  clean_wf
  intro p3 B3 hp3 u3 gp3
  rw [cut_drop _ _ (by omega)] at gp3
  clean_wf
  intro p4 B4 hp4 u4 gp4
  have s4B := s2B.trans (u3.trans u4)
  have sl4 : SqL K B4 l ws := SqL.of (s4B _ _ glW)
  clean_wf
  intro p5 B5 hp5 u5 gp5
  rw [cut_take _ _ (by omega)] at gp5
  clean_wf
  intro p6 B6 hp6 u6 gp6
  have s6B := s4B.trans (u5.trans u6)
  clean_wf
  refine ⟨[.int tm, .int le], rfl, lend2 rfl rfl, call_turned (s6B _ _ ef1) (s6B _ _ ec1) gp6 (paired_take j (rws_up (.same s6B) rwW)) t0 t1 fun B7 u7 => ?_⟩
  have s7B := s6B.trans u7
  have u47 := u5.trans (u6.trans u7)
  clean_wf
  refine ⟨[.int tm, .int le], rfl, lend2 rfl rfl, call_turned (s7B _ _ ef1) (s7B _ _ ec1) (u47 _ _ gp4) (paired_drop j (rws_up (.same s7B) rwW)) t0 t1 fun B8 u8 => ?_⟩
  rw [← List.foldl_append, List.take_append_drop]
  have s8B := s7B.trans u8
  clean_wf
  refine rNeP_refl (d := .int _) (.inl (.int _)) (.inl (.int _)) rfl (by show 0 ≤ 60; decide) ?_
  clean_wf
  intro p9 B9 hp9 u9 gp9
  have s9B := s8B.trans u9
  clean_wf
  refine ⟨[.int tm, .int le], rfl, lend2 rfl rfl, call_turned (rs := []) (s9B _ _ ef1) (s9B _ _ ec1) gp9 .nil t0 t1 fun B10 u10 => ?_⟩
  have s10B := s9B.trans u10
  clean_wf
  refine rNeP_refl (d := .int _) (.inl (.int _)) (.inl (.int _)) rfl (by show 0 ≤ 60; decide) ?_
  clean_wf
  intro p11 B11 hp11 u11 gp11
  have s11B := s10B.trans u11
  clean_wf
  refine ⟨[.int tm, .int le], rfl, lend2 rfl rfl, call_none (s11B _ _ ef3) gp11 fun B12 u12 => ?_⟩
  have s12B := s11B.trans u12
  clean_wf
  rw [decide_eq_true rfl]
  have sl12 : SqL K B12 l ws := SqL.of (s12B _ _ glW)
  clean_wf
  intro p13 B13 hp13 u13 gp13
  have s13B := s12B.trans u13
  clean_wf
  refine ⟨[.int tm, .int le], rfl, lend2 rfl rfl, call_greater (s13B _ _ ef2) (s13B _ _ ec2) gp13 (rws_up (.same s13B) rwW) fun B14 u14 => ?_⟩
  have s14B := s13B.trans u14
  clean_wf
  intro p15 B15 hp15 u15 gp15
  have s15B := s14B.trans u15
  have gl15 := s15B _ _ glW
  have sl15 : SqL K B15 l ws := SqL.of gl15
  clean_wf
  intro E hE
  refine comp_list (K := K) (a := l) (xs := ws) (fun i σ C => ∃ v, σ = [v] ∧ Same B15 C ∧ C E = some (.lst (((rs.take i).map fun r => r.2.2.2.2).map V.int))) ⟨none, rfl, same_upd hE, upd_same⟩ ?_ ?_ ?_
  · rintro i σ C _ ⟨_, _, z, _⟩
    exact SqL.of (z _ _ gl15)
  · rintro i v σ C hv ⟨v0, rfl, sC, gE⟩
    obtain ⟨r', hr', tt, rfl, ht⟩ := paired_at rwW hv
    have hi := (List.getElem?_eq_some_iff.mp hr').1
    have st : SqT K C tt [.int r'.1, .int r'.2.1, .int r'.2.2.1, .str r'.2.2.2.1, .int r'.2.2.2.2] := SqT.of (sC _ _ (s15B _ _ ht))
    clean_wf
    refine ⟨_, gE, small1000 (by simp; omega), _, rfl, fun b o z => ?_, ?_⟩
    · rw [upd_ne (ne_of_none z hE)]
      exact sC b o z
    · rw [upd_same, take_get hr', List.map_append, List.map_append]
      rfl
  rintro σ C ⟨v, rfl, sC, gE⟩
  rw [lw, List.take_length] at gE
  refine x_cat (sC _ _ gp15) gE (by simp; omega) fun p16 B16 hp16 u16 gp16 => ?_
  have s16B := s15B.trans (sC.trans u16)
  clean_wf
  refine ⟨p16, bg :: rs.map (fun r : Rw => r.2.2.2.2), rfl, SqL.of (by exact gp16), by simp, fun b hb hm => ?_⟩
  have eb : b = rs.foldl (fun d r => max d r.2.2.2.2) bg := by
    obtain ⟨a1, a2⟩ := fold_max rs bg
    exact Int.le_antisymm (a2 b hb) (hm _ a1)
  rw [eb]
  refine rNeP_refl (d := .int _) (.inl (.int _)) (.inl (.int _)) rfl (by show 0 ≤ 60; decide) ?_
  have sl16 : SqL K B16 l ws := SqL.of (s16B _ _ glW)
  clean_wf
  intro p17 B17 hp17 u17 gp17
  clean_wf
  intro p18 B18 hp18 u18 gp18
  have s18B := s16B.trans (u17.trans u18)
  clean_wf
  refine ⟨[.int tm, .int le], rfl, lend2 rfl rfl, call_listed (rs0 := []) (s18B _ _ ef3) (s18B _ _ ec3) (u18 _ _ gp17) (rws_up (.same s18B) rwW) gp18 .nil (by simp; omega) fun B19 p19 zs19 u19 gp19 hz19 => ?_⟩
  have s19B := s18B.trans u19
  clean_wf
  have dpl : (PyData.list (rs.map rwD)).depth ≤ 60 := by
    have e : (PyData.list (rs.map rwD)).depth = PyData.depthAll (rs.map rwD) + 1 := rfl
    have := rws_dep rs
    omega
  refine rEqP_refl (d := .list (rs.map rwD)) (.inr ⟨_, _, _, rfl, rfl, SqL.of gp19, rws_dps hz19⟩) (.inr ⟨_, _, _, rfl, rfl, SqL.of (s19B _ _ glW), rws_dps (rws_up (.same s19B) rwW)⟩) (by rw [PyData.canLay0.eq_5]; exact rws_lay kd) dpl ?_
  have sl19 : SqL K B19 l ws := SqL.of (s19B _ _ glW)
  clean_wf
  intro p20 B20 hp20 u20 gp20
  rw [cut_drop _ _ (by omega)] at gp20
  clean_wf
  intro p21 B21 hp21 u21 gp21
  have s21B := s19B.trans (u20.trans u21)
  have sl21 : SqL K B21 l ws := SqL.of (s21B _ _ glW)
  clean_wf
  intro p22 B22 hp22 u22 gp22
  rw [cut_take _ _ (by omega)] at gp22
  have s22B := s21B.trans u22
  clean_wf
  refine ⟨[.int tm, .int le], rfl, lend2 rfl rfl, call_listed (s22B _ _ ef3) (s22B _ _ ec3) (u22 _ _ gp21) (paired_drop j (rws_up (.same s22B) rwW)) gp22 (paired_take j (rws_up (.same s22B) rwW)) (by rw [List.length_take, List.length_drop]; omega) fun B23 p23 zs23 u23 gp23 hz23 => ?_⟩
  have s23B := s22B.trans u23
  rw [List.take_append_drop] at hz23
  clean_wf
  refine rEqP_refl (d := .list (rs.map rwD)) (.inr ⟨_, _, _, rfl, rfl, SqL.of gp23, rws_dps hz23⟩) (.inr ⟨_, _, _, rfl, rfl, SqL.of (s23B _ _ glW), rws_dps (rws_up (.same s23B) rwW)⟩) (by rw [PyData.canLay0.eq_5]; exact rws_lay kd) dpl ?_
  clean_wf
  exact kk _
end
end K82


namespace K82
open PySem L2
set_option maxHeartbeats 8000000 in
theorem all_mk {l : W.OpenLaw} {w : World} {K : W.Frag} {h : Heap} {mg : Str → Option Value} {fa f_0 f_1 f_2 f_3 f_4 c_mk P_mk : Addr} (X : K.In h) (G : h.Ns mainGlobals mg) (hfa : mg "law" = some (.ref fa))
    {oc_0 kV_0 dc_0 pm_0 cd_0 ct_0 : Value} {od_0 an_0 : Option Addr} {sl_0 : Array (Option Value)} {oc_1 kV_1 dc_1 pm_1 cd_1 ct_1 : Value} {od_1 an_1 : Option Addr} {sl_1 : Array (Option Value)} {oc_2 kV_2 dc_2 pm_2 cd_2 ct_2 : Value} {od_2 an_2 : Option Addr} {sl_2 : Array (Option Value)} {oc_3 kV_3 dc_3 pm_3 cd_3 ct_3 : Value} {od_3 an_3 : Option Addr} {sl_3 : Array (Option Value)} {oc_4 kV_4 dc_4 pm_4 ct_4 : Value} {od_4 an_4 : Option Addr} {sl_4 : Array (Option Value)}
    (a_0 : W.nsIn K mainGlobals "own_copy" = some (some (.ref f_0)))
    (a_1 : W.nsIn K mainGlobals "folded" = some (some (.ref f_1)))
    (a_2 : W.nsIn K mainGlobals "_law_cell_at" = some (some (.ref f_2)))
    (a_3 : W.nsIn K mainGlobals "_law_rows" = some (some (.ref f_3)))
    (a_4 : W.nsIn K mainGlobals "law" = some (some (.ref f_4)))
    (z_dict : W.nsIn K mainGlobals "dict" = some none)
    (z_isinstance : W.nsIn K mainGlobals "isinstance" = some none)
    (z_len : W.nsIn K mainGlobals "len" = some none)
    (z_list : W.nsIn K mainGlobals "list" = some none)
    (z_max : W.nsIn K mainGlobals "max" = some none)
    (z_tuple : W.nsIn K mainGlobals "tuple" = some none)
    (l_0 : K.lookup f_0 = some ⟨oc_0, od_0, .func (W.fnOf "own_copy" "own_copy" (defArgs s_own_copy) (defBody s_own_copy) (defScope s_own_copy) .none kV_0 dc_0 pm_0 an_0 cd_0 ct_0), sl_0⟩)
    (c_0 : W.codeIn K cd_0 "own_copy" = true)
    (k_0 : W.keepIn K (.ref f_0) = true)
    (l_1 : K.lookup f_1 = some ⟨oc_1, od_1, .func (W.fnOf "folded" "folded" (defArgs s_folded) (defBody s_folded) (defScope s_folded) .none kV_1 dc_1 pm_1 an_1 cd_1 ct_1), sl_1⟩)
    (c_1 : W.codeIn K cd_1 "folded" = true)
    (k_1 : W.keepIn K (.ref f_1) = true)
    (l_2 : K.lookup f_2 = some ⟨oc_2, od_2, .func (W.fnOf "_law_cell_at" "_law_cell_at" (defArgs s__law_cell_at) (defBody s__law_cell_at) (defScope s__law_cell_at) .none kV_2 dc_2 pm_2 an_2 cd_2 ct_2), sl_2⟩)
    (c_2 : W.codeIn K cd_2 "_law_cell_at" = true)
    (k_2 : W.keepIn K (.ref f_2) = true)
    (l_3 : K.lookup f_3 = some ⟨oc_3, od_3, .func (W.fnOf "_law_rows" "_law_rows" (defArgs s__law_rows) (defBody s__law_rows) (defScope s__law_rows) .none kV_3 dc_3 pm_3 an_3 cd_3 ct_3), sl_3⟩)
    (c_3 : W.codeIn K cd_3 "_law_rows" = true)
    (k_3 : W.keepIn K (.ref f_3) = true)
    (l_4 : K.lookup f_4 = some ⟨oc_4, od_4, .func (W.fnOf "law" "law" (defArgs s_law) (defBody s_law) (defScope s_law) .none kV_4 dc_4 pm_4 an_4 (.ref c_mk) ct_4), sl_4⟩)
    (c_4 : W.codeIn K (.ref c_mk) "law" = true)
    (hcd : W.codeHdIn K c_mk P_mk = true)
    (k_4 : W.keepIn K (.ref f_4) = true)
    : ∃ fd : FuncData, (∀ (s : Shared) (v : Value), BindsTo s fd ⟨[v], []⟩ [("_law_script", v)]) ∧ ∀ base : Heap, K.In base → base.Ns mainGlobals mg → BltM base mg → FnOk l.prog w K mg base CX0 5 fa fd ["_law_script"] (sp_law K P_mk) := by
  have e := hfa.symm.trans (W.mg_of X G a_4)
  cases e
  have F_0 := fun_mk (st := s_own_copy) l_0 c_0 k_0
  have CA_0 : Cal K mg "own_copy" f_0 _ ["value"] := ⟨W.mg_of X G a_0, k_0, F_0.binds (ps := ["value"]) fun _ _ _ _ _ _ us hl => match us, hl with | [_], _ => rfl⟩
  have F_1 := fun_mk (st := s_folded) l_1 c_1 k_1
  have CA_1 : Cal K mg "folded" f_1 _ ["book", "begin", "step"] := ⟨W.mg_of X G a_1, k_1, F_1.binds (ps := ["book", "begin", "step"]) fun _ _ _ _ _ _ us hl => match us, hl with | [_, _, _], _ => rfl⟩
  have F_2 := fun_mk (st := s__law_cell_at) l_2 c_2 k_2
  have CA_2 : Cal K mg "_law_cell_at" f_2 _ ["_law_script", "_law_k"] := ⟨W.mg_of X G a_2, k_2, F_2.binds (ps := ["_law_script", "_law_k"]) fun _ _ _ _ _ _ us hl => match us, hl with | [_, _], _ => rfl⟩
  have F_3 := fun_mk (st := s__law_rows) l_3 c_3 k_3
  have CA_3 : Cal K mg "_law_rows" f_3 _ ["_law_cells"] := ⟨W.mg_of X G a_3, k_3, F_3.binds (ps := ["_law_cells"]) fun _ _ _ _ _ _ us hl => match us, hl with | [_], _ => rfl⟩
  have F_4 : FunC K "law" "law" s_law _ _ c_mk := ⟨⟨_, _, _, _, _, _, _, _, rfl, l_4, c_4⟩⟩
  have Z_dict : mg "dict" = none := W.mg_none_of X G z_dict
  have Z_isinstance : mg "isinstance" = none := W.mg_none_of X G z_isinstance
  have Z_len : mg "len" = none := W.mg_none_of X G z_len
  have Z_list : mg "list" = none := W.mg_none_of X G z_list
  have Z_max : mg "max" = none := W.mg_none_of X G z_max
  have Z_tuple : mg "tuple" = none := W.mg_none_of X G z_tuple
  refine ⟨W.fnOf "law" "law" (defArgs s_law) (defBody s_law) (defScope s_law) .none kV_4 dc_4 pm_4 an_4 (.ref c_mk) ct_4, fun s v => .of_eq rfl, fun base kb _ hB => ?_⟩
  have hC := W.codeHd_of_K kb hcd
  have G_step := step_ok (P := l.prog) (w := w) (K := K) (base := base) Z_max
  have G_0 : FnOk l.prog w K mg base CX0 3 f_0 _ ["value"] (sp_own_copy K) := ok_own_copy F_0 CA_0 Z_dict Z_isinstance Z_list Z_tuple
  have G_1 : FnOk l.prog w K mg base CX0 4 f_1 _ ["book", "begin", "step"] (sp_folded K) := ok_folded F_1 G_step (G_0.mono (by decide)) CA_0
  have G_2 : FnOk l.prog w K mg base CX0 1 f_2 _ ["_law_script", "_law_k"] (sp__law_cell_at K) := ok__law_cell_at F_2 Z_len
  have G_3 : FnOk l.prog w K mg base CX0 1 f_3 _ ["_law_cells"] (sp__law_rows K) := ok__law_rows F_3
  exact ok_law F_4 hC hB (G_1.mono (by decide)) CA_1 (G_2.mono (by decide)) CA_2 (G_3.mono (by decide)) CA_3 Z_len Z_max Z_tuple
theorem walk {l : PySem.W.OpenLaw} {q : Program} {loose : List Str} {XP : (Str → Option Value) → Heap → Prop} {YP : World → Heap → Prop} {d : DefRec} {K : Params → PySem.W.Frag} {c P : Addr} (hn : l.most = some 63) (hdf : d.params.defaults = [])
    (hY : ∀ (w : World) (h : Heap), YP w h → (K w.params).In h ∧ ∀ t ∈ [P], h.get? t = some (PySem.W.tabObj #[])) (hK : ∀ w : World, PySem.W.codeHdIn (K w.params) c P = true ∧ (K w.params).lookup P = none)
    (F : ∀ (w : World) (mg : Str → Option Value) (fa : Addr) (h : Heap), (K w.params).In h → h.Ns mainGlobals mg → mg d.name = some (.ref fa) →
      ∃ fd : FuncData, (∀ (s : Shared) (u : Value), BindsTo s fd ⟨[u], []⟩ [("_law_script", u)]) ∧ ∀ base : Heap, (K w.params).In base → base.Ns mainGlobals mg → BltM base mg → FnOk l.prog w (K w.params) mg base CX0 5 fa fd ["_law_script"] (sp_law (K w.params) P)) :
    PySem.W.WalkO q loose XP YP l.row.toRowW d [] (fun f vs => PySem.call f vs) :=
  L2.walk_ofT (n := 63) (k := 5) (x := "_law_script") (tabs := [(c, P)]) (sp := fun w => sp_law (K w.params) P) hn (by decide) hdf ⟨rfl, by decide, by decide⟩ hY (fun w q hq => by rw [List.mem_singleton.mp hq]; exact hK w) F (fun _ _ a ns hl hO hS => ⟨a, ns, rfl, hS, hl, hO.2 P (by simp), fun _ => rfl⟩) fun _ _ _ _ z => z
end K82
open PySem PySem.W PyProof.Rows
set_option maxRecDepth 100000 in
set_option maxHeartbeats 0 in
theorem PySem.Challenge.cw_groupcall_k82_a_book_folded_holds : PySem.Challenge.rw_groupcall_k82_a_book_folded.Holds := by
  w_on; o_law; k_head; (case hw => w_witness2)
  k_fill
  refine K82.walk (l := PySem.Challenge.rw_groupcall_k82_a_book_folded) (c := 44) (P := 42) rfl rfl (fun w h Y => ⟨PySem.W.km_in_of Y, PySem.W.km_tabs_of Y⟩) ?H ?F
  case H =>
    intro w
    refine ⟨?_, ?_⟩
    · first | k_is | kernel_rfl | rfl
    · first | k_is | kernel_rfl | rfl
  case F =>
    intro w mg fa h KX G hmg
    refine' K82.all_mk (P_mk := 42) KX G hmg ?a_0 ?a_1 ?a_2 ?a_3 ?a_4 ?z_dict ?z_isinstance ?z_len ?z_list ?z_max ?z_tuple ?l_0 ?c_0 ?k_0 ?l_1 ?c_1 ?k_1 ?l_2 ?c_2 ?k_2 ?l_3 ?c_3 ?k_3 ?l_4 ?c_4 ?hcd ?k_4
    (case a_0 => first | k_is | rfl | decide)
    (case a_1 => first | k_is | rfl | decide)
    (case a_2 => first | k_is | rfl | decide)
    (case a_3 => first | k_is | rfl | decide)
    (case a_4 => first | k_is | rfl | decide)
    (case z_dict => first | k_is | rfl | decide)
    (case z_isinstance => first | k_is | rfl | decide)
    (case z_len => first | k_is | rfl | decide)
    (case z_list => first | k_is | rfl | decide)
    (case z_max => first | k_is | rfl | decide)
    (case z_tuple => first | k_is | rfl | decide)
    (case l_0 => first | k_is | rfl | decide)
    (case c_0 => first | k_is | rfl | decide)
    (case k_0 => first | k_is | rfl | decide)
    (case l_1 => first | k_is | rfl | decide)
    (case c_1 => first | k_is | rfl | decide)
    (case k_1 => first | k_is | rfl | decide)
    (case l_2 => first | k_is | rfl | decide)
    (case c_2 => first | k_is | rfl | decide)
    (case k_2 => first | k_is | rfl | decide)
    (case l_3 => first | k_is | rfl | decide)
    (case c_3 => first | k_is | rfl | decide)
    (case k_3 => first | k_is | rfl | decide)
    (case l_4 => first | k_is | rfl | decide)
    (case c_4 => first | k_is | rfl | decide)
    (case hcd => first | k_is | kernel_rfl | rfl | decide)
    (case k_4 => first | k_is | rfl | decide)

