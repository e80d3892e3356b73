import PyProof.Rows.All
import Wide.All
import OpenK.AllK
import Wide.FinOn
import Lean
import PyProof.EqAt
import PyProof.EqKinds
import PyProof.TupleCall
import PyProof.CompMap
import PyProof.MinMaxWalk
import KE.KMinBuiltin
import PyProof.SliceList
import PyProof.AttrMissHeap
import KE.KSortTup
import PySem.Challenge.RW_groupcall_k25_places_given
set_option Elab.async false
set_option linter.all false
set_option maxRecDepth 100000
namespace L2
open PySem PySem.Spec PyProof.Rows
abbrev Key := Sum Int Str
def keyIs : Key → Value → Bool
  | .inl k, v => Value.isInt k v
  | .inr x, v => Value.isStrOf x v
def keyH (w : World) : Key → Int
  | .inl k => hashInt k
  | .inr x => hashStr w x
theorem keyIs_shape : ∀ {k : Key} {v : Value}, keyIs k v = true → (∃ i t, k = Sum.inl i ∧ v = Value.int i t) ∨ (∃ x t, k = Sum.inr x ∧ v = Value.str x t)
  | .inl i, v, h => by
    obtain ⟨t, e⟩ := Value.isInt_shape (k := i) (v := v) h
    exact .inl ⟨i, t, rfl, e⟩
  | .inr x, v, h => by
    obtain ⟨t, e⟩ := Value.isStrOf_shape (x := x) (v := v) h
    exact .inr ⟨x, t, rfl, e⟩
theorem keyIs_int (i : Int) (t : Tok) : keyIs (.inl i) (.int i t) = true := by simp [keyIs, Value.isInt]
theorem keyIs_str (x : Str) (t : Tok) : keyIs (.inr x) (.str x t) = true := by simp [keyIs, Value.isStrOf]
theorem key_ll (a b : Int) : decide ((Sum.inl a : Key) = Sum.inl b) = (a == b) := by
  by_cases e : a = b
  · subst e; simp
  · have h : ¬ (Sum.inl a : Key) = Sum.inl b := fun q => e (Sum.inl.inj q)
    rw [decide_eq_false h]
    exact (beq_eq_false_iff_ne.mpr e).symm
theorem key_rr (a b : Str) : decide ((Sum.inr a : Key) = Sum.inr b) = decide (a = b) := by
  by_cases e : a = b
  · subst e; simp
  · have h : ¬ (Sum.inr a : Key) = Sum.inr b := fun q => e (Sum.inr.inj q)
    rw [decide_eq_false h, decide_eq_false e]
theorem key_lr (a : Int) (b : Str) : decide ((Sum.inl a : Key) = Sum.inr b) = false := decide_eq_false (fun q => nomatch q)
theorem key_rl (a : Str) (b : Int) : decide ((Sum.inr a : Key) = Sum.inl b) = false := decide_eq_false (fun q => nomatch q)
def mixKind (prog : Program) (w : World) : PySem.KeyKind prog w Key where
  is := keyIs
  hash := keyH w
  inj := fun v a b ha hb => by
    rcases keyIs_shape ha with ⟨i, t, rfl, rfl⟩ | ⟨x, t, rfl, rfl⟩
    · rcases keyIs_shape hb with ⟨j, u, rfl, e⟩ | ⟨y, u, rfl, e⟩
      · injection e with e1 _; rw [e1]
      · exact nomatch e
    · rcases keyIs_shape hb with ⟨j, u, rfl, e⟩ | ⟨y, u, rfl, e⟩
      · exact nomatch e
      · injection e with e1 _; rw [e1]
  byValue := fun k v h => by
    rcases keyIs_shape h with ⟨i, t, rfl, rfl⟩ | ⟨x, t, rfl, rfl⟩ <;> rfl
  pyHash := fun hv h => by
    rcases keyIs_shape hv with ⟨i, t, rfl, rfl⟩ | ⟨x, t, rfl, rfl⟩
    · exact wpAny_pyHash_int h
    · exact wpAny_pyHash_str h
  eqBool := fun hu hv h => by
    rcases keyIs_shape hu with ⟨i, t, rfl, rfl⟩ | ⟨x, t, rfl, rfl⟩
    · rcases keyIs_shape hv with ⟨j, u, rfl, rfl⟩ | ⟨y, u, rfl, rfl⟩
      · rw [key_ll] at h; exact wpAny_eqBool_int h
      · rw [key_lr] at h; exact SeqAt.EqAt.int_str i t y u _ _ _ _ h
    · rcases keyIs_shape hv with ⟨j, u, rfl, rfl⟩ | ⟨y, u, rfl, rfl⟩
      · rw [key_rl] at h; exact SeqAt.EqAt.str_int x t j u _ _ _ _ h
      · rw [key_rr] at h; exact wpAny_eqBool_str h
  «strs» := fun k x t v h => by
    rcases keyIs_shape h with ⟨i, u, rfl, e⟩ | ⟨y, u, rfl, e⟩
    · exact nomatch e
    · injection e with e1 _
      subst e1
      cases v <;> rfl
theorem mixKind_int (prog : Program) (w : World) (i : Int) (t : Tok) : (mixKind prog w).is (.inl i) (.int i t) = true := keyIs_int i t
theorem mixKind_str (prog : Program) (w : World) (x : Str) (t : Tok) : (mixKind prog w).is (.inr x) (.str x t) = true := keyIs_str x t
end L2
namespace L2
open PySem PySem.Spec PyProof.Rows
inductive V where
  | non | bl (b : Bool) | int (i : Int) | str (x : Str) | byt (b : Array UInt8) | flt (b : UInt64) | ref (a : Addr) | ty (n : String)
  deriving DecidableEq
def RelV : V → Value → Prop
  | .non, u => u = Value.none
  | .bl b, u => u = Value.bool b
  | .int i, u => ∃ t, u = Value.int i t
  | .str x, u => ∃ t, u = Value.str x t
  | .byt b, u => ∃ t, u = Value.bytes b t
  | .flt b, u => ∃ t, u = Value.float b t
  | .ref a, u => u = Value.ref a
  | .ty n, u => u = Value.type n
abbrev Vals : List V → List Value → Prop := Paired RelV
theorem Vals.length {xs : List V} {us : List Value} (r : Vals xs us) : xs.length = us.length := Paired.length r
theorem Vals.get : ∀ {xs : List V} {us : List Value} {i : Nat} {x : V}, Vals xs us → xs[i]? = some x → ∃ u, us[i]? = some u ∧ RelV x u
  | _, _, _, _, .nil, e => by simp at e
  | _, _, 0, _, .cons r _, e => by simp at e; subst e; exact ⟨_, rfl, r⟩
  | _, _, i + 1, x, .cons _ t, e => by
    obtain ⟨u, h1, h2⟩ := Vals.get (i := i) (x := x) t (by simpa using e)
    exact ⟨u, by simpa using h1, h2⟩
theorem Vals.append : ∀ {xs ys : List V} {us ws : List Value}, Vals xs us → Vals ys ws → Vals (xs ++ ys) (us ++ ws)
  | _, _, _, _, .nil, s => s
  | _, _, _, _, .cons r t, s => .cons r (Vals.append t s)
theorem Vals.take : ∀ {xs : List V} {us : List Value} (n : Nat), Vals xs us → Vals (xs.take n) (us.take n)
  | _, _, 0, _ => .nil
  | _, _, _ + 1, .nil => .nil
  | _, _, n + 1, .cons r t => .cons r (Vals.take n t)
theorem Vals.drop : ∀ {xs : List V} {us : List Value} (n : Nat), Vals xs us → Vals (xs.drop n) (us.drop n)
  | _, _, 0, r => r
  | _, _, _ + 1, .nil => .nil
  | _, _, n + 1, .cons _ t => Vals.drop n t
def RelO : Option V → Option Value → Prop
  | some v, some u => RelV v u
  | none, none => True
  | _, _ => False
def KV {κ : Type} : List (κ × V) → List (κ × Value) → Prop := Paired fun (p : κ × V) (q : κ × Value) => p.1 = q.1 ∧ RelV p.2 q.2
def kV : Key → V
  | .inl i => .int i
  | .inr x => .str x
inductive HO where
  | lst (xs : List V)
  | tup (xs : List V)
  | dK (kvs : List (Key × V)) | dT (kvs : List (List Key × V))
  | set (S : Int → Bool) (n : Nat)
  | ins (C dx : Addr) (fs : List (Str × V))
  | own (x : Addr)
  | xd (fs : List (Str × V))
  | met (f x : Addr)
  | rng (lo hi : Int)
  | frz (o : Obj) (u : HO)
  | tbl (ps : Array Value)
  | ext (φ : Heap → Prop)
abbrev Hp := Addr → Option HO
def upd (H : Hp) (a : Addr) (o : HO) : Hp := fun b => if b = a then some o else H b
theorem upd_same {H : Hp} {a : Addr} {o : HO} : upd H a o a = some o := by unfold upd; rw [if_pos rfl]
theorem upd_ne {H : Hp} {a b : Addr} {o : HO} (h : b ≠ a) : upd H a o b = H b := by unfold upd; rw [if_neg h]
theorem ne_of {H : Hp} {a b : Addr} {o u : HO} (h : H a = some o) (h' : H b = some u) (d : o ≠ u) : a ≠ b := by
  intro e; subst e; rw [h] at h'; exact d (Option.some.inj h')
theorem ne_of_none {H : Hp} {a b : Addr} {o : HO} (h : H a = some o) (h' : H b = none) : a ≠ b := by
  intro e; subst e; rw [h] at h'; cases h'
def IsTpl (h : Heap) (a : Addr) (items : Array Value) : Prop := ∃ o, h.get? a = some o ∧ o.cls = .type "tuple" ∧ ∃ n, o.data = .seq items n ∧ o.dict = none ∧ o.slots = #[]
theorem IsTpl.tup {h : Heap} {a : Addr} {items : Array Value} (x : IsTpl h a items) : IsTup h a items := let ⟨o, e, c, n, d, _⟩ := x; ⟨o, e, c, n, d⟩
theorem IsTpl.lt {h : Heap} {a : Addr} {items : Array Value} (x : IsTpl h a items) : a < h.objs.size := x.tup.lt
theorem IsTpl.new (h : Heap) (items : Array Value) : IsTpl (h.push { cls := .type "tuple", data := .seq items }) h.objs.size items := ⟨_, Heap.get?_push_size _ rfl, rfl, _, rfl, rfl, rfl⟩
section
variable (P : Program) (w : World)
def ObjOk (H : Hp) (h : Heap) (a : Addr) : HO → Prop
  | .lst xs => xs.length ≤ sizeLine ∧ ∃ (its : List Value) (n : Nat), Vals xs its ∧ h.get? a = some { cls := .type "list", data := .seq its.toArray n }
  | .tup xs => xs.length ≤ sizeLine ∧ ∃ its : List Value, Vals xs its ∧ IsTpl h a its.toArray
  | .dK kvs => kvs.length ≤ sizeLine ∧ (a == sysModules) = false ∧ ∃ vs, KV kvs vs ∧ h.DictOf (mixKind P w) a vs
  | .dT kvs => kvs.length ≤ sizeLine ∧ (a == sysModules) = false ∧ ∃ xs : List (List Key × Addr × Value),
      Paired (fun (p : List Key × V) (q : List Key × Addr × Value) => p.1 = q.1 ∧ H q.2.1 = some (.tup (p.1.map kV)) ∧ RelV p.2 q.2.2) kvs xs ∧
      ∃ o es ep, h.get? a = some o ∧ o.ExactDict ∧ o.data = .dict es ep ∧ es.toList = xs.map (entryOfKey (tupleKind (mixKind P w))) ∧ (xs.map (·.1)).Nodup
  | .set S n => h.SetOf (intKind P w) a S n
  | .ins C dx fs => H dx = some (.own a) ∧ fs.length ≤ 1000 ∧ dx ≠ a ∧ h.get? a = some (PySem.W.instObj C dx) ∧
      ∃ mA, h.Ns1 dx mA ∧ (∀ f, RelO (fs.lookup f) (mA f)) ∧ PySem.Within mA (fs.map (·.1))
  | .own _ => ∃ o, h.get? a = some o
  | .xd fs => ∃ mA, h.Ns1 a mA ∧ ∀ f, RelO (fs.lookup f) (mA f)
  | .rng lo hi => ∃ t u v, h.get? a = some { cls := .type "range", data := .fields #[.int lo t, .int hi u, .int 1 v] }
  | .frz o u => h.get? a = some o ∧ ObjOk H h a u
  | .tbl ps => h.get? a = some { cls := .none, data := .fields ps }
  | .met f x => h.get? a = some (PySem.W.methodObj (.ref f) (.ref x))
  | .ext φ => φ h ∧ (∃ o, h.get? a = some o) ∧ ∀ h1 h2 : Heap, φ h1 → (∀ o, h1.get? a = some o → h2.get? a = some o) → φ h2
def HOk (H : Hp) (h : Heap) : Prop := ∀ a o, H a = some o → ObjOk P w H h a o
end
section
variable {P : Program} {w : World} {H H' : Hp} {h h' : Heap} {a : Addr} {o : HO}
theorem ObjOk.lt (x : ObjOk P w H h a o) : a < h.objs.size := by
  cases o with
  | lst xs => obtain ⟨_, _, _, _, e⟩ := x; exact Heap.lt_size e
  | tup xs => obtain ⟨_, _, _, p⟩ := x; exact p.lt
  | dK kvs => obtain ⟨_, _, _, _, o, _, _, e, _⟩ := x; exact Heap.lt_size e
  | dT kvs => obtain ⟨_, _, _, _, o, _, _, e, _⟩ := x; exact Heap.lt_size e
  | set S n => obtain ⟨o, _, _, _, e, _⟩ := x; exact Heap.lt_size e
  | ins C dx fs => obtain ⟨_, _, _, e, _⟩ := x; exact Heap.lt_size e
  | own y => obtain ⟨_, e⟩ := x; exact Heap.lt_size e
  | xd fs => obtain ⟨_, ⟨_, _, _, e, _⟩, _⟩ := x; exact Heap.lt_size e
  | rng lo hi => obtain ⟨_, _, _, e⟩ := x; exact Heap.lt_size e
  | frz ob u => obtain ⟨e, _⟩ := x; exact Heap.lt_size e
  | tbl ps => exact Heap.lt_size (show h.get? a = some _ from x)
  | met f y => exact Heap.lt_size (show h.get? a = some _ from x)
  | ext φ => obtain ⟨_, ⟨_, e⟩, _⟩ := x; exact Heap.lt_size e
theorem Paired.mapP {α β : Type} {F G : α → β → Prop} : ∀ {l₁ : List α} {l₂ : List β}, Paired F l₁ l₂ → (∀ a b, F a b → G a b) → Paired G l₁ l₂
  | _, _, .nil, _ => .nil
  | _, _, .cons r t, f => .cons (f _ _ r) (Paired.mapP t f)
theorem ObjOk.stay (x : ObjOk P w H h a o) (k : ∀ b u, (b = a ∨ H b = some (.own a)) → h.get? b = some u → h'.get? b = some u)
    (ho : ∀ b, H b = some (.own a) → H' b = some (.own a)) (ht : ∀ b xs, H b = some (.tup xs) → H' b = some (.tup xs)) : ObjOk P w H' h' a o := by
  induction o with
  | lst xs => obtain ⟨z, its, n, r, e⟩ := x; exact ⟨z, its, n, r, k _ _ (.inl rfl) e⟩
  | tup xs => obtain ⟨z, its, r, ob, e, c⟩ := x; exact ⟨z, its, r, ob, k _ _ (.inl rfl) e, c⟩
  | dK kvs => obtain ⟨z, y, vs, r, ob, es, ep, e, c⟩ := x; exact ⟨z, y, vs, r, ob, es, ep, k _ _ (.inl rfl) e, c⟩
  | dT kvs =>
    obtain ⟨z, y, xs, r, ob, es, ep, e, c⟩ := x
    exact ⟨z, y, xs, Paired.mapP r fun p q z => ⟨z.1, ht _ _ z.2.1, z.2.2⟩, ob, es, ep, k _ _ (.inl rfl) e, c⟩
  | set S n => obtain ⟨ob, es, ep, t, e, c⟩ := x; exact ⟨ob, es, ep, t, k _ _ (.inl rfl) e, c⟩
  | ins C dx fs =>
    obtain ⟨d, z, ne, e, mA, ⟨od, es, ep, e2, c⟩, r⟩ := x
    exact ⟨ho _ d, z, ne, k _ _ (.inl rfl) e, mA, ⟨od, es, ep, k _ _ (.inr d) e2, c⟩, r⟩
  | own y => obtain ⟨ob, e⟩ := x; exact ⟨ob, k _ _ (.inl rfl) e⟩
  | xd fs => obtain ⟨mA, ⟨od, es, ep, e, c⟩, r⟩ := x; exact ⟨mA, ⟨od, es, ep, k _ _ (.inl rfl) e, c⟩, r⟩
  | rng lo hi => obtain ⟨t, u, v, e⟩ := x; exact ⟨t, u, v, k _ _ (.inl rfl) e⟩
  | frz ob u ih => obtain ⟨e, q⟩ := x; exact ⟨k _ _ (.inl rfl) e, ih q⟩
  | tbl ps =>
    have e : h.get? a = some { cls := .none, data := .fields ps } := x
    show h'.get? a = some { cls := .none, data := .fields ps }
    exact k a _ (.inl rfl) e
  | met f y =>
    have e : h.get? a = some (PySem.W.methodObj (.ref f) (.ref y)) := x
    show h'.get? a = some (PySem.W.methodObj (.ref f) (.ref y))
    exact k a _ (.inl rfl) e
  | ext φ => obtain ⟨p, ⟨o, e⟩, st⟩ := x; exact ⟨st _ _ p fun o q => k _ _ (.inl rfl) q, ⟨o, k _ _ (.inl rfl) e⟩, st⟩
theorem HOk.lt (x : HOk P w H h) (e : H a = some o) : a < h.objs.size := (x a o e).lt
theorem HOk.fresh (x : HOk P w H h) (e : h.objs.size ≤ a) : H a = none := by
  cases q : H a with
  | none => rfl
  | some u => exact absurd (Nat.lt_of_lt_of_le (x.lt q) e) (Nat.lt_irrefl _)
theorem HOk.kept (x : HOk P w H h) (k : ∀ b u, h.get? b = some u → h'.get? b = some u) : HOk P w H h' := fun a o e =>
  (x a o e).stay (fun b u _ q => k b u q) (fun _ q => q) fun _ _ q => q
theorem HOk.laid (x : HOk P w H h) (k : ∀ b u, h.get? b = some u → h'.get? b = some u) (hp : h.objs.size ≤ a) (new : ObjOk P w (upd H a o) h' a o) : HOk P w (upd H a o) h' := fun b u e => by
  have hn := x.fresh hp
  by_cases hb : b = a
  · subst hb; rw [upd_same] at e; cases e; exact new
  · rw [upd_ne hb] at e
    exact (x b u e).stay (fun c v _ q => k c v q) (fun c q => by rw [upd_ne (ne_of_none q hn)]; exact q) fun c xs q => by rw [upd_ne (ne_of_none q hn)]; exact q
end
def Rd (H : Hp) (a : Addr) (u : HO) : Prop := H a = some u ∨ ∃ o, H a = some (.frz o u)
theorem Rd.ok {P : Program} {w : World} {H : Hp} {h : Heap} {a : Addr} {u : HO} (r : Rd H a u) (x : HOk P w H h) : ObjOk P w H h a u := by
  rcases r with r | ⟨o, r⟩
  · exact x a u r
  · obtain ⟨_, q⟩ := x a _ r
    exact q
def Mut : Option HO → Prop
  | some (.lst _) => True
  | some (.dK _) => True
  | some (.dT _) => True
  | some (.set _ _) => True
  | some (.ins _ _ _) => True
  | some (.ext _) => True
  | _ => False
section
variable {P : Program} {w : World} {H : Hp} {h h' : Heap} {x e : Addr} {o' : HO}
theorem HOk.write (ok : HOk P w H h) (mu : Mut (H x)) (he : e = x ∨ H e = some (.own x)) (k : ∀ b u, b ≠ e → h.get? b = some u → h'.get? b = some u) (heo : ∃ u, h'.get? e = some u)
    (new : ObjOk P w (upd H x o') h' x o') : HOk P w (upd H x o') h' := fun b u q => by
  have nown : ∀ c y, H c = some (.own y) → c ≠ x := fun c y r z => by subst z; rw [r] at mu; exact mu
  have ntup : ∀ c xs, H c = some (.tup xs) → c ≠ x := fun c xs r z => by subst z; rw [r] at mu; exact mu
  by_cases hb : b = x
  · subst hb; rw [upd_same] at q; cases q; exact new
  · rw [upd_ne hb] at q
    by_cases hbe : b = e
    · have q' : H b = some (.own x) := by
        rcases he with z | z
        · exact absurd (hbe.trans z) hb
        · rw [hbe]; exact z
      rw [q] at q'; cases q'
      obtain ⟨v, hv⟩ := heo
      exact ⟨v, by rw [hbe]; exact hv⟩
    · refine (ok b u q).stay (fun c v hc r => k c v ?_ r) (fun c r => by rw [upd_ne (nown c b r)]; exact r) fun c xs r => by rw [upd_ne (ntup c xs r)]; exact r
      rcases hc with rfl | hc
      · exact hbe
      · rintro rfl
        rcases he with z | z
        · exact nown c b hc z
        · rw [hc] at z; cases z; exact hb rfl
end
structure Un (fs ex : List Addr) (H H' : Hp) (h h' : Heap) : Prop where
  keep : ∀ b o, h.get? b = some o → H b = none → b ∉ fs → b ∉ ex → h'.get? b = some o
  slot : ∀ b o, h.get? b = some o → H b = none → b ∈ fs → b ∉ ex → ∃ sl, h'.get? b = some { o with slots := sl }
  free : ∀ b o, h.get? b = some o → H b = none → b ∉ ex → H' b = none
  there : ∀ b o, h.get? b = some o → b ∉ ex → ∃ o', h'.get? b = some o'
  tups : ∀ b xs, H b = some (.tup xs) → H' b = some (.tup xs)
  frzs : ∀ b o u, H b = some (.frz o u) → H' b = some (.frz o u)
  tbls : ∀ b ps, H b = some (.tbl ps) → ∃ more, H' b = some (.tbl (ps ++ more))
section
variable {fs fs' ex ex' : List Addr} {H H1 H2 : Hp} {h h1 h2 h' : Heap} {a x e : Addr} {o : HO}
theorem Un.any (u : Un fs ex H H1 h h1) {b : Addr} {ob : Obj} (q : h.get? b = some ob) (n : H b = none) (hx : b ∉ ex) : ∃ sl, h1.get? b = some { ob with slots := sl } := by
  by_cases hb : b ∈ fs
  · exact u.slot b ob q n hb hx
  · exact ⟨ob.slots, u.keep b ob q n hb hx⟩
theorem Un.kept (k : ∀ b u, h.get? b = some u → h'.get? b = some u) : Un fs ex H H h h' :=
  ⟨fun b ob q _ _ _ => k b ob q, fun b ob q _ _ _ => ⟨ob.slots, k b ob q⟩, fun _ _ _ n _ => n, fun b ob q _ => ⟨ob, k b ob q⟩, fun _ _ q => q, fun _ _ _ q => q, fun _ ps q => ⟨#[], by rw [q]; simp⟩⟩
theorem Un.refl : Un fs ex H H h h := Un.kept fun _ _ q => q
theorem Un.laid (k : ∀ b u, h.get? b = some u → h'.get? b = some u) (hp : h.objs.size ≤ a) (hn : H a = none) : Un fs ex H (upd H a o) h h' where
  keep := fun b u q _ _ _ => k b u q
  slot := fun b u q _ _ _ => ⟨u.slots, k b u q⟩
  free := fun b u q n _ => by rw [upd_ne (Nat.ne_of_lt (Nat.lt_of_lt_of_le (Heap.lt_size q) hp))]; exact n
  there := fun b u q _ => ⟨u, k b u q⟩
  tups := fun b xs q => by rw [upd_ne (ne_of_none q hn)]; exact q
  frzs := fun b u xs q => by rw [upd_ne (ne_of_none q hn)]; exact q
  tbls := fun b ps q => ⟨#[], by rw [upd_ne (ne_of_none q hn), q]; simp⟩
theorem Un.write (mu : Mut (H x)) (he : e = x ∨ H e = some (.own x)) (k : ∀ b u, b ≠ e → h.get? b = some u → h'.get? b = some u) (heo : ∃ u, h'.get? e = some u) : Un fs ex H (upd H x o) h h' := by
  have hx : ∀ b, H b = none → b ≠ x := fun b n z => by subst z; rw [n] at mu; exact mu
  have hb : ∀ b, H b = none → b ≠ e := fun b n z => by
    subst z
    rcases he with r | r
    · exact hx b n r
    · rw [n] at r; cases r
  have hm : ∀ b u, H b = some u → ¬ Mut (some u) → b ≠ x := fun b u q nm z => by subst z; rw [q] at mu; exact nm mu
  refine ⟨fun b u q n _ _ => k b u (hb b n) q, fun b u q n _ _ => ⟨u.slots, k b u (hb b n) q⟩, fun b u q n _ => by rw [upd_ne (hx b n)]; exact n, fun b u q _ => ?_,
    fun b xs q => by rw [upd_ne (hm b _ q fun z => z)]; exact q, fun b u xs q => by rw [upd_ne (hm b _ q fun z => z)]; exact q, fun b ps q => ⟨#[], by rw [upd_ne (hm b _ q fun z => z), q]; simp⟩⟩
  by_cases hbe : b = e
  · subst hbe; exact heo
  · exact ⟨u, k b u hbe q⟩
end
def trk (h : Heap) (H : Hp) : List Addr := (List.range h.objs.size).filter fun a => (H a).isSome
def hidT (h : Heap) (H : Hp) : Heap := PySem.W.hideAll h (trk h H)
theorem hidT_size (h : Heap) (H : Hp) : (hidT h H).objs.size = h.objs.size := PySem.W.hideAll_size _ _
theorem hidT_get {h : Heap} {H : Hp} {b : Addr} {o : Obj} (e : h.get? b = some o) (n : H b = none) : (hidT h H).get? b = some o :=
  PySem.W.hideAll_get _ e fun hm => by
    have q : (H b).isSome = true := (List.mem_filter.mp hm).2
    rw [n] at q; simp at q
theorem of_hidT {h : Heap} {H : Hp} {b : Addr} {o : Obj} (e : (hidT h H).get? b = some o) : h.get? b = some o ∧ H b = none := by
  have e' : h.get? b = some o := PySem.W.of_hideAll (trk h H) e
  refine ⟨e', ?_⟩
  cases q : H b with
  | none => rfl
  | some x =>
    have hm : b ∈ trk h H := List.mem_filter.mpr ⟨List.mem_range.mpr (Heap.lt_size e'), by simp [q]⟩
    have z : (hidT h H).get? b = none := PySem.W.hideAll_none (trk h H) hm
    rw [z] at e; cases e
end L2
namespace L2
open PySem PySem.Spec PyProof.Rows
structure Mod (K : PySem.W.Frag) (mg : Str → Option Value) (base : Heap) : Prop where
  kin : K.In base
  glob : base.Ns mainGlobals mg
  blt : ∃ mb, base.Ns builtinsNs mb ∧ ∀ x : Str, x ≠ "__name__" → mb x = bootBuiltins x
  nolimit : base.NoLimit
structure Cx where
  prog : Program
  w : World
  K : PySem.W.Frag
  mg : Str → Option Value
  base : Heap
  A : Around
  N : List Str
  s₀ : Shared
  H₀ : Hp
  env : Env
  outer : List Env
  stack : List Env
  ex : List Addr
  fn : Str → Bool
  calm : Bool
  pn : List (Addr × Obj)
  xe : Value → Shared → Prop
def frs (l : List Env) : List Addr := l.filterMap (·.frame)
abbrev Cx.fs (X : Cx) : List Addr := frs X.outer
def Vis (sc : Scope) (x : Str) : Prop := sc.names.lookup x = some .local ∨ sc.names.lookup x = some .cell ∨ sc.names.lookup x = some .free
def Loc (sc : Scope) (x : Str) : Prop := sc.names.lookup x = some .local ∨ sc.names.lookup x = some .cell
def Look (env : Env) (h : Heap) (m : Str → Option Value) (x : Str) (u : Value) : Prop :=
  (env.kindOf x = some .local ∧ m x = some u) ∨ ((env.kindOf x = some .cell ∨ env.kindOf x = some .free) ∧ ∃ c, env.cells.lookup x = some c ∧ h.IsCell c (some u))
structure Cx.Ok (X : Cx) : Prop where
  mod : Mod X.K X.mg X.base
  kind : X.env.scope.kind = .function
  glob : X.env.globals = mainGlobals
  blt : X.env.builtins = builtinsNs
  above : X.s₀.heap.objs.size ≤ X.env.locals
  inj : ∀ x y c, X.env.cells.lookup x = some c → X.env.cells.lookup y = some c → x = y
  has : ∀ x, (X.env.kindOf x = some .cell ∨ X.env.kindOf x = some .free) → ∃ c, X.env.cells.lookup x = some c
  cab : ∀ x c, X.fn x = true → X.env.cells.lookup x = some c → X.s₀.heap.objs.size ≤ c
  hd : X.calm = true → X.A.handled = none
  frames : X.A.frames = some X.stack
  stk : X.stack = X.outer ∨ (X.stack = X.env :: X.outer ∧ X.env.frame = some X.env.locals)
  exf : ∀ b ∈ X.ex, b ≠ X.env.locals ∧ ∀ x c, X.env.cells.lookup x = some c → c ≠ b
  bs : ∀ b o, X.base.get? b = some o → X.s₀.heap.get? b = some o ∧ X.H₀ b = none
  bsz : X.base.objs.size ≤ X.s₀.heap.objs.size
  noex : ∀ b o, X.base.get? b = some o → b ∉ X.ex
  exfs : ∀ b ∈ X.ex, b ∉ X.fs
  funs : X.s₀.heap.FunFrames X.base X.outer
  frf : ∀ b ∈ X.fs, X.H₀ b = none
structure Inv (X : Cx) (pins : List (Addr × Obj)) (σ : List (Option V)) (H : Hp) (s : Shared) : Prop where
  ok : X.Ok
  os : s.os = X.s₀.os
  bare : AllBare s.gens
  base : Un X.fs X.ex X.H₀ H X.s₀.heap s.heap
  loc : ∃ m, s.heap.Ns X.env.locals m ∧ ∀ (i : Nat) (x : Str) (v : V), X.N[i]? = some x → σ[i]? = some (some v) → Vis X.env.scope x → ∃ u, RelV v u ∧ Look X.env s.heap m x u
  cell : ∀ x c, X.env.cells.lookup x = some c → ∃ v, s.heap.IsCell c v
  free : H X.env.locals = none
  freeC : ∀ x c, X.env.cells.lookup x = some c → H c = none
  pin : ∀ p ∈ X.pn ++ pins, s.heap.get? p.1 = some p.2 ∧ H p.1 = none ∧ p.1 ≠ X.env.locals ∧ p.1 ∉ X.fs ∧ ∀ v, p.2.data ≠ .cell v
  hok : HOk X.prog X.w H s.heap
  len : σ.length = X.N.length
section
variable {X : Cx} {pins : List (Addr × Obj)} {σ : List (Option V)} {H H' : Hp} {s : Shared} {h' : Heap}
theorem Cx.Ok.nofr (ok : X.Ok) {b : Addr} {o : Obj} (e : X.base.get? b = some o) : b ∉ X.fs := fun hb => by
  have := (ok.funs.mem hb).1
  rw [e] at this; cases this
theorem Inv.bs (I : Inv X pins σ H s) : ∀ b o, X.base.get? b = some o → s.heap.get? b = some o ∧ H b = none := fun b o e =>
  ⟨I.base.keep b o (I.ok.bs b o e).1 (I.ok.bs b o e).2 (I.ok.nofr e) (I.ok.noex b o e), I.base.free b o (I.ok.bs b o e).1 (I.ok.bs b o e).2 (I.ok.noex b o e)⟩
theorem Inv.bk (I : Inv X pins σ H s) : ∀ b o, X.base.get? b = some o → s.heap.get? b = some o := fun b o e => (I.bs b o e).1
theorem Inv.mod (I : Inv X pins σ H s) : Mod X.K X.mg X.base := I.ok.mod
theorem Inv.kIn (I : Inv X pins σ H s) : X.K.In s.heap := I.ok.mod.kin.keeps I.bk
theorem Inv.lt (I : Inv X pins σ H s) : X.env.locals < s.heap.objs.size := let ⟨_, hn, _⟩ := I.loc; hn.lt
theorem Inv.sz (I : Inv X pins σ H s) : X.s₀.heap.objs.size ≤ s.heap.objs.size := Nat.le_trans I.ok.above (Nat.le_of_lt I.lt)
theorem Inv.nofs (I : Inv X pins σ H s) {a : Addr} (h : s.heap.objs.size ≤ a) : a ∉ X.fs := fun hb => by
  obtain ⟨_, o, ho, _⟩ := I.ok.funs.mem hb
  exact absurd (Nat.lt_of_lt_of_le (Heap.lt_size ho) (Nat.le_trans I.sz h)) (Nat.lt_irrefl _)
theorem Inv.cne (I : Inv X pins σ H s) : ∀ x c, X.env.cells.lookup x = some c → c ≠ X.env.locals := fun x c e z => by
  obtain ⟨v, o, ho, hd⟩ := I.cell x c e
  obtain ⟨m, ⟨o', es, ep, ho', hd', _⟩, _⟩ := I.loc
  rw [z, ho'] at ho; cases ho; rw [hd'] at hd; cases hd
theorem Inv.funs (I : Inv X pins σ H s) : s.heap.FunFrames X.base X.outer := by
  have all : ∀ (l : List Env), (∀ b ∈ frs l, b ∈ X.fs) → X.s₀.heap.FunFrames X.base l → s.heap.FunFrames X.base l := by
    intro l
    induction l with
    | nil => intro _ _; trivial
    | cons env r ih =>
      intro hs hl
      obtain ⟨hk, ⟨L, o, hf, hn, ho, hd⟩, hr⟩ := hl
      have hL : L ∈ X.fs := hs L (by unfold frs; rw [List.filterMap_cons, hf]; exact List.mem_cons_self)
      obtain ⟨sl, e⟩ := I.base.slot L o ho (I.ok.frf L hL) hL fun z => I.ok.exfs L z hL
      exact ⟨hk, ⟨L, _, hf, hn, e, hd⟩, ih (fun b hb => hs b (by unfold frs; rw [List.filterMap_cons, hf]; exact List.mem_cons_of_mem _ hb)) hr⟩
  exact all X.outer (fun _ hb => hb) I.ok.funs
theorem Inv.stack (I : Inv X pins σ H s) : s.heap.FunFrames X.base X.stack := by
  rcases I.ok.stk with e | ⟨e, hf⟩
  · rw [e]; exact I.funs
  · rw [e]
    obtain ⟨m, hn, _⟩ := I.loc
    refine .cons (by rw [I.ok.kind]; decide) hf hn ?_ I.funs
    exact Heap.get?_none_of_le (Nat.le_trans I.ok.bsz I.ok.above)
theorem Inv.stkSub (I : Inv X pins σ H s) : ∀ b ∈ frs X.stack, b ∈ X.env.locals :: X.fs := fun b hb => by
  rcases I.ok.stk with e | ⟨e, hf⟩
  · rw [e] at hb; exact List.mem_cons_of_mem _ hb
  · rw [e] at hb
    unfold frs at hb
    rw [List.filterMap_cons, hf] at hb
    exact hb
theorem Inv.stkFree (I : Inv X pins σ H s) : ∀ b ∈ frs X.stack, H b = none := fun b hb => by
  rcases List.mem_cons.mp (I.stkSub b hb) with e | hb
  · rw [e]; exact I.free
  · obtain ⟨_, o, ho, _⟩ := I.ok.funs.mem hb
    exact I.base.free b o ho (I.ok.frf b hb) fun z => I.ok.exfs b z hb
theorem Inv.step {g' : Array GenState} {t' : Nat} {d' : Drawn} {ch : List Addr} (I : Inv X pins σ H s)
    (hch : ∀ b ∈ ch, (b ∈ X.ex ∨ X.s₀.heap.objs.size ≤ b) ∧ b ≠ X.env.locals ∧ (∀ x c, X.env.cells.lookup x = some c → c ≠ b) ∧ ∀ p ∈ X.pn ++ pins, p.1 ≠ b)
    (keep : ∀ b o, b ≠ X.env.locals → b ∉ X.fs → b ∉ ch → s.heap.get? b = some o → H b = none → h'.get? b = some o)
    (slot : ∀ b o, b ≠ X.env.locals → b ∈ X.fs → b ∉ ch → s.heap.get? b = some o → H b = none → ∃ sl, h'.get? b = some { o with slots := sl }) (free : ∀ b o, b ∉ ch → s.heap.get? b = some o → H b = none → H' b = none)
    (there : ∀ b o, b ∉ ch → s.heap.get? b = some o → ∃ o', h'.get? b = some o')
    (tups : ∀ b xs, H b = some (.tup xs) → H' b = some (.tup xs)) (frzs : ∀ b o u, H b = some (.frz o u) → H' b = some (.frz o u)) (tbls : ∀ b ps, H b = some (.tbl ps) → ∃ more, H' b = some (.tbl (ps ++ more)))
    (ns : ∀ m, s.heap.Ns X.env.locals m → h'.Ns X.env.locals m) (hok : HOk X.prog X.w H' h') (hg : AllBare g') :
    Inv X pins σ H' { s with heap := h', gens := g', drawn := d', toks := t' } := by
  have neL : ∀ b o, X.s₀.heap.get? b = some o → b ≠ X.env.locals := fun b o e => Nat.ne_of_lt (Nat.lt_of_lt_of_le (Heap.lt_size e) I.ok.above)
  have neC : ∀ b o, X.s₀.heap.get? b = some o → b ∉ X.ex → b ∉ ch := fun b o e hx hb => by
    rcases (hch b hb).1 with z | z
    · exact hx z
    · exact absurd (Nat.lt_of_lt_of_le (Heap.lt_size e) z) (Nat.lt_irrefl _)
  have cellK : ∀ x c, X.env.cells.lookup x = some c → ∀ v, s.heap.IsCell c v → h'.IsCell c v := fun x c e v ⟨o, ho, hd⟩ => by
    have nch : c ∉ ch := fun z => (hch c z).2.2.1 x c e rfl
    by_cases hc : c ∈ X.fs
    · obtain ⟨sl, q⟩ := slot c o (I.cne x c e) hc nch ho (I.freeC x c e)
      exact ⟨_, q, hd⟩
    · exact ⟨o, keep c o (I.cne x c e) hc nch ho (I.freeC x c e), hd⟩
  refine ⟨I.ok, I.os, hg, ⟨fun b o e n hb hx => ?_, fun b o e n hb hx => ?_, fun b o e n hx => ?_, fun b o e hx => ?_, fun b xs e => tups b xs (I.base.tups b xs e), fun b o xs e => frzs b o xs (I.base.frzs b o xs e), fun b ps e => ?_⟩, ?_, fun x c e => ?_, ?_, fun x c e => ?_, fun p hp => ?_, hok, I.len⟩
  · exact keep b o (neL b o e) hb (neC b o e hx) (I.base.keep b o e n hb hx) (I.base.free b o e n hx)
  · obtain ⟨sl, e1⟩ := I.base.slot b o e n hb hx
    obtain ⟨sl', e2⟩ := slot b _ (neL b o e) hb (neC b o e hx) e1 (I.base.free b o e n hx)
    exact ⟨sl', e2⟩
  · obtain ⟨o', e1⟩ := I.base.there b o e hx
    exact free b o' (neC b o e hx) e1 (I.base.free b o e n hx)
  · obtain ⟨o', e1⟩ := I.base.there b o e hx
    exact there b o' (neC b o e hx) e1
  · obtain ⟨m1, e1⟩ := I.base.tbls b ps e
    obtain ⟨m2, e2⟩ := tbls b _ e1
    exact ⟨m1 ++ m2, by rw [e2, Array.append_assoc]⟩
  · obtain ⟨m, hn, hl⟩ := I.loc
    refine ⟨m, ns m hn, fun i x v e1 e2 e3 => ?_⟩
    obtain ⟨u, r, l⟩ := hl i x v e1 e2 e3
    refine ⟨u, r, ?_⟩
    rcases l with l | ⟨k, c, e, z⟩
    · exact .inl l
    · exact .inr ⟨k, c, e, cellK x c e _ z⟩
  · obtain ⟨v, z⟩ := I.cell x c e
    exact ⟨v, cellK x c e v z⟩
  · obtain ⟨m, ⟨o, _, _, ho, _⟩, _⟩ := I.loc
    exact free _ o (fun z => (hch _ z).2.1 rfl) ho I.free
  · obtain ⟨v, o, ho, hd⟩ := I.cell x c e
    exact free c o (fun z => (hch c z).2.2.1 x c e rfl) ho (I.freeC x c e)
  · obtain ⟨e, n, ne, nf, d⟩ := I.pin p hp
    have nch : p.1 ∉ ch := fun z => (hch p.1 z).2.2.2 p hp rfl
    exact ⟨keep p.1 p.2 ne nf nch e n, free p.1 p.2 nch e n, ne, nf, d⟩
theorem Inv.un {t' : Nat} (I : Inv X pins σ H s) (u : Un X.fs [] H H' s.heap h') (hok : HOk X.prog X.w H' h') : Inv X pins σ H' { s with heap := h', toks := t' } := by
  obtain ⟨m, ⟨o, es, ep, ho, r⟩, _⟩ := id I.loc
  obtain ⟨sl, hL⟩ := u.any ho I.free (by simp)
  exact I.step (g' := s.gens) (d' := s.drawn) (ch := []) (fun _ z => nomatch z) (fun b o _ hb _ e n => u.keep b o e n hb (by simp)) (fun b o _ hb _ e n => u.slot b o e n hb (by simp)) (fun b o _ e n => u.free b o e n (by simp)) (fun b o _ e => u.there b o e (by simp)) u.tups u.frzs u.tbls (fun m' hm => by
    obtain ⟨o', es', ep', ho', r'⟩ := hm
    rw [ho] at ho'; cases ho'
    exact ⟨_, es', ep', hL, r'⟩) hok I.bare
theorem Inv.call {g' : Array GenState} {t' : Nat} {d' : Drawn} {ch : List Addr} (I : Inv X pins σ H s) (u : Un (frs X.stack) ch H H' s.heap h') (hok : HOk X.prog X.w H' h') (hg : AllBare g')
    (hch : ∀ b ∈ ch, (b ∈ X.ex ∨ X.s₀.heap.objs.size ≤ b) ∧ b ≠ X.env.locals ∧ (∀ x c, X.env.cells.lookup x = some c → c ≠ b) ∧ ∀ p ∈ X.pn ++ pins, p.1 ≠ b) :
    Inv X pins σ H' { s with heap := h', gens := g', drawn := d', toks := t' } := by
  obtain ⟨m, ⟨o, es, ep, ho, r⟩, _⟩ := id I.loc
  obtain ⟨sl, hL⟩ := u.any ho I.free fun z => (hch _ z).2.1 rfl
  exact I.step (ch := ch) hch (fun b o hL hb hc e n => u.keep b o e n (fun z => (List.mem_cons.mp (I.stkSub b z)).elim hL hb) hc) (fun b o _ _ hc e n => u.any e n hc) (fun b o hc e n => u.free b o e n hc) (fun b o hc e => u.there b o e hc) u.tups u.frzs u.tbls (fun m' hm => by
    obtain ⟨o', es', ep', ho', r'⟩ := hm
    rw [ho] at ho'; cases ho'
    exact ⟨_, es', ep', hL, r'⟩) hok hg
theorem Inv.turned {t' : Nat} {it : Addr} (I : Inv X pins σ H s) (k : ∀ b o, b ≠ it → s.heap.get? b = some o → h'.get? b = some o) (hn : H it = none) (hL : it ≠ X.env.locals)
    (h1 : it ∈ X.ex ∨ X.s₀.heap.objs.size ≤ it) (h2 : ∀ x c, X.env.cells.lookup x = some c → c ≠ it) (h3 : ∀ p ∈ X.pn ++ pins, p.1 ≠ it) : Inv X pins σ H { s with heap := h', toks := t' } := by
  have nit : ∀ b u, H b = some u → b ≠ it := fun b u e z => by rw [z, hn] at e; cases e
  refine I.step (g' := s.gens) (d' := s.drawn) (ch := [it]) (fun b hb => ?_) (fun b o _ _ hc e _ => k b o (fun z => hc (by simp [z])) e) (fun b o _ _ hc e _ => ⟨o.slots, k b o (fun z => hc (by simp [z])) e⟩) (fun _ _ _ _ n => n)
    (fun b o hc e => ⟨o, k b o (fun z => hc (by simp [z])) e⟩) (fun _ _ e => e) (fun _ _ _ e => e) (fun b ps e => ⟨#[], by rw [e]; simp⟩) (fun m hm => ?_) (fun b u e => ?_) I.bare
  · have e : b = it := by simpa using hb
    subst e
    exact ⟨h1, hL, h2, h3⟩
  · obtain ⟨o, es, ep, ho, r⟩ := hm
    exact ⟨o, es, ep, k _ o (Ne.symm hL) ho, r⟩
  · refine (I.hok b u e).stay (fun c v hc q => k c v ?_ q) (fun _ q => q) fun _ _ q => q
    rcases hc with z | z
    · rw [z]; exact nit b u e
    · exact nit c _ z
theorem Inv.tok (I : Inv X pins σ H s) (t : Nat) : Inv X pins σ H { s with toks := t } := I.un (h' := s.heap) (t' := t) Un.refl I.hok
theorem Inv.kept {t' : Nat} (I : Inv X pins σ H s) (k : ∀ b u, s.heap.get? b = some u → h'.get? b = some u) : Inv X pins σ H { s with heap := h', toks := t' } := I.un (Un.kept k) (I.hok.kept k)
theorem Inv.laid {a : Addr} {o : HO} {t' : Nat} (I : Inv X pins σ H s) (k : ∀ b u, s.heap.get? b = some u → h'.get? b = some u) (hp : s.heap.objs.size ≤ a) (new : ObjOk X.prog X.w (upd H a o) h' a o) :
    Inv X pins σ (upd H a o) { s with heap := h', toks := t' } := I.un (Un.laid k hp (I.hok.fresh hp)) (I.hok.laid k hp new)
theorem Inv.write {x e : Addr} {o : HO} {t' : Nat} (I : Inv X pins σ H s) (mu : Mut (H x)) (he : e = x ∨ H e = some (.own x)) (k : ∀ b u, b ≠ e → s.heap.get? b = some u → h'.get? b = some u) (heo : ∃ u, h'.get? e = some u)
    (new : ObjOk X.prog X.w (upd H x o) h' x o) : Inv X pins σ (upd H x o) { s with heap := h', toks := t' } := I.un (Un.write mu he k heo) (I.hok.write mu he k heo new)
theorem Inv.pins_of {pins' : List (Addr × Obj)} (I : Inv X pins σ H s) (h : ∀ p ∈ pins', s.heap.get? p.1 = some p.2 ∧ H p.1 = none ∧ p.1 ≠ X.env.locals ∧ p.1 ∉ X.fs ∧ ∀ v, p.2.data ≠ .cell v) : Inv X pins' σ H s :=
  ⟨I.ok, I.os, I.bare, I.base, I.loc, I.cell, I.free, I.freeC, fun p hp => (List.mem_append.mp hp).elim (fun z => I.pin p (List.mem_append_left _ z)) (h p), I.hok, I.len⟩
theorem nodup_ix {N : List Str} (hN : N.Nodup) {i j : Nat} {x : Str} (a : N[i]? = some x) (b : N[j]? = some x) : i = j := by
  obtain ⟨h1, e1⟩ := List.getElem?_eq_some_iff.mp a
  obtain ⟨h2, e2⟩ := List.getElem?_eq_some_iff.mp b
  exact (List.getElem_inj hN).mp (e1.trans e2.symm)
theorem store_ok2 {M : Model} {A : Around} {E : Value → Shared → Prop} {i : Nat} {x : Str} {v : V} {u : Value} {Q : Unit → Shared → Prop} (I : Inv X pins σ H s) (hN : X.N.Nodup) (hi : X.N[i]? = some x) (hx : Loc X.env.scope x) (r : RelV v u)
    (h : ∀ s', Inv X pins (σ.set i (some v)) H s' → (∃ a, Heap.SameBut a s.heap s'.heap ∧ (a = X.env.locals ∨ X.env.cells.lookup x = some a)) → Q () s') (hf : X.fn x = true ∨ X.env.scope.names.lookup x = some .local := by first | exact .inl rfl | exact .inr rfl | assumption) : wpAny M A (storeName X.env x u) Q E s := by
  obtain ⟨m, hn, hl⟩ := id I.loc
  have hcls : (X.env.scope.kind == .class || (X.env.scope.kind == .module && X.env.locals != X.env.globals)) = false := by rw [I.ok.kind]; rfl
  have hiσ : i < σ.length := by rw [I.len]; exact (List.getElem?_eq_some_iff.mp hi).1
  have cne := I.cne
  have tracked : ∀ {a : Addr} {h' : Heap}, (∃ o, s.heap.get? a = some o ∧ H a = none) → Heap.SameBut a s.heap h' → HOk X.prog X.w H h' := fun {a h'} ha hs b ob e => by
    obtain ⟨_, _, hfree⟩ := ha
    refine (I.hok b ob e).stay (fun c w' hc q => (hs.2 c ?_).trans q) (fun _ q => q) fun _ _ q => q
    rintro rfl
    rcases hc with rfl | hc
    · rw [hfree] at e; cases e
    · rw [hfree] at hc; cases hc
  rcases hx with hk | hk
  · refine wpAny_storeName_local hk hn (fun h' hn' hs => ?_) hcls
    obtain ⟨oL, _, _, hoL, _⟩ := id hn
    refine h _ ⟨I.ok, I.os, I.bare, ⟨fun b o e n hb hx => ?_, fun b o e n hb hx => ?_, I.base.free, fun b o e hx => ?_, I.base.tups, I.base.frzs, I.base.tbls⟩, ⟨_, hn', fun j y v' e1 e2 e3 => ?_⟩, fun y c e => ?_, I.free, I.freeC, fun p hp => ?_, tracked ⟨oL, hoL, I.free⟩ hs, by simpa using I.len⟩ ⟨_, hs, .inl rfl⟩
    · exact (hs.2 b (Nat.ne_of_lt (Nat.lt_of_lt_of_le (Heap.lt_size e) I.ok.above))).trans (I.base.keep b o e n hb hx)
    · obtain ⟨sl, e1⟩ := I.base.slot b o e n hb hx
      exact ⟨sl, (hs.2 b (Nat.ne_of_lt (Nat.lt_of_lt_of_le (Heap.lt_size e) I.ok.above))).trans e1⟩
    · obtain ⟨o', e1⟩ := I.base.there b o e hx
      exact ⟨o', (hs.2 b (Nat.ne_of_lt (Nat.lt_of_lt_of_le (Heap.lt_size e) I.ok.above))).trans e1⟩
    · by_cases hj : j = i
      · subst hj
        rw [hi] at e1; cases e1
        rw [List.getElem?_set_self hiσ] at e2
        cases e2
        exact ⟨u, r, .inl ⟨hk, by simp⟩⟩
      · rw [List.getElem?_set_ne (Ne.symm hj)] at e2
        obtain ⟨u', r', q⟩ := hl j y v' e1 e2 e3
        refine ⟨u', r', ?_⟩
        rcases q with ⟨k, e⟩ | ⟨k, c, e, z⟩
        · refine .inl ⟨k, ?_⟩
          have : y ≠ x := fun e => hj (nodup_ix hN e1 (e ▸ hi))
          simp [this, e]
        · exact .inr ⟨k, c, e, z.sameBut hs (cne y c e)⟩
    · obtain ⟨w', z⟩ := I.cell y c e
      exact ⟨w', z.sameBut hs (cne y c e)⟩
    · obtain ⟨e, n, ne, nf, d⟩ := I.pin p hp
      exact ⟨(hs.2 p.1 ne).trans e, n, ne, nf, d⟩
  · have hfn : X.fn x = true := by
      rcases hf with z | z
      · exact z
      · rw [z] at hk; cases hk
    obtain ⟨c, hc⟩ := I.ok.has x (.inl hk)
    obtain ⟨w', z⟩ := I.cell x c hc
    refine wpAny_storeName_cell I.ok.kind hk hc z (fun h' hc' hs => ?_)
    obtain ⟨oc, hoc, hocd⟩ := id z
    refine h { s with heap := h' } ⟨I.ok, I.os, I.bare, ⟨fun b o e n hb hx => ?_, fun b o e n hb hx => ?_, I.base.free, fun b o e hx => ?_, I.base.tups, I.base.frzs, I.base.tbls⟩, ⟨m, hn.sameBut hs (Ne.symm (cne x c hc)), fun j y v' e1 e2 e3 => ?_⟩, fun y c' e => ?_, I.free, I.freeC, fun p hp => ?_, tracked ⟨oc, hoc, I.freeC x c hc⟩ hs, by simpa using I.len⟩ ⟨c, hs, .inr hc⟩
    · exact (hs.2 b (Nat.ne_of_lt (Nat.lt_of_lt_of_le (Heap.lt_size e) (I.ok.cab x c hfn hc)))).trans (I.base.keep b o e n hb hx)
    · obtain ⟨sl, e1⟩ := I.base.slot b o e n hb hx
      exact ⟨sl, (hs.2 b (Nat.ne_of_lt (Nat.lt_of_lt_of_le (Heap.lt_size e) (I.ok.cab x c hfn hc)))).trans e1⟩
    · obtain ⟨o', e1⟩ := I.base.there b o e hx
      exact ⟨o', (hs.2 b (Nat.ne_of_lt (Nat.lt_of_lt_of_le (Heap.lt_size e) (I.ok.cab x c hfn hc)))).trans e1⟩
    · by_cases hj : j = i
      · subst hj
        rw [hi] at e1; cases e1
        rw [List.getElem?_set_self hiσ] at e2
        cases e2
        exact ⟨u, r, .inr ⟨.inl hk, c, hc, hc'⟩⟩
      · rw [List.getElem?_set_ne (Ne.symm hj)] at e2
        obtain ⟨u', r', q⟩ := hl j y v' e1 e2 e3
        refine ⟨u', r', ?_⟩
        rcases q with q | ⟨k, c', e, z'⟩
        · exact .inl q
        · refine .inr ⟨k, c', e, z'.sameBut hs ?_⟩
          rintro rfl
          exact hj (nodup_ix hN e1 (I.ok.inj _ _ _ e hc ▸ hi))
    · by_cases hcc : c' = c
      · subst hcc; exact ⟨_, hc'⟩
      · obtain ⟨w2, z2⟩ := I.cell y c' e
        exact ⟨w2, z2.sameBut hs hcc⟩
    · obtain ⟨e, n, ne, nf, d⟩ := I.pin p hp
      refine ⟨(hs.2 p.1 ?_).trans e, n, ne, nf, d⟩
      intro q
      rw [q, hoc] at e
      have q' : oc = p.2 := Option.some.inj e
      exact d w' (by rw [← q']; exact hocd)
theorem store_ok {M : Model} {A : Around} {E : Value → Shared → Prop} {i : Nat} {x : Str} {v : V} {u : Value} {Q : Unit → Shared → Prop} (I : Inv X pins σ H s) (hN : X.N.Nodup) (hi : X.N[i]? = some x) (hx : Loc X.env.scope x) (r : RelV v u)
    (h : ∀ s', Inv X pins (σ.set i (some v)) H s' → Q () s') (hf : X.fn x = true ∨ X.env.scope.names.lookup x = some .local := by first | exact .inl rfl | exact .inr rfl | assumption) : wpAny M A (storeName X.env x u) Q E s :=
  store_ok2 I hN hi hx r (fun s' I' _ => h s' I') hf
theorem Inv.call' {s' : Shared} {ch : List Addr} (I : Inv X pins σ H s) (ho : s'.os = s.os) (u : Un (frs X.stack) ch H H' s.heap s'.heap) (hok : HOk X.prog X.w H' s'.heap) (hg : AllBare s'.gens)
    (hch : ∀ b ∈ ch, (b ∈ X.ex ∨ X.s₀.heap.objs.size ≤ b) ∧ b ≠ X.env.locals ∧ (∀ x c, X.env.cells.lookup x = some c → c ≠ b) ∧ ∀ p ∈ X.pn ++ pins, p.1 ≠ b) : Inv X pins σ H' s' := by
  obtain ⟨h', g', d', t', o'⟩ := s'
  have e : o' = s.os := ho
  subst e
  exact I.call (g' := g') (t' := t') (d' := d') u hok hg hch
end
abbrev XK := Value → Option Addr → Hp → Prop
abbrev St := List (Option V)
abbrev VK := V → Hp → Prop
abbrev TE := St → Hp → VK → Prop
abbrev TT := St → Hp → (Bool → Hp → Prop) → Prop
abbrev TA := St → Hp → (List V → Hp → Prop) → Prop
structure Ends where
  nx : St → Hp → Prop
  rt : VK
  bk : St → Hp → Prop := fun _ _ => False
  ct : St → Hp → Prop := fun _ _ => False
abbrev TS := Ends → St → Hp → Prop
def EP (X : Cx) (pins : List (Addr × Obj)) (σ : St) (Q : VK) (u : Value) (s' : Shared) : Prop := ∃ v H', Inv X pins σ H' s' ∧ RelV v u ∧ Q v H'
def TP (X : Cx) (pins : List (Addr × Obj)) (σ : St) (Q : Bool → Hp → Prop) (b : Bool) (s' : Shared) : Prop := ∃ H', Inv X pins σ H' s' ∧ Q b H'
def AP (X : Cx) (pins : List (Addr × Obj)) (σ : St) (Q : List V → Hp → Prop) (us : List Value) (s' : Shared) : Prop := ∃ vs H', Inv X pins σ H' s' ∧ Vals vs us ∧ Q vs H'
def SP (X : Cx) (pins : List (Addr × Obj)) (D : Ends) (f : Flow) (s' : Shared) : Prop :=
  match f with
  | .next => ∃ σ' H', Inv X pins σ' H' s' ∧ D.nx σ' H'
  | .brk => ∃ σ' H', Inv X pins σ' H' s' ∧ D.bk σ' H'
  | .cont => ∃ σ' H', Inv X pins σ' H' s' ∧ D.ct σ' H'
  | .ret u => ∃ v σ' H', Inv X pins σ' H' s' ∧ RelV v u ∧ D.rt v H'
def PE (X : Cx) (e : Expr) (t : TE) : Prop :=
  ∀ (pins : List (Addr × Obj)) (s : Shared) (σ : St) (H : Hp) (Q : VK), Inv X pins σ H s → t σ H Q → wpAny (model X.prog X.w) X.A (eval e X.env) (EP X pins σ Q) X.xe s
def PT (X : Cx) (e : Expr) (t : TT) : Prop :=
  ∀ (pins : List (Addr × Obj)) (s : Shared) (σ : St) (H : Hp) (Q : Bool → Hp → Prop), Inv X pins σ H s → t σ H Q → wpAny (model X.prog X.w) X.A (isTrue e X.env (eval e X.env)) (TP X pins σ Q) X.xe s
def PW (X : Cx) (e : Expr) (t : TT) : Prop :=
  ∀ (whole : Sem Value) (pins : List (Addr × Obj)) (s : Shared) (σ : St) (H : Hp) (Q : Bool → Hp → Prop), Inv X pins σ H s → t σ H Q → wpAny (model X.prog X.w) X.A (isTrue e X.env whole) (TP X pins σ Q) X.xe s
theorem PW.pt {X : Cx} {e : Expr} {t : TT} (h : PW X e t) : PT X e t := h _
def PA (X : Cx) (es : List Expr) (t : TA) : Prop :=
  ∀ (pos : Pos) (pins : List (Addr × Obj)) (s : Shared) (σ : St) (H : Hp) (Q : List V → Hp → Prop), Inv X pins σ H s → t σ H Q → wpAny (model X.prog X.w) X.A (spliced (backTo pos (starEach es X.env))) (AP X pins σ Q) X.xe s
def PS (X : Cx) (st : Stmt) (t : TS) : Prop :=
  ∀ (pins : List (Addr × Obj)) (s : Shared) (σ : St) (H : Hp) (D : Ends), Inv X pins σ H s → t D σ H → wpAny (model X.prog X.w) X.A (exec st X.env) (SP X pins D) X.xe s
def PSs (X : Cx) (st : List Stmt) (t : TS) : Prop :=
  ∀ (pins : List (Addr × Obj)) (s : Shared) (σ : St) (H : Hp) (D : Ends), Inv X pins σ H s → t D σ H → wpAny (model X.prog X.w) X.A (execs st X.env) (SP X pins D) X.xe s
theorem thn {α : Type} {t : Sem α} {Q Q' : α → Shared → Prop} {M : Model} {A : Around} {E : Value → Shared → Prop} {s : Shared} (h : wpAny M A t Q E s) (hQ : ∀ a s, Q a s → Q' a s) : wpAny M A t Q' E s := wpAny_mono h hQ fun _ _ x => x
end L2
namespace L2
open PySem PySem.Spec PyProof.Rows
section
variable {X : Cx}
theorem bin {a b : Expr} {ta tb : TE} (ha : PE X a ta) (hb : PE X b tb) {pins : List (Addr × Obj)} {s : Shared} {σ : St} {H : Hp} {R : V → V → Hp → Prop} (I : Inv X pins σ H s) (h : ta σ H fun x H1 => tb σ H1 fun y H2 => R x y H2)
    {α : Type} {Q : α → Shared → Prop} {f : Value → Value → Sem α}
    (hf : ∀ v u s2 x y H2, Inv X pins σ H2 s2 → RelV x v → RelV y u → R x y H2 → wpAny (model X.prog X.w) X.A (f v u) Q X.xe s2) :
    wpAny (model X.prog X.w) X.A (eval a X.env) (fun v s₁ => wpAny (model X.prog X.w) X.A (eval b X.env) (fun u s₂ => wpAny (model X.prog X.w) X.A (f v u) Q X.xe s₂) X.xe s₁) X.xe s := by
  refine thn (ha pins s σ H _ I h) fun v s1 ⟨x, H1, I1, r1, q1⟩ => ?_
  refine thn (hb pins s1 σ H1 _ I1 q1) fun u s2 ⟨y, H2, I2, r2, q2⟩ => ?_
  exact hf v u s2 x y H2 I2 r1 r2 q2
def tVar (i : Nat) : TE := fun σ H Q => ∃ v, σ[i]? = some (some v) ∧ Q v H
def tC (v : V) : TE := fun _ H Q => Q v H
theorem pe_var {i : Nat} {x : Str} {pos : Pos} (hN : X.N[i]? = some x) (hv : Vis X.env.scope x) (hd : (x == ("__debug__" : Str)) = false := by decide) (hcd : (x == ("__classdict__" : Str)) = false := by decide) : PE X (.Name x pos) (tVar i) := by
  intro pins s σ H Q I h
  obtain ⟨v, e, h⟩ := h
  obtain ⟨m, hn, hl⟩ := I.loc
  obtain ⟨u, r, l⟩ := hl i x v hN e hv
  have fin : EP X pins σ Q u s := ⟨v, H, I, r, h⟩
  rcases l with ⟨hk, hm⟩ | ⟨hk, c, hc, hcell⟩
  · exact wpAny_Name (wpAny_loadName_local I.ok.kind hk hn hm fin) hd
  · rcases hk with hk | hk
    · exact wpAny_Name (wpAny_loadName_cell I.ok.kind hk hc hcell fin) hd
    · exact wpAny_Name (wpAny_loadName_free I.ok.kind hk hc hcell fin hcd) hd
theorem pe_int {i j pos} : PE X (.Constant (.int i) j pos) (tC (.int i)) := fun _ _ _ H _ I h => wpAny_Constant_int ⟨.int i, H, I.tok _, ⟨_, rfl⟩, h⟩
theorem pe_bl {b j pos} : PE X (.Constant (.bool b) j pos) (tC (.bl b)) := fun _ _ _ H _ I h => Constant_bool ⟨.bl b, H, I, rfl, h⟩
theorem pe_non {j pos} : PE X (.Constant .none j pos) (tC .non) := fun _ _ _ H _ I h => Constant_none ⟨.non, H, I, rfl, h⟩
theorem pe_str {x j pos} : PE X (.Constant (.str x) j pos) (tC (.str x)) := fun _ _ _ H _ I h => Calls.Constant_str ⟨.str x, H, I.tok _, ⟨_, rfl⟩, h⟩
def Gl (X : Cx) (x : Str) : Prop := X.env.kindOf x = some .globalImplicit
theorem ld_glob {E : Value → Shared → Prop} {pins : List (Addr × Obj)} {s : Shared} {σ : St} {H : Hp} {x : Str} {u : Value} {pos : Pos} {Q : Value → Shared → Prop} (I : Inv X pins σ H s) (hg : Gl X x) (hm : X.mg x = some u) (h : Q u s)
    (hd : (x == ("__debug__" : Str)) = false := by decide) : wpAny (model X.prog X.w) X.A (eval (.Name x pos) X.env) Q E s :=
  Calls.Name_function_global I.ok.kind hg (Calls.loadGlobal_global (by rw [I.ok.glob]; exact I.mod.glob.keeps I.bk) hm h) hd
theorem ld_blt {E : Value → Shared → Prop} {pins : List (Addr × Obj)} {s : Shared} {σ : St} {H : Hp} {x : Str} {u : Value} {pos : Pos} {Q : Value → Shared → Prop} (I : Inv X pins σ H s) (hg : Gl X x) (hm : X.mg x = none) (hv : bootBuiltins x = some u) (h : Q u s)
    (hn : x ≠ "__name__" := by decide) (hd : (x == ("__debug__" : Str)) = false := by decide) : wpAny (model X.prog X.w) X.A (eval (.Name x pos) X.env) Q E s := by
  obtain ⟨mb, h1, h2⟩ := I.mod.blt
  exact Calls.Name_function_global I.ok.kind hg (Calls.loadGlobal_builtin (by rw [I.ok.glob]; exact I.mod.glob.keeps I.bk) hm (by rw [I.ok.blt]; exact h1.keeps I.bk) ((h2 x hn).trans hv) h) hd
theorem pe_glob {x : Str} {v : V} {u : Value} {pos : Pos} (hg : Gl X x) (hm : X.mg x = some u) (r : RelV v u) (hd : (x == ("__debug__" : Str)) = false := by decide) : PE X (.Name x pos) (tC v) :=
  fun _ _ _ H _ I h => ld_glob I hg hm ⟨v, H, I, r, h⟩ hd
theorem pe_bltn {x : Str} {v : V} {u : Value} {pos : Pos} (hg : Gl X x) (hm : X.mg x = none) (hv : bootBuiltins x = some u) (r : RelV v u) (hn : x ≠ "__name__" := by decide) (hd : (x == ("__debug__" : Str)) = false := by decide) : PE X (.Name x pos) (tC v) :=
  fun _ _ _ H _ I h => ld_blt I hg hm hv ⟨v, H, I, r, h⟩ hn hd
variable {a b : Expr} {ta tb : TE} {pos : Pos}
variable {tA tB' : TT} {rest : List Expr}
def tAnd (t u : TT) : TT := fun σ H Q => t σ H fun c H1 => if c = true then u σ H1 Q else Q false H1
def tOr (t u : TT) : TT := fun σ H Q => t σ H fun c H1 => if c = true then Q true H1 else u σ H1 Q
def tNot (t : TT) : TT := fun σ H Q => t σ H fun c H1 => Q (!c) H1
theorem pw_and1 (ha : PT X a tA) : PW X (.BoolOp .And [a] pos) tA := by
  intro wh pins s σ H Q I h
  refine isTrue_and (thn (ha pins s σ H Q I h) fun c s1 e => ?_)
  cases c with
  | true => exact isTrue_and_nil e
  | false => exact e
theorem pw_or1 (ha : PT X a tA) : PW X (.BoolOp .Or [a] pos) tA := by
  intro wh pins s σ H Q I h
  refine isTrue_or (thn (ha pins s σ H Q I h) fun c s1 e => ?_)
  cases c with
  | false => exact isTrue_or_nil e
  | true => exact e
theorem pw_and (ha : PT X a tA) (hb : PW X (.BoolOp .And (b :: rest) pos) tB') : PW X (.BoolOp .And (a :: b :: rest) pos) (tAnd tA tB') := by
  intro wh pins s σ H Q I h
  refine isTrue_and (thn (ha pins s σ H _ I h) fun c s1 ⟨H1, I1, q1⟩ => ?_)
  cases c with
  | true => exact hb wh pins s1 σ H1 Q I1 q1
  | false => exact ⟨H1, I1, q1⟩
theorem pw_or (ha : PT X a tA) (hb : PW X (.BoolOp .Or (b :: rest) pos) tB') : PW X (.BoolOp .Or (a :: b :: rest) pos) (tOr tA tB') := by
  intro wh pins s σ H Q I h
  refine isTrue_or (thn (ha pins s σ H _ I h) fun c s1 ⟨H1, I1, q1⟩ => ?_)
  cases c with
  | true => exact ⟨H1, I1, q1⟩
  | false => exact hb wh pins s1 σ H1 Q I1 q1
theorem pt_not (ha : PT X a tA) : PT X (.UnaryOp .Not a pos) (tNot tA) := by
  intro pins s σ H Q I h
  exact isTrue_not (ha pins s σ H (fun c H1 => Q (!c) H1) I h)
def tAndV (ta tb : TE) : TE := fun σ H Q => ta σ H fun x H1 => ∃ c, x = .bl c ∧ if c = true then tb σ H1 Q else Q (.bl false) H1
def tOrV (ta tb : TE) : TE := fun σ H Q => ta σ H fun x H1 => ∃ c, x = .bl c ∧ if c = true then Q (.bl true) H1 else tb σ H1 Q
def tNotV (ta : TE) : TE := fun σ H Q => ta σ H fun x H1 => ∃ c, x = .bl c ∧ Q (.bl (!c)) H1
theorem pe_one {op} {t : TE} (h : PE X a t) : PE X (.BoolOp op [a] pos) t := fun pins s σ H Q I hw => BoolOp_one (h pins s σ H Q I hw)
theorem pe_and (ha : PE X a ta) (hb : PE X (.BoolOp .And (b :: rest) pos) tb) : PE X (.BoolOp .And (a :: b :: rest) pos) (tAndV ta tb) := by
  intro pins s σ H Q I h
  refine BoolOp_and (thn (ha pins s σ H _ I h) fun v s1 ⟨x, H1, I1, r1, q1⟩ => ?_)
  obtain ⟨c, rfl, q1⟩ := q1
  cases r1
  refine wpAny_truthy_bool ?_
  cases c with
  | true => exact hb pins s1 σ H1 Q I1 q1
  | false => exact ⟨.bl false, H1, I1, rfl, q1⟩
theorem pe_or (ha : PE X a ta) (hb : PE X (.BoolOp .Or (b :: rest) pos) tb) : PE X (.BoolOp .Or (a :: b :: rest) pos) (tOrV ta tb) := by
  intro pins s σ H Q I h
  refine BoolOp_or (thn (ha pins s σ H _ I h) fun v s1 ⟨x, H1, I1, r1, q1⟩ => ?_)
  obtain ⟨c, rfl, q1⟩ := q1
  cases r1
  refine wpAny_truthy_bool ?_
  cases c with
  | false => exact hb pins s1 σ H1 Q I1 q1
  | true => exact ⟨.bl true, H1, I1, rfl, q1⟩
theorem pe_not (ha : PE X a ta) : PE X (.UnaryOp .Not a pos) (tNotV ta) := by
  intro pins s σ H Q I h
  refine UnaryOp_ (thn (ha pins s σ H _ I h) fun v s1 ⟨x, H1, I1, r1, q1⟩ => ?_)
  obtain ⟨c, rfl, q1⟩ := q1
  cases r1
  exact not_of (wpAny_truthy_bool ⟨.bl (!c), H1, I1, rfl, q1⟩)
def tIf (t : TT) (ta tb : TE) : TE := fun σ H Q => t σ H fun c H1 => if c = true then ta σ H1 Q else tb σ H1 Q
theorem pe_ifExp {c : Expr} (hc : PT X c tA) (ha : PE X a ta) (hb : PE X b tb) : PE X (.IfExp c a b pos) (tIf tA ta tb) := by
  intro pins s σ H Q I h
  refine wpAny_IfExp (thn (hc pins s σ H _ I h) fun d s1 ⟨H1, I1, q1⟩ => ?_)
  cases d with
  | true => exact ha pins s1 σ H1 Q I1 q1
  | false => exact hb pins s1 σ H1 Q I1 q1
end
end L2
namespace L2
open PySem PySem.Spec PyProof.Rows
def SqL (K : PySem.W.Frag) (H : Hp) (a : Addr) (xs : List V) : Prop :=
  Rd H a (.lst xs) ∨
    ∃ (o : Obj) (its : Array Value) (n : Nat), K.lookup a = some o ∧ o.cls = .type "list" ∧ o.dict = none ∧ o.data = .seq its n ∧ its.size ≤ sizeLine ∧ Vals xs its.toList
def SqT (K : PySem.W.Frag) (H : Hp) (a : Addr) (xs : List V) : Prop :=
  Rd H a (.tup xs) ∨
    ∃ (o : Obj) (its : Array Value) (n : Nat), K.lookup a = some o ∧ o.cls = .type "tuple" ∧ o.data = .seq its n ∧ its.size ≤ sizeLine ∧ Vals xs its.toList
def absV : Value → Option V
  | .none => some .non
  | .bool b => some (.bl b)
  | .int i _ => some (.int i)
  | .str x _ => some (.str x)
  | .bytes b _ => some (.byt b)
  | .float b _ => some (.flt b)
  | .ref a => some (.ref a)
  | .type n => some (.ty n)
  | _ => none
theorem RelV.abs {x : V} {u : Value} (r : RelV x u) : absV u = some x := by
  cases x with
  | non => cases r; rfl
  | bl _ => cases r; rfl
  | int _ => obtain ⟨t, rfl⟩ := r; rfl
  | str _ => obtain ⟨t, rfl⟩ := r; rfl
  | byt _ => obtain ⟨t, rfl⟩ := r; rfl
  | flt _ => obtain ⟨t, rfl⟩ := r; rfl
  | ref _ => cases r; rfl
  | ty _ => cases r; rfl
theorem RelV.inj {x y : V} {u : Value} (r : RelV x u) (q : RelV y u) : x = y := Option.some.inj (r.abs.symm.trans q.abs)
theorem Vals.inj : ∀ {xs ys : List V} {us : List Value}, Vals xs us → Vals ys us → xs = ys
  | _, _, _, .nil, .nil => rfl
  | _, _, _, .cons r t, .cons r' t' => by rw [r.inj r', Vals.inj t t']
section
variable {X : Cx} {pins : List (Addr × Obj)} {σ : St} {H : Hp} {s : Shared} {a : Addr} {xs ys : List V}
theorem SqL.of {K : PySem.W.Frag} (h : H a = some (.lst xs)) : SqL K H a xs := .inl (.inl h)
theorem SqT.of {K : PySem.W.Frag} (h : H a = some (.tup xs)) : SqT K H a xs := .inl (.inl h)
theorem Inv.list (I : Inv X pins σ H s) (h : SqL X.K H a xs) : ∃ its : List Value, Vals xs its ∧ PlainL s.heap a its.toArray ∧ xs.length ≤ sizeLine := by
  rcases h with h | ⟨o, its, n, hk, hc, hd, hs, hz, r⟩
  · obtain ⟨z, its, n, r, e⟩ := h.ok I.hok
    exact ⟨its, r, ⟨_, n, e, rfl, rfl, rfl⟩, z⟩
  · refine ⟨its.toList, r, ⟨o, n, I.kIn a o hk, hc, hd, by simpa using hs⟩, ?_⟩
    have e := r.length
    simp only [Array.length_toList] at e
    omega
theorem Inv.tuple (I : Inv X pins σ H s) (h : SqT X.K H a xs) : ∃ its : List Value, Vals xs its ∧ IsTup s.heap a its.toArray ∧ xs.length ≤ sizeLine := by
  rcases h with h | ⟨o, its, n, hk, hc, hs, hz, r⟩
  · obtain ⟨z, its, r, p⟩ := h.ok I.hok
    exact ⟨its, r, p.tup, z⟩
  · refine ⟨its.toList, r, ⟨o, I.kIn a o hk, hc, n, by simpa using hs⟩, ?_⟩
    have e := r.length
    simp only [Array.length_toList] at e
    omega
theorem Inv.list_inj (I : Inv X pins σ H s) (h : SqL X.K H a xs) (h' : SqL X.K H a ys) : xs = ys := by
  obtain ⟨its, r, ⟨o, n, e, _, _, d⟩, _⟩ := I.list h
  obtain ⟨its', r', ⟨o', n', e', _, _, d'⟩, _⟩ := I.list h'
  rw [e] at e'; cases e'
  rw [d] at d'
  injection d' with d1 _
  have : its = its' := by simpa using congrArg Array.toList d1
  subst this
  exact r.inj r'
theorem Inv.tuple_inj (I : Inv X pins σ H s) (h : SqT X.K H a xs) (h' : SqT X.K H a ys) : xs = ys := by
  obtain ⟨its, r, ⟨o, e, _, n, d⟩, _⟩ := I.tuple h
  obtain ⟨its', r', ⟨o', e', _, n', d'⟩, _⟩ := I.tuple h'
  rw [e] at e'; cases e'
  rw [d] at d'
  injection d' with d1 _
  have : its = its' := by simpa using congrArg Array.toList d1
  subst this
  exact r.inj r'
end
abbrev Cx.wish (X : Cx) (E : Value → Shared → Prop) : Cx := { X with xe := E }
abbrev Cx.nox (X : Cx) : Cx := X.wish fun _ _ => False
theorem Cx.Ok.wish {X : Cx} (ok : X.Ok) (E : Value → Shared → Prop) : (X.wish E).Ok :=
  ⟨ok.mod, ok.kind, ok.glob, ok.blt, ok.above, ok.inj, ok.has, ok.cab, ok.hd, ok.frames, ok.stk, ok.exf, ok.bs, ok.bsz, ok.noex, ok.exfs, ok.funs, ok.frf⟩
theorem Cx.Ok.unwish {X : Cx} {E : Value → Shared → Prop} (ok : (X.wish E).Ok) : X.Ok :=
  ⟨ok.mod, ok.kind, ok.glob, ok.blt, ok.above, ok.inj, ok.has, ok.cab, ok.hd, ok.frames, ok.stk, ok.exf, ok.bs, ok.bsz, ok.noex, ok.exfs, ok.funs, ok.frf⟩
section
variable {X : Cx} {pins : List (Addr × Obj)} {σ : St} {H : Hp} {s : Shared} {E : Value → Shared → Prop}
theorem Inv.wish (I : Inv X pins σ H s) (E : Value → Shared → Prop) : Inv (X.wish E) pins σ H s := ⟨I.ok.wish E, I.os, I.bare, I.base, I.loc, I.cell, I.free, I.freeC, I.pin, I.hok, I.len⟩
theorem Inv.unwish (I : Inv (X.wish E) pins σ H s) : Inv X pins σ H s := ⟨I.ok.unwish, I.os, I.bare, I.base, I.loc, I.cell, I.free, I.freeC, I.pin, I.hok, I.len⟩
theorem SP.unwish {D : Ends} {f : Flow} {s' : Shared} (h : SP (X.wish E) pins D f s') : SP X pins D f s' := by
  cases f with
  | next => obtain ⟨σ', H', I, q⟩ := h; exact ⟨σ', H', I.unwish, q⟩
  | brk => obtain ⟨σ', H', I, q⟩ := h; exact ⟨σ', H', I.unwish, q⟩
  | cont => obtain ⟨σ', H', I, q⟩ := h; exact ⟨σ', H', I.unwish, q⟩
  | ret u => obtain ⟨v, σ', H', I, r, q⟩ := h; exact ⟨v, σ', H', I.unwish, r, q⟩
theorem PSs.nox {st : List Stmt} {t : TS} (h : PSs X.nox st t) : PSs X st t := fun pins s σ H D I hw =>
  wpAny_mono (h pins s σ H D (I.wish _) hw) (fun _ _ q => q.unwish) fun _ _ z => False.elim z
end
section
variable {X : Cx} {st : Stmt} {rest : List Stmt} {t u : TS} {e : Expr} {te : TE} {pos : Pos}
def tNext : TS := fun D σ H => D.nx σ H
def tSeq (t u : TS) : TS := fun D σ H => t { D with nx := u D } σ H
theorem pss_nil : PSs X [] tNext := fun _ _ σ H _ I h => wpAny_execs_nil ⟨σ, H, I, h⟩
theorem pss_cons (h1 : PS X st t) (h2 : PSs X rest u) : PSs X (st :: rest) (tSeq t u) := by
  intro pins s σ H D I h
  refine wpAny_execs_cons (thn (h1 pins s σ H { D with nx := u D } I h) fun f s1 q => ?_)
  cases f with
  | next =>
    obtain ⟨σ', H', I', q⟩ := q
    exact h2 pins s1 σ' H' D I' q
  | ret v => exact q
  | brk => exact q
  | cont => exact q
theorem pss_one (h1 : PS X st t) : PSs X [st] t := by
  intro pins s σ H D I h
  refine wpAny_execs_cons (thn (h1 pins s σ H D I h) fun f s1 q => ?_)
  cases f with
  | next => exact wpAny_execs_nil q
  | ret v => exact q
  | brk => exact q
  | cont => exact q
theorem Inv.quiet {pins : List (Addr × Obj)} {σ : St} {H : Hp} {s : Shared} (I : Inv X pins σ H s) : interactive X.env = false := by simp [interactive, I.ok.kind]
def tDrop (te : TE) : TS := fun D σ H => te σ H fun _ H1 => D.nx σ H1
theorem ps_expr (he : PE X e te) (hs : swapsWith e none pos.line X.env = pure false := by rfl) : PS X (.Expr e pos) (tDrop te) := by
  intro pins s σ H D I h
  exact wpAny_Expr_any (thn (he pins s σ H _ I h) fun v s1 ⟨x, H1, I1, r1, q1⟩ => ⟨σ, H1, I1, q1⟩) I.quiet hs
def tRet (te : TE) : TS := fun D σ H => te σ H D.rt
theorem ps_ret (he : PE X e te) : PS X (.Return (some e) pos) (tRet te) := by
  intro pins s σ H D I h
  exact wpAny_Return_some (thn (he pins s σ H _ I h) fun v s1 ⟨x, H1, I1, r1, q1⟩ => ⟨x, σ, H1, I1, r1, q1⟩)
def tIfS (c : TT) (t u : TS) : TS := fun D σ H => c σ H fun b H1 => if b = true then t D σ H1 else u D σ H1
theorem ps_if {c : Expr} {a b : List Stmt} {tc : TT} (hc : PT X c tc) (ha : PSs X a t) (hb : PSs X b u) : PS X (.If c a b pos) (tIfS tc t u) := by
  intro pins s σ H D I h
  refine wpAny_If (thn (hc pins s σ H _ I h) fun d s1 ⟨H1, I1, q1⟩ => ?_)
  cases d with
  | true => exact ha pins s1 σ H1 D I1 q1
  | false => exact hb pins s1 σ H1 D I1 q1
def tNever : TS := fun _ _ _ => False
theorem ps_never : PS X st tNever := fun _ _ _ _ _ _ h => h.elim
end
abbrev TG := V → St → Hp → (St → Hp → Prop) → Prop
abbrev TGs := List V → St → Hp → (St → Hp → Prop) → Prop
def PG (X : Cx) (target : Expr) (t : TG) : Prop :=
  ∀ (pins : List (Addr × Obj)) (s : Shared) (σ : St) (H : Hp) (v : V) (u : Value) (Q : St → Hp → Prop), Inv X pins σ H s → RelV v u → t v σ H Q →
    wpAny (model X.prog X.w) X.A (assign target X.env u) (fun _ s' => ∃ σ' H', Inv X pins σ' H' s' ∧ Q σ' H') X.xe s
def PGs (X : Cx) (ts : List Expr) (t : TGs) : Prop :=
  ∀ (pins : List (Addr × Obj)) (s : Shared) (σ : St) (H : Hp) (vs : List V) (us : List Value) (Q : St → Hp → Prop), Inv X pins σ H s → Vals vs us → t vs σ H Q →
    wpAny (model X.prog X.w) X.A (assignInOrder ((assignEach ts X.env).map (·.2)) us) (fun _ s' => ∃ σ' H', Inv X pins σ' H' s' ∧ Q σ' H') X.xe s
section
variable {X : Cx} {pos : Pos}
def gName (i : Nat) : TG := fun v σ H Q => Q (σ.set i (some v)) H
theorem pg_name {i : Nat} {x : Str} (hN : X.N.Nodup) (hi : X.N[i]? = some x) (hx : Loc X.env.scope x) (hf : X.fn x = true ∨ X.env.scope.names.lookup x = some .local := by first | exact .inl rfl | exact .inr rfl | assumption) : PG X (.Name x pos) (gName i) := by
  intro pins s σ H v u Q I r h
  exact wpAny_assign_Name (store_ok I hN hi hx r (fun s' I' => ⟨_, H, I', h⟩) hf)
def gNil : TGs := fun vs σ H Q => vs = [] ∧ Q σ H
def gCons (t : TG) (u : TGs) : TGs := fun vs σ H Q => ∃ v r, vs = v :: r ∧ t v σ H fun σ' H' => u r σ' H' Q
theorem pgs_nil : PGs X [] gNil := by
  intro pins s σ H vs us Q I r h
  obtain ⟨e, h⟩ := h
  subst e
  cases r
  exact assignInOrder_nil ⟨σ, H, I, h⟩
theorem pgs_cons {e : Expr} {es : List Expr} {t : TG} {u : TGs} (h1 : PG X e t) (h2 : PGs X es u)
    (hs : (assignEach (e :: es) X.env).map (·.2) = assign e X.env :: (assignEach es X.env).map (·.2) := by rfl) : PGs X (e :: es) (gCons t u) := by
  intro pins s σ H vs us Q I r h
  obtain ⟨v, vr, e1, h⟩ := h
  subst e1
  cases r with
  | cons r rr =>
    rw [hs]
    refine assignInOrder_cons (thn (h1 pins s σ H _ _ _ I r h) fun _ s1 ⟨σ1, H1, I1, q1⟩ => ?_)
    exact h2 pins s1 σ1 H1 _ _ Q I1 rr q1
def gTup (K : PySem.W.Frag) (n : Nat) (t : TGs) : TG := fun v σ H Q => ∃ a xs, v = .ref a ∧ SqT K H a xs ∧ xs.length = n ∧ t xs σ H Q
theorem pg_tup {es : List Expr} {k : Nat} {t : TGs} {n : Nat} (hc : X.calm = true) (h : PGs X es t)
    (hn : (assignEach es X.env).length = n := by rfl) (hst : (assignEach es X.env).findIdx? (·.1) = none := by rfl) : PG X (.Tuple es k pos) (gTup X.K n t) := by
  intro pins s σ H v u Q I r hw
  obtain ⟨a, xs, e1, hq, hl, hw⟩ := hw
  subst e1
  cases r
  obtain ⟨its, rv, ht, hz⟩ := I.tuple hq
  refine assign_Tuple_tuple (I.ok.hd hc) ht (by simp [hn, ← hl, rv.length]) hst fun h' hx => ?_
  have I1 : Inv X pins σ H { s with heap := h' } := I.kept (t' := s.toks) fun b o e => hx b o (Nat.ne_of_lt (Heap.lt_size e)) e
  exact h pins _ σ H xs _ Q I1 (by simpa using rv) hw
def tAsg (te : TE) (g : TG) : TS := fun D σ H => te σ H fun x H1 => g x σ H1 D.nx
theorem ps_asg {tg e : Expr} {te : TE} {g : TG} (he : PE X e te) (hg : PG X tg g) (hs : swapsWithSole [tg] e pos.line X.env = pure false := by rfl) (hw : swappedStores [tg] e X.env = pure none := by rfl)
    (h1 : (assignEach [tg] X.env).map (·.2) = [assign tg X.env] := by rfl) : PS X (.Assign [tg] e pos) (tAsg te g) := by
  intro pins s σ H D I h
  refine wpAny_Assign_stores (thn (he pins s σ H _ I h) fun v s1 ⟨x, H1, I1, r1, q1⟩ => ?_) hs hw
  rw [h1]
  exact thn (hg pins s1 σ H1 x v _ I1 r1 q1) fun _ s2 q => q
theorem ps_set {i : Nat} {x : Str} {e : Expr} {te : TE} {pos' : Pos} (hN : X.N.Nodup) (hi : X.N[i]? = some x) (hx : Loc X.env.scope x) (he : PE X e te) (hs : swapsWith e (some (.Name x pos')) pos.line X.env = pure false := by rfl) (hf : X.fn x = true ∨ X.env.scope.names.lookup x = some .local := by first | exact .inl rfl | exact .inr rfl | assumption) :
    PS X (.Assign [.Name x pos'] e pos) (tAsg te (gName i)) := by
  intro pins s σ H D I h
  refine wpAny_Assign_Name (thn (he pins s σ H _ I h) fun v s1 ⟨y, H1, I1, r1, q1⟩ => ?_) hs
  exact store_ok I1 hN hi hx r1 (fun s2 I2 => ⟨_, H1, I2, q1⟩) hf
end
section
variable {X : Cx} {pos : Pos}
def tWhile (c : TT) (tb : TS) : TS := fun D σ H => ∃ W : Nat → St → Hp → Prop, (∃ m, W m σ H) ∧ ∀ m σ H, W m σ H →
  c σ H fun b H1 => if b = true then ∃ N : St → Hp → Prop, (∀ σ' H', N σ' H' → ∃ m', m' < m ∧ W m' σ' H') ∧ tb { D with nx := N, ct := N, bk := D.nx } σ H1 else D.nx σ H1
theorem ps_while {c : Expr} {body : List Stmt} {tc : TT} {tb : TS} (hp : PassesOwn (model X.prog X.w) X.A X.env X.xe) (hc : PT X c tc) (hb : PSs X body tb) : PS X (.While c body [] pos) (tWhile tc tb) := by
  intro pins s σ H D I h
  obtain ⟨W, ⟨m0, w0⟩, turn⟩ := h
  refine wpAny_While (codeAny_whileLoop (fun n s' => ∃ σ' H', Inv X pins σ' H' s' ∧ W n σ' H') ?_ m0 ⟨σ, H, I, w0⟩)
  rintro n s1 ⟨σ1, H1, I1, w1⟩
  refine wpAny_passesOwn hp (thn (hc pins s1 σ1 H1 _ I1 (turn n σ1 H1 w1)) fun b s2 ⟨H2, I2, q2⟩ => ?_)
  cases b with
  | true =>
    obtain ⟨N, hN, q2⟩ := q2
    rw [if_pos rfl]
    refine wpAny_passesOwn hp (thn (hb pins s2 σ1 H2 _ I2 q2) fun f s3 q3 => ?_)
    cases f with
    | next =>
      obtain ⟨σ3, H3, I3, n3⟩ := q3
      obtain ⟨m', hm, w3⟩ := hN σ3 H3 n3
      exact ⟨m', hm, σ3, H3, I3, w3⟩
    | cont =>
      obtain ⟨σ3, H3, I3, n3⟩ := q3
      obtain ⟨m', hm, w3⟩ := hN σ3 H3 n3
      exact ⟨m', hm, σ3, H3, I3, w3⟩
    | brk => exact q3
    | ret v => exact q3
  | false =>
    rw [if_neg Bool.false_ne_true]
    exact wpAny_execs_nil ⟨σ1, H2, I2, q2⟩
end
structure It where
  go : Nat → Hp → Prop
  yld : Nat → Hp → V → Hp → Prop
  stop : Nat → Hp → Prop
def FpOk (X : Cx) (pins : List (Addr × Obj)) (H : Hp) (b : Addr) : Prop :=
  H b = none ∧ b ≠ X.env.locals ∧ b ∉ X.fs ∧ (b ∈ X.ex ∨ X.s₀.heap.objs.size ≤ b) ∧ (∀ x c, X.env.cells.lookup x = some c → c ≠ b) ∧ ∀ p ∈ X.pn ++ pins, p.1 ≠ b
theorem Inv.fpOk {X : Cx} {pins : List (Addr × Obj)} {σ : St} {H H' : Hp} {s : Shared} {b : Addr} (I : Inv X pins σ H s) (hb : s.heap.objs.size ≤ b) (hn : H' b = none) : FpOk X pins H' b := by
  refine ⟨hn, Nat.ne_of_gt (Nat.lt_of_lt_of_le I.lt hb), I.nofs hb, .inr (Nat.le_trans I.sz hb), fun x c e z => ?_, fun p hp z => ?_⟩
  · obtain ⟨v, q⟩ := I.cell x c e
    exact absurd (Nat.lt_of_lt_of_le q.lt (by rw [z]; exact hb)) (Nat.lt_irrefl _)
  · exact absurd (Nat.lt_of_lt_of_le (Heap.lt_size (I.pin p hp).1) (by rw [z]; exact hb)) (Nat.lt_irrefl _)
structure Turn (P : Program) (w : World) (K : PySem.W.Frag) (tg : Expr) (J : It) (fp : List Addr) (it : Addr) (tn : Nat → Heap → Prop) : Prop where
  mem : it ∈ fp
  obj : ∀ i h, tn i h → ∀ b ∈ fp, ∃ o, h.get? b = some o ∧ ∀ v, o.data ≠ .cell v
  keep : ∀ i h h', tn i h → (∀ b ∈ fp, ∀ o, h.get? b = some o → h'.get? b = some o) → tn i h'
  item : ∀ (X : Cx), X.prog = P → X.w = w → X.K = K → X.calm = true → ∀ (i : Nat) (pins : List (Addr × Obj)) (s : Shared) (σ : St) (H : Hp) (E : Value → Shared → Prop), Inv X pins σ H s → (∀ b ∈ fp, FpOk X pins H b) → tn i s.heap → J.go i H →
    wpAny (model P w) X.A (pyNext (.ref it)) (fun r s1 => ∃ u, r = some u ∧
      wpAny (model P w) X.A (letOwnedTupleGo tg (.ref it) u) (fun _ s2 => ∃ x H', Inv X pins σ H' s2 ∧ RelV x u ∧ J.yld i H x H' ∧ tn (i + 1) s2.heap ∧ ∀ b ∈ fp, H' b = none) E s1) E s
  done : ∀ (X : Cx), X.prog = P → X.w = w → X.K = K → X.calm = true → ∀ (i : Nat) (pins : List (Addr × Obj)) (s : Shared) (σ : St) (H : Hp) (E : Value → Shared → Prop), Inv X pins σ H s → (∀ b ∈ fp, FpOk X pins H b) → tn i s.heap → J.stop i H →
    wpAny (model P w) X.A (pyNext (.ref it)) (fun r s1 => r = none ∧ Inv X pins σ H s1) E s
  self : ∀ (A : Around) (i : Nat) (s : Shared) (Q : Value → Shared → Prop) (E : Value → Shared → Prop), tn i s.heap → Q (.ref it) s → wpAny (model P w) A (pyIter (.ref it)) Q E s
abbrev TI := St → Hp → (It → Hp → Prop) → Prop
def PIE (X : Cx) (pins : List (Addr × Obj)) (σ : St) (tg : Expr) (R : It → Hp → Prop) (itv : Value) (s2 : Shared) : Prop :=
  ∃ (it : Addr) (fp : List Addr) (tn : Nat → Heap → Prop) (J : It) (H' : Hp), itv = .ref it ∧ Inv X pins σ H' s2 ∧ Turn X.prog X.w X.K tg J fp it tn ∧ tn 0 s2.heap ∧ (∀ b ∈ fp, FpOk X pins H' b) ∧ R J H'
def PI (X : Cx) (tg iter : Expr) (wi : TI) : Prop :=
  ∀ (pins : List (Addr × Obj)) (s : Shared) (σ : St) (H : Hp) (R : It → Hp → Prop), Inv X pins σ H s → wi σ H R →
    wpAny (model X.prog X.w) X.A (eval iter X.env) (fun v s1 => wpAny (model X.prog X.w) X.A (pyIter v) (PIE X pins σ tg R) X.xe s1) X.xe s
theorem go_of {M : Model} {A : Around} {E : Value → Shared → Prop} {s : Shared} {tg : Expr} {it : Addr} {u : Value} {o : Obj} {n : String} {vs : Array Value} {Q : Unit → Shared → Prop} (ho : s.heap.get? it = some o) (hc : o.cls = .type n) (hd : o.data = .fields vs)
    (hn : ["enumerate", "zip", "dict_itemiterator", "dict_reverseitemiterator", "odict_iterator", "itertools.zip_longest", "itertools.pairwise"].contains n = false) (hQ : Q () s) : wpAny M A (letOwnedTupleGo tg (.ref it) u) Q E s := by
  unfold letOwnedTupleGo
  cases tg <;> first
    | exact wpAny_pure hQ
    | (cases u <;> first
        | exact wpAny_pure hQ
        | (refine wpAny_bind (wpAny_load ho ?_)
           rw [hc, hd]
           show wpAny M A (if (["enumerate", "zip", "dict_itemiterator", "dict_reverseitemiterator", "odict_iterator", "itertools.zip_longest", "itertools.pairwise"].contains n && vs[0]? == some (rawInt _)) = true then _ else _) Q E s
           rw [if_neg (by intro h; rw [hn, Bool.false_and] at h; cases h)]
           exact wpAny_pure hQ))
def Itl (K : PySem.W.Frag) (a : Addr) : It :=
  ⟨fun i H => ∃ xs x, SqL K H a xs ∧ xs[i]? = some x, fun i H x H' => H' = H ∧ ∀ xs, SqL K H a xs → xs[i]? = some x, fun i H => ∃ xs, SqL K H a xs ∧ xs.length ≤ i⟩
def Itt (K : PySem.W.Frag) (a : Addr) : It :=
  ⟨fun i H => ∃ xs x, SqT K H a xs ∧ xs[i]? = some x, fun i H x H' => H' = H ∧ ∀ xs, SqT K H a xs → xs[i]? = some x, fun i H => ∃ xs, SqT K H a xs ∧ xs.length ≤ i⟩
def Itr (lo : Int) (n : Nat) : It := ⟨fun i _ => i < n, fun i H x H' => H' = H ∧ x = .int (lo + i), fun i _ => n ≤ i⟩
theorem turn_list {P : Program} {w : World} {K : PySem.W.Frag} {tg : Expr} (a it : Addr) : Turn P w K tg (Itl K a) [it] it (fun i h => h.IsListIter it a i) where
  mem := by simp
  obj := fun i h st b hb => by
    have e : b = it := by simpa using hb
    subst e
    obtain ⟨o, e, c, d⟩ := st
    exact ⟨o, e, fun v z => by rw [d] at z; cases z⟩
  keep := fun i h h' st k => st.at fun o e => k it (by simp) o e
  item := by
    intro X hP hw hK hc i pins s σ H E I hf st hg
    subst hP hw hK
    obtain ⟨xs, x, hq, hx⟩ := hg
    obtain ⟨its, rv, p, hz⟩ := I.list hq
    obtain ⟨u, hu, ru⟩ := rv.get hx
    obtain ⟨f0, f1, f2, f3, f4, f5⟩ := hf it (by simp)
    refine wpAny_pyNext_list_item st p.isList (x := u) (by simpa using hu) fun h' st' sb => ?_
    have I1 : Inv X pins σ H { s with heap := h' } := I.turned (t' := s.toks) (fun b o hb e => (sb.2 b hb).trans e) f0 f1 f3 f4 f5
    obtain ⟨o, e, c, d⟩ := id st'
    exact ⟨u, rfl, go_of (s := { s with heap := h' }) e c d (by decide) ⟨x, H, I1, ru, ⟨rfl, fun ys hy => by rw [I.list_inj hy hq]; exact hx⟩, st', fun b hb => (hf b hb).1⟩⟩
  done := by
    intro X hP hw hK hc i pins s σ H E I hf st hg
    subst hP hw hK
    obtain ⟨xs, hq, hx⟩ := hg
    obtain ⟨its, rv, p, hz⟩ := I.list hq
    obtain ⟨f0, f1, f2, f3, f4, f5⟩ := hf it (by simp)
    have hl := rv.length
    exact wpAny_pyNext_list_end (I.ok.hd hc) st p.isList (by simp; omega) fun h' eb => ⟨rfl, I.turned (t' := s.toks) (fun b o hb e => eb b o hb e) f0 f1 f3 f4 f5⟩
  self := fun _ _ _ _ _ st h => wpAny_pyIter_listiter st h
theorem turn_tuple {P : Program} {w : World} {K : PySem.W.Frag} {tg : Expr} (a it : Addr) : Turn P w K tg (Itt K a) [it] it (fun i h => h.IsTupleIter it a i) where
  mem := by simp
  obj := fun i h st b hb => by
    have e : b = it := by simpa using hb
    subst e
    obtain ⟨o, e, c, d⟩ := st
    exact ⟨o, e, fun v z => by rw [d] at z; cases z⟩
  keep := fun i h h' st k => st.at fun o e => k it (by simp) o e
  item := by
    intro X hP hw hK hc i pins s σ H E I hf st hg
    subst hP hw hK
    obtain ⟨xs, x, hq, hx⟩ := hg
    obtain ⟨its, rv, p, hz⟩ := I.tuple hq
    obtain ⟨u, hu, ru⟩ := rv.get hx
    obtain ⟨f0, f1, f2, f3, f4, f5⟩ := hf it (by simp)
    refine wpAny_pyNext_tuple_item st (show s.heap.IsTuple a its.toArray from p) (x := u) (by simpa using hu) fun h' st' sb => ?_
    have I1 : Inv X pins σ H { s with heap := h' } := I.turned (t' := s.toks) (fun b o hb e => (sb.2 b hb).trans e) f0 f1 f3 f4 f5
    obtain ⟨o, e, c, d⟩ := id st'
    exact ⟨u, rfl, go_of (s := { s with heap := h' }) e c d (by decide) ⟨x, H, I1, ru, ⟨rfl, fun ys hy => by rw [I.tuple_inj hy hq]; exact hx⟩, st', fun b hb => (hf b hb).1⟩⟩
  done := by
    intro X hP hw hK hc i pins s σ H E I hf st hg
    subst hP hw hK
    obtain ⟨xs, hq, hx⟩ := hg
    obtain ⟨its, rv, p, hz⟩ := I.tuple hq
    obtain ⟨f0, f1, f2, f3, f4, f5⟩ := hf it (by simp)
    have hl := rv.length
    exact wpAny_pyNext_tuple_end (I.ok.hd hc) st (show s.heap.IsTuple a its.toArray from p) (by simp; omega) fun h' eb => ⟨rfl, I.turned (t' := s.toks) (fun b o hb e => eb b o hb e) f0 f1 f3 f4 f5⟩
  self := fun _ _ _ _ _ st h => wpAny_pyIter_tupleiter st h
theorem turn_range {P : Program} {w : World} {K : PySem.W.Frag} {tg : Expr} (it : Addr) (lo : Int) (n : Nat) : Turn P w K tg (Itr lo n) [it] it (fun i h => IsRangeIter h it (lo + (i : Nat) * 1) ((n : Int) - (i : Nat)) 1) where
  mem := by simp
  obj := fun i h st b hb => by
    have e : b = it := by simpa using hb
    subst e
    exact ⟨_, st, fun v z => by
      have z' : Data.fields _ = Data.cell v := z
      cases z'⟩
  keep := fun i h h' st k => k it (by simp) _ st
  item := by
    intro X hP hw hK hc i pins s σ H E I hf st hg
    subst hP hw hK
    obtain ⟨f0, f1, f2, f3, f4, f5⟩ := hf it (by simp)
    have W := Walks.range (prog := X.prog) (w := X.w) (I.ok.hd hc) it lo 1 n
    refine W.item i s _ _ hg st fun v h' tk hv st' kk => ?_
    obtain ⟨t, rfl⟩ := hv
    have I1 : Inv X pins σ H { s with heap := h', toks := tk } := I.turned (fun b o hb e => kk b o (by simpa using hb) e) f0 f1 f3 f4 f5
    refine ⟨_, rfl, go_of (s := { s with heap := h', toks := tk }) (n := "range_iterator") st' rfl rfl (by decide) ⟨.int (lo + i), H, I1, ⟨t, ?_⟩, ⟨rfl, rfl⟩, st', fun b hb => (hf b hb).1⟩⟩
    rw [Int.mul_one]
  done := by
    intro X hP hw hK hc i pins s σ H E I hf st hg
    subst hP hw hK
    obtain ⟨f0, f1, f2, f3, f4, f5⟩ := hf it (by simp)
    exact wpAny_pyNext_range_end (I.ok.hd hc) st (by have : n ≤ i := hg; omega) fun h' eb => ⟨rfl, I.turned (t' := s.toks) (fun b o hb e => eb b o hb e) f0 f1 f3 f4 f5⟩
  self := fun _ _ _ _ _ st h => wpAny_pyIter_rangeiter st h
end L2
namespace L2
open PySem PySem.Spec PyProof.Rows
section
variable {X : Cx} {tg : Expr}
def iList (K : PySem.W.Frag) (tl : TE) : TI := fun σ H R => tl σ H fun x H1 => ∃ a, x = .ref a ∧ (∃ xs, SqL K H1 a xs) ∧ R (Itl K a) H1
def iTup (K : PySem.W.Frag) (tl : TE) : TI := fun σ H R => tl σ H fun x H1 => ∃ a, x = .ref a ∧ (∃ xs, SqT K H1 a xs) ∧ R (Itt K a) H1
theorem pi_list {l : Expr} {tl : TE} (hl : PE X l tl) : PI X tg l (iList X.K tl) := by
  intro pins s σ H R I h
  refine thn (hl pins s σ H _ I h) fun v s1 ⟨x, H1, I1, r1, q1⟩ => ?_
  obtain ⟨a, e, ⟨xs, hq⟩, q⟩ := q1
  subst e
  cases r1
  obtain ⟨its, rv, p, hz⟩ := I1.list hq
  refine wpAny_pyIter_list p.isList ?_
  refine ⟨s1.heap.objs.size, [s1.heap.objs.size], _, _, H1, rfl, I1.kept (t' := s1.toks) fun b o e => Heap.get?_push_of_some _ e, turn_list a _, ⟨_, Heap.get?_push_size _ rfl, rfl, rfl⟩, fun b hb => ?_, q⟩
  have e : b = s1.heap.objs.size := by simpa using hb
  subst e
  exact I1.fpOk (Nat.le_refl _) (I1.hok.fresh (Nat.le_refl _))
theorem pi_tup {l : Expr} {tl : TE} (hl : PE X l tl) : PI X tg l (iTup X.K tl) := by
  intro pins s σ H R I h
  refine thn (hl pins s σ H _ I h) fun v s1 ⟨x, H1, I1, r1, q1⟩ => ?_
  obtain ⟨a, e, ⟨xs, hq⟩, q⟩ := q1
  subst e
  cases r1
  obtain ⟨its, rv, p, hz⟩ := I1.tuple hq
  refine wpAny_pyIter_tuple (show s1.heap.IsTuple a its.toArray from p) ?_
  refine ⟨s1.heap.objs.size, [s1.heap.objs.size], _, _, H1, rfl, I1.kept (t' := s1.toks) fun b o e => Heap.get?_push_of_some _ e, turn_tuple a _, ⟨_, Heap.get?_push_size _ rfl, rfl, rfl⟩, fun b hb => ?_, q⟩
  have e : b = s1.heap.objs.size := by simpa using hb
  subst e
  exact I1.fpOk (Nat.le_refl _) (I1.hok.fresh (Nat.le_refl _))
theorem range_it {pins : List (Addr × Obj)} {σ : St} {H : Hp} {s : Shared} {R : It → Hp → Prop} {E : Value → Shared → Prop} {lo hi : Int} {t u v : Tok} {tk : Nat} (I : Inv X pins σ H s) (h1 : -(2 ^ 62) ≤ lo) (h2 : lo < 2 ^ 62) (h3 : -(2 ^ 62) ≤ hi) (h4 : hi < 2 ^ 62)
    (q : R (Itr lo (hi - lo).toNat) H) : wpAny (model X.prog X.w) X.A (pyIter (.ref s.heap.objs.size)) (PIE X pins σ tg R) E { s with heap := s.heap.push { cls := .type "range", data := .fields #[.int lo t, .int hi u, .int 1 v] }, toks := tk } := by
  refine wpAny_pyIter_range (IsRange.new ..) (small_one h1 h2 h3 h4) ?_
  have I1 : Inv X pins σ H { s with heap := s.heap.push { cls := .type "range", data := .fields #[.int lo t, .int hi u, .int 1 v] }, toks := tk } := I.kept fun b o e => Heap.get?_push_of_some _ e
  refine ⟨(s.heap.push { cls := .type "range", data := .fields #[.int lo t, .int hi u, .int 1 v] }).objs.size, [(s.heap.push { cls := .type "range", data := .fields #[.int lo t, .int hi u, .int 1 v] }).objs.size], _, _, H, rfl,
    I1.kept (t' := tk) fun b o e => Heap.get?_push_of_some _ e, turn_range _ lo (hi - lo).toNat, ?_, fun b hb => ?_, q⟩
  · have e1 : lo + ((0 : Nat) : Int) * 1 = lo := by simp
    have e2 : (((hi - lo).toNat : Nat) : Int) - ((0 : Nat) : Int) = Builtin.Range.rangeSize lo hi 1 := by rw [rangeSize_one]; split <;> omega
    show IsRangeIter _ _ (lo + ((0 : Nat) : Int) * 1) ((((hi - lo).toNat : Nat) : Int) - ((0 : Nat) : Int)) 1
    rw [e1, e2]
    exact Heap.get?_push_size _ rfl
  · have e : b = (s.heap.push { cls := .type "range", data := .fields #[.int lo t, .int hi u, .int 1 v] }).objs.size := by simpa using hb
    subst e
    exact I1.fpOk (Nat.le_refl _) (I1.hok.fresh (Nat.le_refl _))
def iRng1 (ta : TA) : TI := fun σ H R => ta σ H fun vs H1 => ∃ j : Int, vs = [.int j] ∧ -(2 ^ 62) ≤ j ∧ j < 2 ^ 62 ∧ R (Itr 0 j.toNat) H1
theorem pi_range1 {a : Expr} {ta : TA} {p pos : Pos} (hg : Gl X "range") (hm : X.mg "range" = none) (ha : PA X [a] ta) (hs : starEach [a] X.env = [(false, eval a X.env)] := by rfl) : PI X tg (.Call (.Name "range" p) [a] [] pos) (iRng1 ta) := by
  intro pins s σ H R I h
  refine Call_ (ld_blt I hg hm boot_range (PyProof.Rows.callWith_type1 (thn (ha pos pins s σ H _ I h) fun us s1 ⟨vs, H1, I1, r1, q1⟩ => ?_) hs rfl))
  obtain ⟨j, e, q1, q2, q⟩ := q1
  subst e
  cases r1 with
  | cons r rr =>
    cases rr
    obtain ⟨t, rfl⟩ := r
    exact call_range_1 (range_it I1 (by omega) (by omega) q1 q2 (by simpa using q))
def tFor (wi : TI) (g : TG) (tb : TS) : TS := fun D σ H => wi σ H fun J H1 => ∃ W : Nat → Nat → St → Hp → Prop, (∃ m, W 0 m σ H1) ∧ ∀ i m σ H, W i m σ H →
  (J.stop i H ∧ D.nx σ H) ∨ (J.go i H ∧ ∃ N : St → Hp → Prop, (∀ σ' H', N σ' H' → ∃ m', m' < m ∧ W (i + 1) m' σ' H') ∧ ∀ x H', J.yld i H x H' → g x σ H' fun σ2 H2 => tb { D with nx := N, ct := N, bk := D.nx } σ2 H2)
def pinsAt (fp : List Addr) (h : Heap) : List (Addr × Obj) := fp.filterMap fun b => (h.get? b).map fun o => (b, o)
theorem mem_pinsAt {fp : List Addr} {h : Heap} {b : Addr} {o : Obj} (hb : b ∈ fp) (e : h.get? b = some o) : (b, o) ∈ pinsAt fp h := List.mem_filterMap.mpr ⟨b, hb, by rw [e]; rfl⟩
theorem of_pinsAt {fp : List Addr} {h : Heap} {p : Addr × Obj} (hp : p ∈ pinsAt fp h) : p.1 ∈ fp ∧ h.get? p.1 = some p.2 := by
  obtain ⟨b, hb, e⟩ := List.mem_filterMap.mp hp
  cases q : h.get? b with
  | none => rw [q] at e; cases e
  | some o =>
    rw [q] at e
    have e' : (b, o) = p := Option.some.inj e
    subst e'
    exact ⟨hb, q⟩
theorem Inv.pinned {pins : List (Addr × Obj)} {σ : St} {H : Hp} {s : Shared} {fp : List Addr} (I : Inv X pins σ H s) (hf : ∀ b ∈ fp, FpOk X pins H b) (ho : ∀ b ∈ fp, ∃ o, s.heap.get? b = some o ∧ ∀ v, o.data ≠ .cell v) : Inv X (pins ++ pinsAt fp s.heap) σ H s :=
  I.pins_of fun p hp => (List.mem_append.mp hp).elim (fun z => I.pin p (List.mem_append_right _ z)) fun z => by
    obtain ⟨hb, e⟩ := of_pinsAt z
    obtain ⟨f0, f1, f2, _⟩ := hf p.1 hb
    obtain ⟨o, e', d⟩ := ho p.1 hb
    rw [e] at e'; cases e'
    exact ⟨e, f0, f1, f2, d⟩
theorem Inv.unpinned {pins pl : List (Addr × Obj)} {σ : St} {H : Hp} {s : Shared} (I : Inv X (pins ++ pl) σ H s) : Inv X pins σ H s := I.pins_of fun p hp => I.pin p (List.mem_append_right _ (List.mem_append_left _ hp))
theorem ps_for {iter : Expr} {body : List Stmt} {wi : TI} {g : TG} {tb : TS} {pos : Pos} (hp : PassesOwn (model X.prog X.w) X.A X.env X.xe) (hc : X.calm = true) (hi : PI X tg iter wi) (hg : PG X tg g) (hb : PSs X body tb)
    (hs : ∀ x, foldedSetIterable iter X.env x = pure x := by intro _; rfl) : PS X (.For tg iter body [] pos) (tFor wi g tb) := by
  intro pins s σ H D I h
  refine wpAny_For (thn (hi pins s σ H _ I h) fun v s1 h1 => thn h1 fun itv s2 h2 => ?_) hs
  obtain ⟨it, fp, tn, J, H2, e, I2, T, st2, f2, W, ⟨m0, w0⟩, turn⟩ := h2
  subst e
  -- what stays true of the iterator's objects through the loop
  have stat : ∀ {H' : Hp}, (∀ b ∈ fp, H' b = none) → ∀ b ∈ fp, FpOk X pins H' b := fun hn b hb => ⟨hn b hb, (f2 b hb).2⟩
  refine codeAny_forLoop_any (fun n s' => ∃ i σ' H', Inv X pins σ' H' s' ∧ tn i s'.heap ∧ (∀ b ∈ fp, H' b = none) ∧ W i n σ' H') ?_ m0 ⟨0, σ, H2, I2, st2, fun b hb => (f2 b hb).1, w0⟩
  rintro n s3 ⟨i, σ3, H3, I3, st3, fr3, w3⟩
  rcases turn i n σ3 H3 w3 with ⟨stop, qn⟩ | ⟨go, N, hN, step⟩
  · refine wpAny_passesOwn hp (thn (T.done X rfl rfl rfl hc i pins s3 σ3 H3 X.xe I3 (stat fr3) st3 stop) fun r s4 ⟨hr, I4⟩ => ?_)
    subst hr
    exact wpAny_execs_nil ⟨σ3, H3, I4, qn⟩
  · refine wpAny_passesOwn hp (thn (T.item X rfl rfl rfl hc i pins s3 σ3 H3 X.xe I3 (stat fr3) st3 go) fun r s4 ⟨u, hr, h4⟩ => ?_)
    subst hr
    refine wpAny_passesOwn hp (thn h4 fun _ s5 ⟨x, H5, I5, r5, y5, st5, fr5⟩ => ?_)
    have I5' := I5.pinned (stat fr5) (T.obj _ _ st5)
    refine wpAny_passesOwn hp (thn (hg _ s5 σ3 H5 x u _ I5' r5 (step x H5 y5)) fun _ s6 ⟨σ6, H6, I6, q6⟩ => ?_)
    refine wpAny_passesOwn hp (thn (hb _ s6 σ6 H6 _ I6 q6) fun f s7 q7 => ?_)
    have again : ∀ {σ7 : St} {H7 : Hp}, Inv X (pins ++ pinsAt fp s5.heap) σ7 H7 s7 → N σ7 H7 → ∃ m, m < n ∧ ∃ i σ' H', Inv X pins σ' H' s7 ∧ tn i s7.heap ∧ (∀ b ∈ fp, H' b = none) ∧ W i m σ' H' := fun {σ7 H7} I7 n7 => by
      obtain ⟨m', hm, w7⟩ := hN σ7 H7 n7
      refine ⟨m', hm, i + 1, σ7, H7, I7.unpinned, T.keep _ _ _ st5 fun b hb o e => (I7.pin (b, o) (List.mem_append_right _ (List.mem_append_right _ (mem_pinsAt hb e)))).1, fun b hb => ?_, w7⟩
      obtain ⟨o, e, d⟩ := T.obj _ _ st5 b hb
      exact (I7.pin (b, o) (List.mem_append_right _ (List.mem_append_right _ (mem_pinsAt hb e)))).2.1
    cases f with
    | next => obtain ⟨σ7, H7, I7, n7⟩ := q7; exact again I7 n7
    | cont => obtain ⟨σ7, H7, I7, n7⟩ := q7; exact again I7 n7
    | brk => obtain ⟨σ7, H7, I7, q7⟩ := q7; exact ⟨σ7, H7, I7.unpinned, q7⟩
    | ret v => obtain ⟨x7, σ7, H7, I7, r7, q7⟩ := q7; exact ⟨x7, σ7, H7, I7.unpinned, r7, q7⟩
end
theorem for_list {K : PySem.W.Frag} {a : Addr} {xs : List V} {g : TG} {tb : TS} {D : Ends} {σ : St} {H : Hp} (Pv : Nat → St → Hp → Prop) (h0 : Pv 0 σ H) (hl : ∀ i σ H, i ≤ xs.length → Pv i σ H → SqL K H a xs)
    (hs : ∀ i x σ H, xs[i]? = some x → Pv i σ H → g x σ H fun σ2 H2 => tb { D with nx := Pv (i + 1), ct := Pv (i + 1), bk := D.nx } σ2 H2) (hd : ∀ σ H, Pv xs.length σ H → D.nx σ H) :
    ∃ W : Nat → Nat → St → Hp → Prop, (∃ m, W 0 m σ H) ∧ ∀ i m σ H, W i m σ H →
      ((Itl K a).stop i H ∧ D.nx σ H) ∨ ((Itl K a).go i H ∧ ∃ N : St → Hp → Prop, (∀ σ' H', N σ' H' → ∃ m', m' < m ∧ W (i + 1) m' σ' H') ∧ ∀ x H', (Itl K a).yld i H x H' → g x σ H' fun σ2 H2 => tb { D with nx := N, ct := N, bk := D.nx } σ2 H2) := by
  refine ⟨fun i m σ H => m = xs.length - i ∧ i ≤ xs.length ∧ Pv i σ H, ⟨xs.length, by simp, Nat.zero_le _, h0⟩, ?_⟩
  rintro i m σ H ⟨rfl, hi, p⟩
  have q := hl i σ H hi p
  by_cases hlt : i < xs.length
  · refine .inr ⟨⟨xs, xs[i], q, by simp [hlt]⟩, Pv (i + 1), fun σ' H' p' => ⟨xs.length - (i + 1), by omega, rfl, hlt, p'⟩, fun x H' y => ?_⟩
    obtain ⟨e, y⟩ := y
    subst e
    exact hs i x σ _ (y xs q) p
  · have e : i = xs.length := by omega
    subst e
    exact .inl ⟨⟨xs, q, Nat.le_refl _⟩, hd σ H p⟩
theorem for_range {lo : Int} {n : Nat} {g : TG} {tb : TS} {D : Ends} {σ : St} {H : Hp} (Pv : Nat → St → Hp → Prop) (h0 : Pv 0 σ H)
    (hs : ∀ i σ H, i < n → Pv i σ H → g (.int (lo + i)) σ H fun σ2 H2 => tb { D with nx := Pv (i + 1), ct := Pv (i + 1), bk := D.nx } σ2 H2) (hd : ∀ σ H, Pv n σ H → D.nx σ H) :
    ∃ W : Nat → Nat → St → Hp → Prop, (∃ m, W 0 m σ H) ∧ ∀ i m σ H, W i m σ H →
      ((Itr lo n).stop i H ∧ D.nx σ H) ∨ ((Itr lo n).go i H ∧ ∃ N : St → Hp → Prop, (∀ σ' H', N σ' H' → ∃ m', m' < m ∧ W (i + 1) m' σ' H') ∧ ∀ x H', (Itr lo n).yld i H x H' → g x σ H' fun σ2 H2 => tb { D with nx := N, ct := N, bk := D.nx } σ2 H2) := by
  refine ⟨fun i m σ H => m = n - i ∧ i ≤ n ∧ Pv i σ H, ⟨n, by simp, Nat.zero_le _, h0⟩, ?_⟩
  rintro i m σ H ⟨rfl, hi, p⟩
  by_cases hlt : i < n
  · refine .inr ⟨hlt, Pv (i + 1), fun σ' H' p' => ⟨n - (i + 1), by omega, rfl, hlt, p'⟩, fun x H' y => ?_⟩
    obtain ⟨e, y⟩ := y
    subst e y
    exact hs i σ _ hlt p
  · have e : i = n := by omega
    subst e
    exact .inl ⟨Nat.le_refl _, hd σ H p⟩
end L2
namespace L2
open PySem PySem.Spec PyProof.Rows
abbrev R2 := V → V → Hp → VK → Prop
def OpR (X : Cx) (f : Value → Value → Sem Value) (r : R2) : Prop :=
  ∀ (pins : List (Addr × Obj)) (s : Shared) (σ : St) (H : Hp) (x y : V) (v u : Value) (Q : VK), Inv X pins σ H s → RelV x v → RelV y u → r x y H Q →
    wpAny (model X.prog X.w) X.A (f v u) (EP X pins σ Q) X.xe s
def UnR (X : Cx) (f : Value → Sem Value) (r : V → Hp → VK → Prop) : Prop :=
  ∀ (pins : List (Addr × Obj)) (s : Shared) (σ : St) (H : Hp) (x : V) (v : Value) (Q : VK), Inv X pins σ H s → RelV x v → r x H Q →
    wpAny (model X.prog X.w) X.A (f v) (EP X pins σ Q) X.xe s
def CallR (X : Cx) (f : Value) (r : List V → Hp → VK → Prop) : Prop :=
  ∀ (pins : List (Addr × Obj)) (s : Shared) (σ : St) (H : Hp) (xs : List V) (us : List Value) (Q : VK), Inv X pins σ H s → Vals xs us → r xs H Q →
    wpAny (model X.prog X.w) X.A (call f us) (EP X pins σ Q) X.xe s
def TruR (X : Cx) (r : V → Hp → (Bool → Hp → Prop) → Prop) : Prop :=
  ∀ (pins : List (Addr × Obj)) (s : Shared) (σ : St) (H : Hp) (x : V) (v : Value) (Q : Bool → Hp → Prop), Inv X pins σ H s → RelV x v → r x H Q →
    wpAny (model X.prog X.w) X.A (truthy v) (TP X pins σ Q) X.xe s
def tOp (r : R2) (ta tb : TE) : TE := fun σ H Q => ta σ H fun x H1 => tb σ H1 fun y H2 => r x y H2 Q
def tUn (r : V → Hp → VK → Prop) (ta : TE) : TE := fun σ H Q => ta σ H fun x H1 => r x H1 Q
def rI (C : Int → Int → Prop) (g : Int → Int → V) : R2 := fun x y H Q => ∃ i j, x = .int i ∧ y = .int j ∧ C i j ∧ Q (g i j) H
def rI0 (g : Int → Int → V) : R2 := fun x y H Q => ∃ i j, x = .int i ∧ y = .int j ∧ Q (g i j) H
def rU (g : Int → V) : V → Hp → VK → Prop := fun x H Q => ∃ i, x = .int i ∧ Q (g i) H
section
variable {X : Cx} {a b c : Expr} {ta tb tc : TE} {pos : Pos}
theorem binT (ha : PE X a ta) (hb : PE X b tb) {pins : List (Addr × Obj)} {s : Shared} {σ : St} {H : Hp} {R : V → V → Hp → Prop} (I : Inv X pins σ H s)
    (h : ta σ H fun x H1 => tb σ H1 fun y H2 => R x y H2) {Q : Value → Shared → Prop} {f : Value → Value → Sem Value}
    (hf : ∀ v u s2 x y H2, Inv X pins σ H2 s2 → RelV x v → RelV y u → R x y H2 → wpAny (model X.prog X.w) X.A (f v u) Q X.xe s2) :
    wpAny (model X.prog X.w) X.A (eval a X.env) (fun v s₁ => wpAny (model X.prog X.w) X.A (eval b X.env) (fun u s₂ => wpAny (model X.prog X.w) X.A (f v u) Q X.xe s₂) X.xe s₁) X.xe s := by
  refine thn (ha pins s σ H _ I h) fun v s1 ⟨x, H1, I1, r1, q1⟩ => ?_
  refine thn (hb pins s1 σ H1 _ I1 q1) fun u s2 ⟨y, H2, I2, r2, q2⟩ => ?_
  exact hf v u s2 x y H2 I2 r1 r2 q2
theorem pe_op {op : Operator} {r : R2} (ho : OpR X (binaryOp op) r) (ha : PE X a ta) (hb : PE X b tb) : PE X (.BinOp a op b pos) (tOp r ta tb) := by
  intro pins s σ H Q I h
  exact wpAny_BinOp (binT ha hb I h fun v u s2 x y H2 I2 rx ry q => ho pins s2 σ H2 x y v u Q I2 rx ry q)
theorem pe_un {op : UnaryOp} {r : V → Hp → VK → Prop} (ho : UnR X (unaryOp op) r) (ha : PE X a ta) : PE X (.UnaryOp op a pos) (tUn r ta) := by
  intro pins s σ H Q I h
  exact UnaryOp_ (thn (ha pins s σ H _ I h) fun v s1 ⟨x, H1, I1, r1, q1⟩ => ho pins s1 σ H1 x v Q I1 r1 q1)
theorem opI {f : Value → Value → Sem Value} {C : Int → Int → Prop} {g : Int → Int → Int}
    (rule : ∀ (i j : Int) (t u : Tok) (s : Shared) (Q : Value → Shared → Prop) (E : Value → Shared → Prop), C i j → Q (.int (g i j) s.toks) { s with toks := s.toks + 1 } → wpAny (model X.prog X.w) X.A (f (.int i t) (.int j u)) Q E s) :
    OpR X f (rI C fun i j => .int (g i j)) := by
  intro pins s σ H x y v u Q I rx ry h
  obtain ⟨i, j, rfl, rfl, hc, q⟩ := h
  obtain ⟨t, rfl⟩ := rx
  obtain ⟨t', rfl⟩ := ry
  exact rule i j t t' s _ _ hc ⟨.int (g i j), H, I.tok _, ⟨_, rfl⟩, q⟩
theorem opI0 {f : Value → Value → Sem Value} {g : Int → Int → Int}
    (rule : ∀ (i j : Int) (t u : Tok) (s : Shared) (Q : Value → Shared → Prop) (E : Value → Shared → Prop), Q (.int (g i j) s.toks) { s with toks := s.toks + 1 } → wpAny (model X.prog X.w) X.A (f (.int i t) (.int j u)) Q E s) :
    OpR X f (rI0 fun i j => .int (g i j)) := by
  intro pins s σ H x y v u Q I rx ry h
  obtain ⟨i, j, rfl, rfl, q⟩ := h
  obtain ⟨t, rfl⟩ := rx
  obtain ⟨t', rfl⟩ := ry
  exact rule i j t t' s _ _ ⟨.int (g i j), H, I.tok _, ⟨_, rfl⟩, q⟩
theorem opB0 {f : Value → Value → Sem Value} {g : Int → Int → Bool}
    (rule : ∀ (i j : Int) (t u : Tok) (s : Shared) (Q : Value → Shared → Prop) (E : Value → Shared → Prop), Q (.bool (g i j)) s → wpAny (model X.prog X.w) X.A (f (.int i t) (.int j u)) Q E s) :
    OpR X f (rI0 fun i j => .bl (g i j)) := by
  intro pins s σ H x y v u Q I rx ry h
  obtain ⟨i, j, rfl, rfl, q⟩ := h
  obtain ⟨t, rfl⟩ := rx
  obtain ⟨t', rfl⟩ := ry
  exact rule i j t t' s _ _ ⟨.bl (g i j), H, I, rfl, q⟩
def CDiv (i j : Int) : Prop := 0 < j ∧ j < 1073741824
def CPow (i j : Int) : Prop := 0 ≤ j ∧ j ≤ 1000000 ∧ i.natAbs < 2 ^ 64
def CMul (i j : Int) : Prop := (-(2 ^ 64) < i ∧ i < 2 ^ 64) ∨ (-(2 ^ 64) < j ∧ j < 2 ^ 64)
theorem CMul.ok {i j : Int} (h : CMul i j) : IntMulOk i j := by
  rcases h with ⟨h1, h2⟩ | ⟨h1, h2⟩
  · exact .of_left (intBits_le_64 h1 h2)
  · exact .of_right (intBits_le_64 h1 h2)
theorem two_pow_nn (k : Nat) : (0 : Int) ≤ 2 ^ k := by
  rw [two_pow_cast]
  exact Int.natCast_nonneg _
theorem op_add : OpR X (binaryOp .Add) (rI0 fun i j => .int (i + j)) := opI0 fun _ _ _ _ _ _ _ q => add_int q
theorem op_sub : OpR X (binaryOp .Sub) (rI0 fun i j => .int (i - j)) := opI0 fun _ _ _ _ _ _ _ q => sub_int q
theorem op_mul : OpR X (binaryOp .Mult) (rI CMul fun i j => .int (i * j)) := opI fun _ _ _ _ _ _ _ hc q => mul_int q hc.ok
theorem op_fdiv : OpR X (binaryOp .FloorDiv) (rI CDiv fun i j => .int (i / j)) := opI fun i j _ _ _ _ _ hc q => by
  have h1 : (0 : Int) < j := hc.1
  have h2 : j < 1073741824 := hc.2
  exact floordiv_int (by omega) (by rw [Int.fdiv_eq_ediv_of_nonneg i (by omega)]; exact q) (.inl (PyProof.noPylong_small (by omega)))
theorem op_mod : OpR X (binaryOp .Mod) (rI (fun _ j => 0 < j) fun i j => .int (i % j)) := opI fun i j _ _ _ _ _ hc q => by
  have h1 : (0 : Int) < j := hc
  exact mod_int' (by omega) (by rw [Int.fmod_eq_emod_of_nonneg i (by omega)]; exact q)
theorem op_pow : OpR X (binaryOp .Pow) (rI CPow fun i j => .int (i ^ j.toNat)) := opI fun _ _ _ _ _ _ _ hc q => pow_int_small hc.1 hc.2.1 hc.2.2 q
theorem op_shr : OpR X (binaryOp .RShift) (rI (fun _ j => 0 ≤ j) fun i j => .int (i / 2 ^ j.toNat)) := opI fun i j _ _ _ _ _ hc q =>
  rshift_int hc (by rw [Int.fdiv_eq_ediv_of_nonneg i (two_pow_nn _)]; exact q)
theorem op_and : OpR X (binaryOp .BitAnd) (rI0 fun i j => .int (Builtin.bitAnd i j)) := opI0 fun _ _ _ _ _ _ _ q => and_int q
theorem unI {f : Value → Sem Value} {g : Int → Int}
    (rule : ∀ (i : Int) (t : Tok) (s : Shared) (Q : Value → Shared → Prop) (E : Value → Shared → Prop), Q (.int (g i) s.toks) { s with toks := s.toks + 1 } → wpAny (model X.prog X.w) X.A (f (.int i t)) Q E s) :
    UnR X f (rU fun i => .int (g i)) := by
  intro pins s σ H x v Q I rx h
  obtain ⟨i, rfl, q⟩ := h
  obtain ⟨t, rfl⟩ := rx
  exact rule i t s _ _ ⟨.int (g i), H, I.tok _, ⟨_, rfl⟩, q⟩
theorem un_neg : UnR X (unaryOp .USub) (rU fun i => .int (-i)) := unI fun _ _ _ _ _ q => neg_int q
end
def scal : V → V → Bool
  | .non, .non => true | .non, .int _ => true | .int _, .non => true | .non, .bl _ => true | .bl _, .non => true | .non, .str _ => true | .str _, .non => true
  | .int _, .int _ => true | .bl _, .bl _ => true | .str _, .str _ => true | .byt _, .byt _ => true
  | .int _, .str _ => true | .str _, .int _ => true | .bl _, .str _ => true | .str _, .bl _ => true
  | _, _ => false
def rEq : R2 := fun x y H Q => scal x y = true ∧ Q (.bl (decide (x = y))) H
def rNe : R2 := fun x y H Q => scal x y = true ∧ Q (.bl (!decide (x = y))) H
theorem dec_int {i j : Int} : decide (V.int i = V.int j) = (i == j) := by
  rw [Bool.eq_iff_iff]
  simp
theorem dec_bl {i j : Bool} : decide (V.bl i = V.bl j) = (i == j) := by
  rw [Bool.eq_iff_iff]
  simp
theorem dec_str {i j : Str} : decide (V.str i = V.str j) = (i == j) := by
  rw [Bool.eq_iff_iff]
  simp
theorem dec_byt {i j : Array UInt8} : decide (V.byt i = V.byt j) = (i.toList == j.toList) := by
  rw [Bool.eq_iff_iff]
  cases i
  cases j
  simp
section
variable {X : Cx} {a b c : Expr} {ta tb tc : TE} {pos : Pos}
theorem fin_bl {pins : List (Addr × Obj)} {σ : St} {H : Hp} {s : Shared} {Q : VK} {k k' : Bool} (I : Inv X pins σ H s) (q : Q (.bl k) H) (e : k = k') : EP X pins σ Q (.bool k') s := by
  subst e
  exact ⟨.bl k, H, I, rfl, q⟩
theorem op_eq : OpR X (compareOp .Eq) rEq := by
  intro pins s σ H x y v u Q I rx ry h
  obtain ⟨hs, q⟩ := h
  cases x with
  | non =>
    cases rx
    cases y with
    | non => cases ry; exact PySem.EqNone.eq_none_none (fin_bl I q (by simp))
    | bl j => cases ry; exact PySem.EqNone.eq_none_bool (fin_bl I q (by simp))
    | int j => obtain ⟨t', rfl⟩ := ry; exact PySem.EqNone.eq_none_int (fin_bl I q (by simp))
    | str j => obtain ⟨t', rfl⟩ := ry; exact PySem.EqNone.eq_none_str (fin_bl I q (by simp))
    | _ => exact absurd (show false = true from hs) Bool.false_ne_true
  | bl i =>
    cases rx
    cases y with
    | non => cases ry; exact PySem.EqNone.eq_bool_none (fin_bl I q (by simp))
    | bl j => cases ry; exact eq_bool (fin_bl I q dec_bl)
    | str j => obtain ⟨t', rfl⟩ := ry; exact PySem.EqMixed.eq_bool_str (fin_bl I q (by simp))
    | _ => exact absurd (show false = true from hs) Bool.false_ne_true
  | int i =>
    obtain ⟨t, rfl⟩ := rx
    cases y with
    | non => cases ry; exact PySem.EqNone.eq_int_none (fin_bl I q (by simp))
    | int j => obtain ⟨t', rfl⟩ := ry; exact eq_int (fin_bl I q dec_int)
    | str j => obtain ⟨t', rfl⟩ := ry; exact PySem.EqMixed.eq_int_str (fin_bl I q (by simp))
    | _ => exact absurd (show false = true from hs) Bool.false_ne_true
  | str i =>
    obtain ⟨t, rfl⟩ := rx
    cases y with
    | non => cases ry; exact PySem.EqNone.eq_str_none (fin_bl I q (by simp))
    | bl j => cases ry; exact PySem.EqMixed.eq_str_bool (fin_bl I q (by simp))
    | int j => obtain ⟨t', rfl⟩ := ry; exact PySem.EqMixed.eq_str_int (fin_bl I q (by simp))
    | str j => obtain ⟨t', rfl⟩ := ry; exact eq_str (fin_bl I q dec_str)
    | _ => exact absurd (show false = true from hs) Bool.false_ne_true
  | byt i =>
    obtain ⟨t, rfl⟩ := rx
    cases y with
    | byt j => obtain ⟨t', rfl⟩ := ry; exact PySem.W.eq_bytes (fin_bl I q dec_byt)
    | _ => exact absurd (show false = true from hs) Bool.false_ne_true
  | _ => cases y <;> exact absurd (show false = true from hs) Bool.false_ne_true
theorem op_ne : OpR X (compareOp .NotEq) rNe := by
  intro pins s σ H x y v u Q I rx ry h
  obtain ⟨hs, q⟩ := h
  cases x with
  | non =>
    cases rx
    cases y with
    | non => cases ry; exact PySem.EqNone.ne_none_none (fin_bl I q (by simp))
    | bl j => cases ry; exact PySem.EqNone.ne_none_bool (fin_bl I q (by simp))
    | int j => obtain ⟨t', rfl⟩ := ry; exact PySem.EqNone.ne_none_int (fin_bl I q (by simp))
    | str j => obtain ⟨t', rfl⟩ := ry; exact PySem.EqNone.ne_none_str (fin_bl I q (by simp))
    | _ => exact absurd (show false = true from hs) Bool.false_ne_true
  | bl i =>
    cases rx
    cases y with
    | non => cases ry; exact PySem.EqNone.ne_bool_none (fin_bl I q (by simp))
    | bl j => cases ry; exact ne_bool (fin_bl I q (congrArg not dec_bl))
    | str j => obtain ⟨t', rfl⟩ := ry; exact PySem.EqMixed.ne_bool_str (fin_bl I q (by simp))
    | _ => exact absurd (show false = true from hs) Bool.false_ne_true
  | int i =>
    obtain ⟨t, rfl⟩ := rx
    cases y with
    | non => cases ry; exact PySem.EqNone.ne_int_none (fin_bl I q (by simp))
    | int j => obtain ⟨t', rfl⟩ := ry; exact ne_int (fin_bl I q (congrArg not dec_int))
    | str j => obtain ⟨t', rfl⟩ := ry; exact PySem.EqMixed.ne_int_str (fin_bl I q (by simp))
    | _ => exact absurd (show false = true from hs) Bool.false_ne_true
  | str i =>
    obtain ⟨t, rfl⟩ := rx
    cases y with
    | non => cases ry; exact PySem.EqNone.ne_str_none (fin_bl I q (by simp))
    | bl j => cases ry; exact PySem.EqMixed.ne_str_bool (fin_bl I q (by simp))
    | int j => obtain ⟨t', rfl⟩ := ry; exact PySem.EqMixed.ne_str_int (fin_bl I q (by simp))
    | str j => obtain ⟨t', rfl⟩ := ry; exact ne_str (fin_bl I q (congrArg not dec_str))
    | _ => exact absurd (show false = true from hs) Bool.false_ne_true
  | byt i =>
    obtain ⟨t, rfl⟩ := rx
    cases y with
    | byt j => obtain ⟨t', rfl⟩ := ry; exact PySem.W.ne_bytes (fin_bl I q (congrArg not dec_byt))
    | _ => exact absurd (show false = true from hs) Bool.false_ne_true
  | _ => cases y <;> exact absurd (show false = true from hs) Bool.false_ne_true
theorem op_lt : OpR X (compareOp .Lt) (rI0 fun i j => .bl (decide (i < j))) := opB0 fun _ _ _ _ _ _ _ q => lt_int q
theorem op_gt : OpR X (compareOp .Gt) (rI0 fun i j => .bl (decide (j < i))) := opB0 fun _ _ _ _ _ _ _ q => gt_int q
theorem op_ge : OpR X (compareOp .GtE) (rI0 fun i j => .bl (decide (j ≤ i))) := opB0 fun _ _ _ _ _ _ _ q => ge_int q
theorem op_isN : OpR X (compareOp .Is) (fun x y H Q => y = .non ∧ Q (.bl (decide (x = .non))) H) := by
  intro pins s σ H x y v u Q I rx ry h
  obtain ⟨rfl, q⟩ := h
  cases ry
  refine is_none_gen (fin_bl I q ?_)
  cases x <;> first
    | (cases rx; rfl)
    | (obtain ⟨t, rfl⟩ := rx; rfl)
theorem op_notN : OpR X (compareOp .IsNot) (fun x y H Q => y = .non ∧ Q (.bl (!decide (x = .non))) H) := by
  intro pins s σ H x y v u Q I rx ry h
  obtain ⟨rfl, q⟩ := h
  cases ry
  refine isnot_none_gen (fin_bl I q ?_)
  cases x <;> first
    | (cases rx; rfl)
    | (obtain ⟨t, rfl⟩ := rx; rfl)
theorem nomark (b : Expr) {op : CmpOp} (h : op ≠ .In := by decide) (h2 : op ≠ .NotIn := by decide) : behindInMarks op b = false := by
  have e1 : (op == CmpOp.In) = false := by cases op <;> first | rfl | exact absurd rfl h
  have e2 : (op == CmpOp.NotIn) = false := by cases op <;> first | rfl | exact absurd rfl h2
  cases b <;> simp [behindInMarks, e1, e2]
theorem pe_cmpR {op : CmpOp} {r : R2} (ho : OpR X (compareOp op) r) (ha : PE X a ta) (hb : PE X b tb) (hm : behindInMarks op b = false) : PE X (.Compare a [op] [b] pos) (tOp r ta tb) := by
  intro pins s σ H Q I h
  exact wpAny_Compare1 (binT ha hb I h fun v u s2 x y H2 I2 rx ry q => ho pins s2 σ H2 x y v u Q I2 rx ry q) hm
def tTest (t : TE) : TT := fun σ H Q => t σ H fun x H' => ∃ k, x = .bl k ∧ Q k H'
theorem pt_cmpR {op : CmpOp} {r : R2} (ho : OpR X (compareOp op) r) (ha : PE X a ta) (hb : PE X b tb) (hm : behindInMarks op b = false) : PT X (.Compare a [op] [b] pos) (tTest (tOp r ta tb)) := by
  intro pins s σ H Q I h
  refine wpAny_isTrue_Compare1 (thn (ha pins s σ H _ I h) fun v s1 ⟨x, H1, I1, r1, q1⟩ => thn (hb pins s1 σ H1 _ I1 q1) fun u s2 ⟨y, H2, I2, r2, q2⟩ =>
    thn (ho pins s2 σ H2 x y v u _ I2 r1 r2 q2) fun c s3 ⟨z, H3, I3, r3, k, e, q3⟩ => ?_) hm
  subst e
  cases r3
  exact wpAny_truthy_bool ⟨H3, I3, q3⟩
def TruV (K : PySem.W.Frag) (x : V) (H : Hp) (k : Bool) : Prop :=
  match x with
  | .non => k = false
  | .bl b => k = b
  | .int i => k = (i != 0)
  | .str y => y.length ≤ sizeLine ∧ k = ((y.length : Int) != 0)
  | .byt y => y.size ≤ sizeLine ∧ k = ((y.size : Int) != 0)
  | .ref p => (∃ xs, SqL K H p xs ∧ k = !xs.isEmpty) ∨ (∃ xs, SqT K H p xs ∧ k = !xs.isEmpty) ∨ ∃ kvs, H p = some (.dK kvs) ∧ k = !kvs.isEmpty
  | _ => False
theorem isEmpty_kv {κ : Type} {kvs : List (κ × V)} {vs : List (κ × Value)} (r : KV kvs vs) : (!vs.isEmpty) = !kvs.isEmpty := by
  cases r <;> rfl
theorem isEmpty_of {xs : List V} {its : List Value} (r : Vals xs its) : (!its.toArray.isEmpty) = !xs.isEmpty := by
  cases r <;> simp
theorem line63 : (sizeLine : Nat) < 2 ^ 63 := by rw [sizeLine_eq]; decide
theorem tru_ok : TruR X (fun x H Q => ∃ k, TruV X.K x H k ∧ Q k H) := by
  intro pins s σ H x v Q I rx h
  obtain ⟨k, e, q⟩ := h
  have hl := line63
  have hs : sizeLine = 16777216 := sizeLine_eq
  cases x with
  | non =>
    cases rx
    have e' : k = false := e
    subst e'
    exact truthy_none ⟨H, I, q⟩
  | bl b =>
    cases rx
    have e' : k = b := e
    subst e'
    exact wpAny_truthy_bool ⟨H, I, q⟩
  | int i =>
    obtain ⟨t, rfl⟩ := rx
    have e' : k = (i != 0) := e
    subst e'
    exact PySem.P.truthy_int ⟨H, I, q⟩
  | str y =>
    obtain ⟨t, rfl⟩ := rx
    obtain ⟨hy, e'⟩ : y.length ≤ sizeLine ∧ k = ((y.length : Int) != 0) := e
    subst e'
    exact PySem.P.truthy_str (by omega) ⟨H, I.tok _, q⟩
  | byt y =>
    obtain ⟨t, rfl⟩ := rx
    obtain ⟨hy, e'⟩ : y.size ≤ sizeLine ∧ k = ((y.size : Int) != 0) := e
    subst e'
    exact PySem.W.truthy_bytes (by omega) ⟨H, I.tok _, q⟩
  | ref p =>
    cases rx
    have e' : (∃ xs, SqL X.K H p xs ∧ k = !xs.isEmpty) ∨ (∃ xs, SqT X.K H p xs ∧ k = !xs.isEmpty) ∨ ∃ kvs, H p = some (.dK kvs) ∧ k = !kvs.isEmpty := e
    rcases e' with ⟨xs, hx, e'⟩ | ⟨xs, hx, e'⟩ | ⟨kvs, hx, e'⟩
    · subst e'
      obtain ⟨its, r, pl, hz⟩ := I.list hx
      have hlen := r.length
      exact wpAny_truthy_list pl.isList (by simp only [List.size_toArray]; omega) ⟨H, I.tok _, by rw [isEmpty_of r]; exact q⟩
    · subst e'
      obtain ⟨its, r, pl, hz⟩ := I.tuple hx
      have hlen := r.length
      exact truthy_tuple pl (by simp only [List.size_toArray]; omega) ⟨H, I.tok _, by rw [isEmpty_of r]; exact q⟩
    · subst e'
      obtain ⟨hz, hS, vs, r, m⟩ : kvs.length ≤ sizeLine ∧ (p == sysModules) = false ∧ ∃ vs, KV kvs vs ∧ s.heap.DictOf (mixKind X.prog X.w) p vs := I.hok p _ hx
      have hlen : kvs.length = vs.length := Paired.length r
      exact wpAny_truthy_dict hS m (by omega) ⟨H, I.tok _, by rw [isEmpty_kv r]; exact q⟩
  | _ => exact (show False from e).elim
theorem pt_truth (ha : PE X a ta) (he : ∀ whole, isTrue a X.env whole = (do let v ← whole; standAt a.pos; holding [v] (truthy v))) :
    PT X a (fun σ H Q => ta σ H fun x H' => ∃ k, TruV X.K x H' k ∧ Q k H') := by
  intro pins s σ H Q I h
  exact isTrue_plain (thn (ha pins s σ H _ I h) fun v s1 ⟨x, H1, I1, r1, q1⟩ => tru_ok pins s1 σ H1 x v Q I1 r1 q1) (he _)
theorem vals1 {x : V} {us : List Value} (r : Vals [x] us) : ∃ u, us = [u] ∧ RelV x u := by
  cases r with
  | cons r1 r2 => cases r2; exact ⟨_, rfl, r1⟩
theorem vals2 {x y : V} {us : List Value} (r : Vals [x, y] us) : ∃ u w', us = [u, w'] ∧ RelV x u ∧ RelV y w' := by
  cases r with
  | cons r1 r2 =>
    cases r2 with
    | cons r3 r4 => cases r4; exact ⟨_, _, rfl, r1, r3⟩
theorem call_abs : CallR X (.builtin "abs") (fun xs H Q => ∃ i, xs = [.int i] ∧ Q (.int (if i < 0 then -i else i)) H) := by
  intro pins s σ H xs us Q I r h
  obtain ⟨i, rfl, q⟩ := h
  obtain ⟨u, rfl, t, rfl⟩ := vals1 r
  exact call_abs_int fun u tk => ⟨.int (if i < 0 then -i else i), H, I.tok _, ⟨_, rfl⟩, q⟩
theorem call_max2 (hc : X.calm = true) : CallR X (.builtin "max") (fun xs H Q => ∃ i j, xs = [.int i, .int j] ∧ Q (.int (if j > i then j else i)) H) := by
  intro pins s σ H xs us Q I r h
  obtain ⟨i, j, rfl, q⟩ := h
  obtain ⟨u, w', rfl, ⟨t, rfl⟩, ⟨t', rfl⟩⟩ := vals2 r
  refine max_two_ints (I.ok.hd hc) fun h' tk k => ⟨_, H, I.kept k, ?_, q⟩
  by_cases hj : j > i
  · rw [if_pos hj, if_pos hj]; exact ⟨_, rfl⟩
  · rw [if_neg hj, if_neg hj]; exact ⟨_, rfl⟩
theorem call_int1 : CallR X (.type "int") (fun xs H Q => (∃ i, xs = [.int i] ∧ Q (.int i) H) ∨ ∃ k, xs = [.bl k] ∧ Q (.int (if k then 1 else 0)) H) := by
  intro pins s σ H xs us Q I r h
  rcases h with ⟨i, rfl, q⟩ | ⟨k, rfl, q⟩
  · obtain ⟨u, rfl, t, rfl⟩ := vals1 r
    exact call_int_int ⟨.int i, H, I, ⟨_, rfl⟩, q⟩
  · obtain ⟨u, rfl, r1⟩ := vals1 r
    cases r1
    exact call_int_bool ⟨.int (if k then 1 else 0), H, I.tok _, ⟨_, rfl⟩, q⟩
end
end L2
namespace L2
open PySem PySem.Spec PyProof.Rows
structure ObjM (h : Heap) (x dx C : Addr) (mA : Str → Option Value) : Prop where
  obj : h.get? x = some (PySem.W.instObj C dx)
  ns : h.Ns1 dx mA
  ne : dx ≠ x
theorem lookIn_ns {h : Heap} {dx : Addr} {mA : Str → Option Value} (n : h.Ns1 dx mA) : ∃ od, h.get? dx = some od ∧ ∀ name, PySem.W.lookIn name od = some (mA name) := by
  obtain ⟨o, es, ep, ho, hd, hk, _, hm⟩ := n
  refine ⟨o, ho, fun name => ?_⟩
  have e := hm name
  unfold nsFind findBy at e
  rw [← Array.find?_toList] at e
  unfold PySem.W.lookIn
  rw [hd]
  dsimp only
  split
  · rename_i y q
    rw [q] at e
    exact congrArg some e
  · rename_i q
    rw [q] at e
    have a : es.toList.any (·.refKey) = false := by
      rw [List.any_eq_false]
      intro y hy
      obtain ⟨z, t, hkey⟩ := hk y (Array.mem_toList_iff.mp hy)
      simp [DictEntry.refKey, hkey]
    have a' : ¬ es.toList.any (·.refKey) = true := by rw [a]; exact Bool.false_ne_true
    rw [if_neg a']
    exact congrArg some e
theorem ObjM.look {h : Heap} {x dx C : Addr} {mA : Str → Option Value} (I : ObjM h x dx C mA) : ∃ od, PySem.W.InstAt h x (PySem.W.instObj C dx) C (some od) ∧ ∀ name, PySem.W.lookIn name od = some (mA name) :=
  let ⟨od, ho, hl⟩ := lookIn_ns I.ns
  ⟨od, ⟨I.obj, rfl, rfl, ho⟩, hl⟩
section
variable {prog : Program} {w : World} {A : Around} {E : Value → Shared → Prop} {s : Shared} {K : PySem.W.Frag} {x dx C f : Addr} {mA : Str → Option Value} {name : Str} {v : Value}
theorem get_map {expr : Bool} {Q : Value → Shared → Prop} (X : K.In s.heap) (I : ObjM s.heap x dx C mA) (hg : PySem.W.plainGet K C name = true) (hh : PySem.W.hasDictIn K C = true)
    (ha : PySem.W.findIn K (.ref C) name = some none) (hv : mA name = some v) (hv' : PySem.W.handedIn v = true) (h : Q v { s with toks := s.toks + 1 }) :
    wpAny (model prog w) A (getAttr (.ref x) name expr) Q E s := by
  obtain ⟨od, J, hl⟩ := I.look
  exact PySem.W.get_value X J (PySem.W.plainGet_of hg).1 (PySem.W.findObj_own hh ha rfl (by rw [hl, hv])) hv' h
theorem get_meth {pl : Sem Bool} {Q : Value × List Value → Shared → Prop} (X : K.In s.heap) (I : ObjM s.heap x dx C mA) (hg : PySem.W.plainGet K C name = true)
    (hf : PySem.W.findIn K (.ref C) name = some (some (.ref f))) (ht : PySem.W.isFn K (.ref f) = true) (hv : mA name = none) (h : Q (.ref f, [.ref x]) s) :
    wpAny (model prog w) A (getMethod (.ref x) name pl) Q E s := by
  obtain ⟨od, J, hl⟩ := I.look
  exact PySem.W.method_fn X J (PySem.W.plainGet_of hg).1 (PySem.W.plainGet_of hg).2 hf (beq_iff_eq.mp ht) (by show (PySem.W.lookIn name od).map (·.isSome) = some false; rw [hl, hv]; rfl) h
theorem set_map {ns : List Str} {Q : Unit → Shared → Prop} (X : K.In s.heap) (I : ObjM s.heap x dx C mA)
    (hs : PySem.W.findIn K (.ref C) "__setattr__" = some (some (.builtin "object.__setattr__"))) (hp : PySem.W.plainOver K C = true) (ht : PySem.W.takerIn K C name = some none) (hh : PySem.W.hasDictIn K C = true)
    (hw : PySem.Within mA ns) (hsz : ns.length ≤ sizeLine)
    (h : ∀ h', ObjM h' x dx C (fun y => if y = name then some v else mA y) → Heap.SameBut dx s.heap h' → Q () { s with heap := h', toks := s.toks + 2 }) :
    wpAny (model prog w) A (setAttr (.ref x) name v) Q E s := by
  obtain ⟨od, J, hl⟩ := I.look
  refine PySem.W.set_plain X J hs (PySem.W.osa_open (s := { s with toks := s.toks + 1 }) (r := none) X J hp ht fun b => ?_)
  obtain ⟨cd, hc, hd'⟩ := PySem.W.any_some hh
  have hx : s.heap.get? x = some ⟨.ref C, some dx, .plain, #[]⟩ := I.obj
  refine wpAny_bind (wpAny_pure (wpAny_bind (wpAny_bind (wpAny_loadPart hx (wpAny_bind (PySem.W.Looks.here (s := { s with toks := s.toks + 1 }) (PySem.W.looks_clsIn X hc) ?_))))))
  rw [hd']
  refine wpAny_pure (a := some dx) (wpAny_bind (wpAny_pure (wpAny_bind ?_)))
  refine wpAny_nsSet1 (s := { s with toks := s.toks + 1 }) I.ns fun h' hn2 hs2 => ?_
  obtain ⟨oD, esD, epD, hoD, hdD, hcD⟩ := hn2.count (PySem.Within.cons name v hw)
  refine wpAny_bind (wpAny_lookBehind hoD (by rw [hdD]; exact pastItsLine_dict (Nat.le_trans hcD (by rw [List.length_cons]; omega))) ?_)
  exact wpAny_pure (h _ ⟨(hs2.2 _ (Ne.symm I.ne)).trans I.obj, hn2, I.ne⟩ hs2)
theorem make_map {R : Result → Shared → Prop} {vs : List Value} {kw : List (Str × Value)} (X : K.In s.heap) (hm : PySem.W.makesIn K C = true)
    (hi : PySem.W.findIn K (.ref C) "__init__" = some (some (.ref f))) (hf : PySem.W.typeIn K (.ref f) = some (.type "function"))
    (h : codeAny (model prog w) (A.under (.builtin "type.__call__" ⟨.ref C :: vs, kw⟩)) (.call (.ref f) ⟨.ref (s.heap.objs.size + 1) :: vs, kw⟩) (PySem.W.InitBack (s.heap.objs.size + 1) R)
      { s with heap := (s.heap.push PySem.W.emptyDict).push (PySem.W.instObj C s.heap.objs.size) }) :
    codeAny (model prog w) A (.call (.ref C) ⟨vs, kw⟩) R s := by
  obtain ⟨hh, g, d, t, os⟩ := s
  exact PySem.W.make_core (PySem.W.makes_of X hm) (PySem.W.looks_findIn X hi) (fun self => PySem.W.bind_fn X self hf) (.inl rfl) h
end
def putF (f : Str) (v : V) : List (Str × V) → List (Str × V)
  | [] => [(f, v)]
  | (g, x) :: r => if g = f then (g, v) :: r else (g, x) :: putF f v r
theorem lookup_putF (f g : Str) (v : V) : ∀ fs : List (Str × V), (putF f v fs).lookup g = if g = f then some v else fs.lookup g
  | [] => by
    show List.lookup g [(f, v)] = _
    by_cases h : g = f
    · have hb : (g == f) = true := beq_iff_eq.mpr h
      simp only [List.lookup, hb, if_pos h]
    · have hb : (g == f) = false := beq_eq_false_iff_ne.mpr h
      simp only [List.lookup, hb, if_neg h]
  | (k, x) :: r => by
    have ih := lookup_putF f g v r
    rw [show putF f v ((k, x) :: r) = (if k = f then (k, v) :: r else (k, x) :: putF f v r) from rfl]
    by_cases hk : k = f
    · rw [if_pos hk]
      by_cases h : g = k
      · have hb : (g == k) = true := beq_iff_eq.mpr h
        simp only [List.lookup, hb, if_pos (h.trans hk)]
      · have hb : (g == k) = false := beq_eq_false_iff_ne.mpr h
        simp only [List.lookup, hb, if_neg (fun e : g = f => h (e.trans hk.symm))]
    · rw [if_neg hk]
      by_cases h : g = k
      · have hb : (g == k) = true := beq_iff_eq.mpr h
        simp only [List.lookup, hb, if_neg (fun e : g = f => hk (h.symm.trans e))]
      · have hb : (g == k) = false := beq_eq_false_iff_ne.mpr h
        simp only [List.lookup, hb]
        exact ih
theorem keys_putF (f : Str) (v : V) : ∀ fs : List (Str × V), f ∈ (putF f v fs).map (·.1) ∧ ∀ g, g ∈ fs.map (·.1) → g ∈ (putF f v fs).map (·.1)
  | [] => ⟨by simp [putF], fun g h => by simp at h⟩
  | (k, x) :: r => by
    obtain ⟨i1, i2⟩ := keys_putF f v r
    rw [show putF f v ((k, x) :: r) = (if k = f then (k, v) :: r else (k, x) :: putF f v r) from rfl]
    by_cases hk : k = f
    · rw [if_pos hk]
      subst hk
      exact ⟨by simp, fun g h => by simpa using h⟩
    · rw [if_neg hk]
      refine ⟨?_, fun g h => ?_⟩
      · rw [List.map_cons]
        exact List.mem_cons_of_mem _ i1
      · rw [List.map_cons] at h ⊢
        rcases List.mem_cons.mp h with e | e
        · exact List.mem_cons.mpr (.inl e)
        · exact List.mem_cons_of_mem _ (i2 g e)
theorem length_putF (f : Str) (v : V) : ∀ fs : List (Str × V), (putF f v fs).length ≤ fs.length + 1
  | [] => by simp [putF]
  | (k, x) :: r => by
    have ih := length_putF f v r
    rw [show putF f v ((k, x) :: r) = (if k = f then (k, v) :: r else (k, x) :: putF f v r) from rfl]
    by_cases hk : k = f
    · rw [if_pos hk, List.length_cons, List.length_cons]; omega
    · rw [if_neg hk, List.length_cons, List.length_cons]; omega
theorem RelO.some_of {v : V} {o : Option Value} (r : RelO (some v) o) : ∃ u, o = some u ∧ RelV v u := by
  cases o with
  | none => exact (show False from r).elim
  | some u => exact ⟨u, rfl, r⟩
theorem RelO.none_of {o : Option Value} (r : RelO none o) : o = none := by
  cases o with
  | none => rfl
  | some u => exact (show False from r).elim
theorem handed_of {v : V} {u : Value} (r : RelV v u) : PySem.W.handedIn u = true := by
  cases v with
  | non => cases (show u = Value.none from r); rfl
  | bl b => cases (show u = Value.bool b from r); rfl
  | int i => obtain ⟨t, e⟩ := (show ∃ t, u = Value.int i t from r); cases e; rfl
  | str x => obtain ⟨t, e⟩ := (show ∃ t, u = Value.str x t from r); cases e; rfl
  | byt b => obtain ⟨t, e⟩ := (show ∃ t, u = Value.bytes b t from r); cases e; rfl
  | flt b => obtain ⟨t, e⟩ := (show ∃ t, u = Value.float b t from r); cases e; rfl
  | ref a => cases (show u = Value.ref a from r); rfl
  | ty n => cases (show u = Value.type n from r); rfl
section
variable {P : Program} {w : World} {H H' : Hp} {h h' : Heap} {a C dx : Addr} {fs fs' : List (Str × V)}
theorem ins_get (hok : HOk P w H h) (e : H a = some (.ins C dx fs)) : ∃ mA, ObjM h a dx C mA ∧ (∀ f, RelO (fs.lookup f) (mA f)) ∧ PySem.Within mA (fs.map (·.1)) ∧ fs.length ≤ 1000 ∧ H dx = some (.own a) := by
  obtain ⟨d, z, ne, ob, mA, n, r, q⟩ := (show ObjOk P w H h a (.ins C dx fs) from hok a _ e)
  exact ⟨mA, ⟨ob, n, ne⟩, r, q, z, d⟩
end
structure Cls (K : PySem.W.Frag) (C : Addr) : Prop where
  pg : PySem.W.plainGet K C Str.empty = true
  hd : PySem.W.hasDictIn K C = true
  po : PySem.W.plainOver K C = true
  sa : PySem.W.findIn K (.ref C) "__setattr__" = some (some (.builtin "object.__setattr__"))
theorem Cls.get {K : PySem.W.Frag} {C : Addr} (c : Cls K C) (f : Str) : PySem.W.plainGet K C f = true := c.pg
def NoAttr (K : PySem.W.Frag) (C : Addr) (f : Str) : Prop := PySem.W.findIn K (.ref C) f = some none
theorem NoAttr.taker {K : PySem.W.Frag} {C : Addr} {f : Str} (n : NoAttr K C f) : PySem.W.takerIn K C f = some none := by
  unfold PySem.W.takerIn
  rw [show PySem.W.findIn K (.ref C) f = some none from n]
  rfl
structure Meth (K : PySem.W.Frag) (C : Addr) (m : Str) (f : Addr) : Prop where
  at_ : PySem.W.findIn K (.ref C) m = some (some (.ref f))
  fn : PySem.W.isFn K (.ref f) = true
  kp : PySem.W.keepIn K (.ref f) = true
section
variable {X : Cx} {pins : List (Addr × Obj)} {σ : St} {H : Hp} {s : Shared} {a C dx : Addr} {fs : List (Str × V)} {f : Str} {v : V} {A : Around} {E : Value → Shared → Prop}
theorem getattr_ok {b : Bool} {Q : Value → Shared → Prop} (I : Inv X pins σ H s) (e : H a = some (.ins C dx fs)) (c : Cls X.K C) (n : NoAttr X.K C f) (l : fs.lookup f = some v)
    (h : ∀ u s', Inv X pins σ H s' → RelV v u → Q u s') : wpAny (model X.prog X.w) A (getAttr (.ref a) f b) Q E s := by
  obtain ⟨mA, O, r, _, _, _⟩ := ins_get I.hok e
  obtain ⟨u, hu, ru⟩ := RelO.some_of (v := v) (o := mA f) (by rw [← l]; exact r f)
  exact get_map I.kIn O (c.get f) c.hd n hu (handed_of ru) (h u _ (I.tok _) ru)
theorem getmeth_ok {m : Str} {g : Addr} {pl : Sem Bool} {Q : Value × List Value → Shared → Prop} (I : Inv X pins σ H s) (e : H a = some (.ins C dx fs)) (c : Cls X.K C) (k : Meth X.K C m g) (l : fs.lookup m = none)
    (h : Q (.ref g, [.ref a]) s) : wpAny (model X.prog X.w) A (getMethod (.ref a) m pl) Q E s := by
  obtain ⟨mA, O, r, _, _, _⟩ := ins_get I.hok e
  have hn : mA m = none := RelO.none_of (by rw [← l]; exact r m)
  exact get_meth I.kIn O (c.get m) k.at_ k.fn hn h
theorem setattr_ok {y : V} {u : Value} {Q : Unit → Shared → Prop} (I : Inv X pins σ H s) (e : H a = some (.ins C dx fs)) (c : Cls X.K C) (n : NoAttr X.K C f) (hl : fs.length < 1000) (ry : RelV y u)
    (h : ∀ s', Inv X pins σ (upd H a (.ins C dx (putF f y fs))) s' → Q () s') : wpAny (model X.prog X.w) A (setAttr (.ref a) f u) Q E s := by
  obtain ⟨mA, O, r, wi, _, ho⟩ := ins_get I.hok e
  have hz : (fs.map (·.1)).length ≤ sizeLine := by rw [List.length_map, sizeLine_eq]; omega
  refine set_map I.kIn O c.sa c.po n.taker c.hd wi hz fun h' O' sb => h _ ?_
  have hd : ∃ o, h'.get? dx = some o := let ⟨o, _, _, e', _⟩ := O'.ns; ⟨o, e'⟩
  refine I.write (x := a) (e := dx) (by rw [e]; exact True.intro) (.inr ho) (fun b q hb z => (sb.2 b hb).trans z) hd ?_
  refine ⟨by rw [upd_ne O.ne]; exact ho, ?_, O.ne, O'.obj, _, O'.ns, fun g => ?_, fun g hg => ?_⟩
  · have := length_putF f y fs; omega
  · show RelO ((putF f y fs).lookup g) (if g = f then some u else mA g)
    rw [lookup_putF]
    by_cases q : g = f
    · rw [if_pos q, if_pos q]; exact ry
    · rw [if_neg q, if_neg q]; exact r g
  · by_cases q : g = f
    · rw [q]; exact (keys_putF f y fs).1
    · refine (keys_putF f y fs).2 g (wi g fun z => hg ?_)
      show (if g = f then some u else mA g) = none
      rw [if_neg q]; exact z
theorem Inv.made (I : Inv X pins σ H s) : Inv X pins σ (upd (upd H s.heap.objs.size (.own (s.heap.objs.size + 1))) (s.heap.objs.size + 1) (.ins C s.heap.objs.size []))
    { s with heap := (s.heap.push PySem.W.emptyDict).push (PySem.W.instObj C s.heap.objs.size) } := by
  have e1 : (s.heap.push PySem.W.emptyDict).get? s.heap.objs.size = some PySem.W.emptyDict := Heap.get?_push_size s.heap rfl
  have e2 : ((s.heap.push PySem.W.emptyDict).push (PySem.W.instObj C s.heap.objs.size)).get? (s.heap.objs.size + 1) = some (PySem.W.instObj C s.heap.objs.size) := by
    have := Heap.get?_push_size (s.heap.push PySem.W.emptyDict) (o := PySem.W.instObj C s.heap.objs.size) rfl
    rwa [Heap.size_push] at this
  have e3 : (s.heap.push PySem.W.emptyDict).Ns s.heap.objs.size (fun _ => none) := ⟨PySem.W.emptyDict, #[], _, e1, rfl, (fun e he => absurd he (by simp)), fun _ => rfl⟩
  have I1 := I.laid (a := s.heap.objs.size) (o := .own (s.heap.objs.size + 1)) (h' := s.heap.push PySem.W.emptyDict) (t' := s.toks) (fun b u q => Heap.get?_push_of_some _ q) (Nat.le_refl _) ⟨_, e1⟩
  refine I1.laid (a := s.heap.objs.size + 1) (o := .ins C s.heap.objs.size []) (t' := s.toks) (fun b u q => Heap.get?_push_of_some _ q) (Nat.le_of_eq (Heap.size_push _ _)) ?_
  have ne : s.heap.objs.size ≠ s.heap.objs.size + 1 := Nat.ne_of_lt (Nat.lt_succ_self _)
  refine ⟨by rw [upd_ne ne, upd_same], Nat.zero_le _, ne, e2, fun _ => none, (Heap.Ns1.of_empty e3).at fun o q => Heap.get?_push_of_some _ q, fun _ => True.intro, fun y hy => absurd rfl hy⟩
theorem attr_of {prog : Program} {w : World} {env : Env} {e : Expr} {f : Str} {pos : Pos} {s : Shared} {Q : Value → Shared → Prop} (hb : attributeBase e f env (eval e env) = eval e env)
    (h : wpAny (model prog w) A (eval e env) (fun o s₁ => wpAny (model prog w) A (getAttr o f true) Q E s₁) E s) : wpAny (model prog w) A (eval (.Attribute e f pos) env) Q E s :=
  Attribute_any_ h (by rw [arm_eval_Attribute, hb])
end
def tFld (K : PySem.W.Frag) (ta : TE) (f : Str) : TE := fun σ H Q => ta σ H fun x H1 => ∃ a C dx fs v, x = .ref a ∧ H1 a = some (.ins C dx fs) ∧ Cls K C ∧ NoAttr K C f ∧ fs.lookup f = some v ∧ Q v H1
def sFld (K : PySem.W.Frag) (ta tv : TE) (f : Str) : TS := fun D σ H => tv σ H fun y H1 => ta σ H1 fun x H2 => ∃ a C dx fs, x = .ref a ∧ H2 a = some (.ins C dx fs) ∧ Cls K C ∧ NoAttr K C f ∧ fs.length < 1000 ∧
  D.nx σ (upd H2 a (.ins C dx (putF f y fs)))
section
variable {X : Cx} {o e value : Expr} {f : Str} {pos pos' tpos : Pos} {ta tv : TE}
theorem pe_fld (he : PE X e ta) (hb : attributeBase e f X.env (eval e X.env) = eval e X.env) : PE X (.Attribute e f pos) (tFld X.K ta f) := by
  intro pins s σ H Q I h
  refine attr_of hb (thn (he pins s σ H _ I h) fun u s1 ⟨x, H1, I1, rx, a, C, dx, fs, v, ex, ea, c, n, l, q⟩ => ?_)
  subst ex
  obtain rfl : u = Value.ref a := rx
  exact getattr_ok I1 ea c n l fun u' s2 I2 ru => ⟨v, H1, I2, ru, q⟩
theorem ps_fld (ha : PE X o ta) (hv : PE X value tv) (hs : swapsWith value (some (.Attribute o f pos')) pos.line X.env = pure false) : PS X (.Assign [.Attribute o f pos'] value pos) (sFld X.K ta tv f) := by
  intro pins s σ H D I h
  refine plainObj_wpAny_Assign_Attribute (thn (hv pins s σ H _ I h) fun u s1 ⟨y, H1, I1, ry, q⟩ => thn (ha pins s1 σ H1 _ I1 q) fun ov s2 ⟨x, H2, I2, rx, a, C, dx, fs, ex, ea, c, n, l, q2⟩ => ?_) hs
  subst ex
  obtain rfl : ov = Value.ref a := rx
  exact setattr_ok I2 ea c n l ry fun s3 I3 => ⟨σ, _, I3, q2⟩
end
section
variable {X : Cx} {pins : List (Addr × Obj)} {σ : St} {H : Hp} {s : Shared} {A : Around} {E : Value → Shared → Prop} {Q : Value → Shared → Prop} {c : Value} {b : Bool}
inductive TyOf (K : PySem.W.Frag) (H : Hp) : V → Value → Prop where
  | non : TyOf K H .non (.type "NoneType")
  | bl (x : Bool) : TyOf K H (.bl x) (.type "bool")
  | int (i : Int) : TyOf K H (.int i) (.type "int")
  | str (x : Str) : TyOf K H (.str x) (.type "str")
  | flt (x : UInt64) : TyOf K H (.flt x) (.type "float")
  | lst {a : Addr} {xs : List V} (e : H a = some (.lst xs)) : TyOf K H (.ref a) (.type "list")
  | frz {a : Addr} {o : Obj} {xs : List V} (e : H a = some (.frz o (.lst xs))) : TyOf K H (.ref a) (.type "list")
  | tup {a : Addr} {xs : List V} (e : H a = some (.tup xs)) : TyOf K H (.ref a) (.type "tuple")
  | dK {a : Addr} {kvs : List (Key × V)} (e : H a = some (.dK kvs)) : TyOf K H (.ref a) (.type "dict")
  | dT {a : Addr} {kvs : List (List Key × V)} (e : H a = some (.dT kvs)) : TyOf K H (.ref a) (.type "dict")
  | ins {a C dx : Addr} {fs : List (Str × V)} (e : H a = some (.ins C dx fs)) (cl : Cls K C) (ha : PySem.W.findIn K (.ref C) "__class__" = some (some (.builtin "object.__class__")))
      (hn : PySem.W.specialIn K (.builtin "object.__class__") "__get__" = some (some (.builtin "getset_descriptor.__get__"))) (htk : PySem.W.takesIn K (.builtin "object.__class__") = some true)
      (hm : PySem.W.mroIn K C (.type "object") = some true) : TyOf K H (.ref a) (.ref C)
theorem isinst_ok {x : V} {u t : Value} (I : Inv X pins σ H s) (rx : RelV x u) (ty : TyOf X.K H x t) (e : PySem.W.kitOne X.K t c = some b) (h : ∀ tk, Q (.bool b) { s with toks := tk }) :
    wpAny (model X.prog X.w) A (call (.builtin "isinstance") [u, c]) Q E s := by
  cases ty with
  | non => cases (show u = Value.none from rx); exact PySem.W.kia_one PySem.W.kitx_none I.kIn True.intro e (fun z => nomatch z) h
  | bl y => cases (show u = Value.bool y from rx); exact PySem.W.kia_one PySem.W.kitx_bool I.kIn True.intro e (fun z => nomatch z) h
  | int i => obtain ⟨t, q⟩ := (show ∃ t, u = Value.int i t from rx); cases q; exact PySem.W.kia_one PySem.W.kitx_int I.kIn True.intro e (fun z => nomatch z) h
  | str y => obtain ⟨t, q⟩ := (show ∃ t, u = Value.str y t from rx); cases q; exact PySem.W.kia_one PySem.W.kitx_str I.kIn True.intro e (fun z => nomatch z) h
  | flt y => obtain ⟨t, q⟩ := (show ∃ t, u = Value.float y t from rx); cases q; exact PySem.W.kia_one PySem.W.kitx_float I.kIn True.intro e (fun z => nomatch z) h
  | @lst a xs ea =>
    cases (show u = Value.ref a from rx)
    obtain ⟨_, _, n, _, h1⟩ := (show ObjOk X.prog X.w H s.heap a (.lst xs) from I.hok a _ ea)
    exact PySem.W.kia_one PySem.W.kitx_list I.kIn ⟨_, h1, rfl⟩ e (fun z => nomatch z) h
  | @frz a ob xs ea =>
    cases (show u = Value.ref a from rx)
    obtain ⟨_, _, _, n, _, h1⟩ := (show ObjOk X.prog X.w H s.heap a (.frz ob (.lst xs)) from I.hok a _ ea)
    exact PySem.W.kia_one PySem.W.kitx_list I.kIn ⟨_, h1, rfl⟩ e (fun z => nomatch z) h
  | @tup a xs ea =>
    cases (show u = Value.ref a from rx)
    obtain ⟨_, _, _, p⟩ := (show ObjOk X.prog X.w H s.heap a (.tup xs) from I.hok a _ ea)
    obtain ⟨o, h1, h2, _⟩ := p
    exact PySem.W.kia_one PySem.W.kitx_tuple I.kIn ⟨o, h1, h2⟩ e (fun z => nomatch z) h
  | @dK a kvs ea =>
    cases (show u = Value.ref a from rx)
    obtain ⟨_, _, vs, _, p⟩ := (show ObjOk X.prog X.w H s.heap a (.dK kvs) from I.hok a _ ea)
    obtain ⟨o, es, ep, h1, h2, _⟩ := p
    exact PySem.W.kia_one PySem.W.kitx_dict I.kIn ⟨o, h1, h2.1⟩ e (fun z => nomatch z) h
  | @dT a kvs ea =>
    cases (show u = Value.ref a from rx)
    obtain ⟨_, _, xs, _, o, es, ep, h1, h2, _⟩ := (show ObjOk X.prog X.w H s.heap a (.dT kvs) from I.hok a _ ea)
    exact PySem.W.kia_one PySem.W.kitx_dict I.kIn ⟨o, h1, h2.1⟩ e (fun z => nomatch z) h
  | @ins a C dx fs ea cl ha hn htk hm =>
    cases (show u = Value.ref a from rx)
    obtain ⟨mA, O, _⟩ := ins_get I.hok ea
    obtain ⟨od, J, _⟩ := O.look
    exact PySem.W.kia_one (PySem.W.kitx_own (cl.get _) cl.hd ha hn htk hm) I.kIn J e (fun z => nomatch z) h
end
end L2
namespace L2
open PySem PySem.Spec PyProof.Rows
structure Room (k : Nat) (A : Around) : Prop where
  hd : A.handled = none
  dp : A.depth + 3 * k + 5 < recursionLimit
  un : A.units + 16 * k + 200 < cLine
theorem Room.mono {j k : Nat} {A : Around} (r : Room k A) (h : j ≤ k) : Room j A := ⟨r.hd, by have := r.dp; omega, by have := r.un; omega⟩
theorem Room.deeper {k : Nat} {A : Around} (r : Room (k + 1) A) (env : Env) : Room k (A.deeper env) :=
  ⟨r.hd, by have := r.dp; show A.depth + 1 + 3 * k + 5 < _; omega, by have := r.un; show A.units + 3 + 16 * k + 200 < _; omega⟩
theorem Room.in1 {k : Nat} {A : Around} (r : Room (k + 1) A) : Room k A.in1 :=
  ⟨r.hd, by have := r.dp; show A.depth + 3 * k + 5 < _; omega, by have := r.un; show A.units + 1 + 16 * k + 200 < _; omega⟩
theorem make_depth {A : Around} {C : Addr} {us : List Value} {kw : List (Str × Value)} : (A.under (.builtin "type.__call__" ⟨.ref C :: us, kw⟩)).depth = A.depth + 1 := by
  first | rfl | simp [Around.under, Code.weight, Code.isCreation, Code.isGuard, Code.isCaller, Code.frames, Code.isFrame, guardIds]
theorem make_units {A : Around} {C : Addr} {us : List Value} {kw : List (Str × Value)} : (A.under (.builtin "type.__call__" ⟨.ref C :: us, kw⟩)).units = A.units + 1 := by
  first | rfl | simp [Around.under, Code.cUnits, Code.frames, Code.isFrame]
theorem Room.make {k : Nat} {A : Around} (r : Room (k + 1) A) (C : Addr) (us : List Value) (kw : List (Str × Value)) : Room k (A.under (.builtin "type.__call__" ⟨.ref C :: us, kw⟩)) :=
  ⟨r.hd, by have := r.dp; rw [make_depth]; omega, by have := r.un; rw [make_units]; omega⟩
theorem Room.depth {k : Nat} {A : Around} (r : Room k A) : A.depth < recursionLimit := by have := r.dp; omega
theorem Room.units {k : Nat} {A : Around} (r : Room k A) : A.units + 64 < cLine := by have := r.un; omega
theorem Room.units0 {k : Nat} {A : Around} (r : Room k A) : A.units < cLine := by have := r.un; omega
def tNil : TA := fun _ H Q => Q [] H
def tCons (ta : TE) (tr : TA) : TA := fun σ H Q => ta σ H fun x H1 => tr σ H1 fun xs H2 => Q (x :: xs) H2
section
variable {X : Cx} {e : Expr} {es : List Expr} {te : TE} {t : TA} {pos : Pos}
theorem pa_nil : PA X [] tNil := fun _ _ _ _ H Q I h => Calls.spliced_nil ⟨[], H, I, .nil, h⟩
theorem pa_cons (ha : PE X e te) (hr : PA X es t) (hs : starEach (e :: es) X.env = (false, eval e X.env) :: starEach es X.env := by rfl) : PA X (e :: es) (tCons te t) := by
  intro pos pins s σ H Q I h
  rw [hs]
  show wpAny _ _ (spliced ((false, eval e X.env) :: backTo pos (starEach es X.env))) _ _ s
  refine Calls.spliced_cons (thn (ha pins s σ H _ I h) fun u s1 ⟨x, H1, I1, r1, q1⟩ => ?_)
  exact thn (hr pos pins s1 σ H1 _ I1 q1) fun us s2 ⟨xs, H2, I2, r2, q2⟩ => ⟨x :: xs, H2, I2, .cons r1 r2, q2⟩
def tTup (t : TA) : TE := fun σ H Q => t σ H fun xs H1 => xs.length ≤ sizeLine ∧ ∀ p, H1 p = none → Q (.ref p) (upd H1 p (.tup xs))
def tLst (t : TA) : TE := fun σ H Q => t σ H fun xs H1 => xs.length ≤ sizeLine ∧ ∀ p, H1 p = none → Q (.ref p) (upd H1 p (.lst xs))
theorem pe_tup {x1} (h : PA X es t) : PE X (.Tuple es x1 pos) (tTup t) := by
  intro pins s σ H Q I hq
  refine wpAny_Tuple_spliced (thn (h pos pins s σ H _ I hq) fun us s1 ⟨xs, H1, I1, r, z, q⟩ => ⟨by rw [← r.length]; exact z, ?_⟩)
  have hf : H1 s1.heap.objs.size = none := I1.hok.fresh (Nat.le_refl _)
  refine ⟨.ref s1.heap.objs.size, upd H1 s1.heap.objs.size (.tup xs), I1.laid (t' := s1.toks) (fun b u e => Heap.get?_push_of_some _ e) (Nat.le_refl _) ?_, rfl, q _ hf⟩
  exact ⟨z, us, r, IsTpl.new _ _⟩
theorem pe_lst (h : PA X es t) : PE X (.List es pos) (tLst t) := by
  intro pins s σ H Q I hq
  refine wpAny_List_spliced (thn (h pos pins s σ H _ I hq) fun us s1 ⟨xs, H1, I1, r, z, q⟩ => ⟨by rw [← r.length]; exact z, ?_⟩)
  have hf : H1 s1.heap.objs.size = none := I1.hok.fresh (Nat.le_refl _)
  refine ⟨.ref s1.heap.objs.size, upd H1 s1.heap.objs.size (.lst xs), I1.laid (t' := s1.toks) (fun b u e => Heap.get?_push_of_some _ e) (Nat.le_refl _) ?_, rfl, q _ hf⟩
  exact ⟨z, us, 0, r, Heap.get?_push_size _ rfl⟩
end
abbrev Sp := List V → Hp → VK → XK → Prop
abbrev CXT := List Env → Hp → Shared → XK → Value → Shared → Prop
structure Env0 (P : Program) (w : World) (K : PySem.W.Frag) (mg : Str → Option Value) (base : Heap) (A : Around) (outer : List Env) (s : Shared) (H : Hp) : Prop where
  frames : A.frames = some outer
  mod : Mod K mg base
  bs : ∀ b o, base.get? b = some o → s.heap.get? b = some o ∧ H b = none
  bsz : base.objs.size ≤ s.heap.objs.size
  funs : s.heap.FunFrames base outer
  frf : ∀ b ∈ frs outer, H b = none
  hok : HOk P w H s.heap
  bare : AllBare s.gens
def CE (outer : List Env) (P : Program) (w : World) (H : Hp) (s : Shared) (Q : VK) (u : Value) (s' : Shared) : Prop :=
  ∃ v H', s'.os = s.os ∧ AllBare s'.gens ∧ Un (frs outer) [] H H' s.heap s'.heap ∧ HOk P w H' s'.heap ∧ RelV v u ∧ Q v H'
def CR (CX : CXT) (outer : List Env) (P : Program) (w : World) (H : Hp) (s : Shared) (Q : VK) (E : XK) (r : Result) (s' : Shared) : Prop :=
  match r with
  | .ok (.ret u) => CE outer P w H s Q u s'
  | .ok _ => False
  | .error e => CX outer H s E e s'
structure FnOk (P : Program) (w : World) (K : PySem.W.Frag) (mg : Str → Option Value) (base : Heap) (CX : CXT) (k : Nat) (f : Addr) (fd : FuncData) (ps : List Str) (sp : Sp) : Prop where
  len : ∀ vs H Q E, sp vs H Q E → vs.length = ps.length
  run : ∀ (A : Around) (outer : List Env) (s : Shared) (H : Hp) (args : Args) (us : List Value) (vs : List V) (Q : VK) (E : XK), Room k A → Env0 P w K mg base A outer s H → BindsTo s fd args (ps.zip us) → Vals vs us → sp vs H Q E →
    codeAny (model P w) A (.call (.ref f) args) (CR CX outer P w H s Q E) s
theorem FnOk.mono {P : Program} {w : World} {K : PySem.W.Frag} {mg : Str → Option Value} {base : Heap} {CX : CXT} {j k : Nat} {f : Addr} {fd : FuncData} {ps : List Str} {sp : Sp} (F : FnOk P w K mg base CX j f fd ps sp) (h : j ≤ k) :
    FnOk P w K mg base CX k f fd ps sp := ⟨F.len, fun A outer s H args us vs Q E hr => F.run A outer s H args us vs Q E (hr.mono h)⟩
theorem Env0.make {P : Program} {w : World} {K : PySem.W.Frag} {mg : Str → Option Value} {base : Heap} {A : Around} {outer : List Env} {s : Shared} {H : Hp} (e : Env0 P w K mg base A outer s H) (C : Addr) (us : List Value) (kw : List (Str × Value)) :
    Env0 P w K mg base (A.under (.builtin "type.__call__" ⟨.ref C :: us, kw⟩)) outer s H := ⟨by first | exact e.frames | (simpa [Around.under, Code.envs, Code.isFrame, pushEnvs] using e.frames), e.mod, e.bs, e.bsz, e.funs, e.frf, e.hok, e.bare⟩
section
variable {X : Cx} {pins : List (Addr × Obj)} {σ : St} {H : Hp} {s s' : Shared}
theorem Inv.env0 (I : Inv X pins σ H s) : Env0 X.prog X.w X.K X.mg X.base X.A X.stack s H :=
  ⟨I.ok.frames, I.ok.mod, I.bs, Nat.le_trans I.ok.bsz I.sz, I.stack, I.stkFree, I.hok, I.bare⟩
theorem Inv.after {Q : VK} {u : Value} (I : Inv X pins σ H s) (h : CE X.stack X.prog X.w H s Q u s') : EP X pins σ Q u s' := by
  obtain ⟨v, H', os, bare, un, hok, r, q⟩ := h
  obtain ⟨hh, g, d, t, os'⟩ := s'
  obtain rfl : os' = s.os := os
  exact ⟨v, H', I.call (h' := hh) (g' := g) (d' := d) (t' := t) (ch := []) un hok bare (fun b z => absurd z (by simp)), r, q⟩
end
def tCall (sp : Sp) (dvs : List V) (E : XK) (t : TA) : TE := fun σ H Q => t σ H fun vs H1 => sp (vs ++ dvs) H1 Q E
def tMake (C : Addr) (sp : Sp) (dvs : List V) (E : XK) (t : TA) : TE := fun σ H Q => t σ H fun vs H1 => ∀ x dx, H1 x = none → H1 dx = none → dx ≠ x →
  sp (.ref x :: (vs ++ dvs)) (upd (upd H1 dx (.own x)) x (.ins C dx [])) (fun v H2 => v = .non ∧ Q (.ref x) H2) E
def Binds (K : PySem.W.Frag) (fd : FuncData) (ps : List Str) (ds : List Value) : Prop :=
  ∀ (s : Shared) (us : List Value), K.In s.heap → (us ++ ds).length = ps.length → BindsTo s fd ⟨us, []⟩ (ps.zip (us ++ ds))
theorem Binds.all {K : PySem.W.Frag} {fd : FuncData} {ps : List Str} (h : ∀ us : List Value, us.length = ps.length → bindArgs fd ⟨us, []⟩ = pure (ps.zip us)) : Binds K fd ps [] := fun s us _ hl => by
  rw [List.append_nil] at hl ⊢
  exact .of_eq (h us hl)
def Passes (CX : CXT) (X : Cx) (E : XK) : Prop := ∀ (pins : List (Addr × Obj)) (σ : St) (H : Hp) (s : Shared) (e : Value) (s' : Shared), Inv X pins σ H s → CX X.stack H s E e s' → X.xe e s'
section
variable {X : Cx} {CX : CXT} {k : Nat} {f C : Addr} {fd : FuncData} {ps : List Str} {sp : Sp} {dvs : List V} {ds : List Value} {E : XK} {x m : Str} {p pos apos : Pos} {e o : Expr} {es : List Expr} {ta : TE} {t : TA}
theorem run_fn {pins : List (Addr × Obj)} {σ : St} {H : Hp} {s : Shared} {Q : VK} {us : List Value} {vs : List V} (F : FnOk X.prog X.w X.K X.mg X.base CX k f fd ps sp) (hr : Room k X.A) (hb : Binds X.K fd ps ds) (hd : Vals dvs ds) (hx : Passes CX X E)
    (I : Inv X pins σ H s) (r : Vals vs us) (h : sp (vs ++ dvs) H Q E) : wpAny (model X.prog X.w) X.A (call (.ref f) us) (EP X pins σ Q) X.xe s := by
  have r2 : Vals (vs ++ dvs) (us ++ ds) := r.append hd
  have hl : (us ++ ds).length = ps.length := by rw [← r2.length]; exact F.len _ _ _ _ h
  refine wpAny_call (codeAny_mono (F.run X.A X.stack s H ⟨us, []⟩ (us ++ ds) (vs ++ dvs) Q E hr I.env0 (hb s us I.kIn hl) r2 h) fun r s' hq => ?_)
  cases r with
  | error e => exact hx pins σ H s e s' I hq
  | ok fl =>
    cases fl with
    | ret u => exact I.after hq
    | next => exact False.elim hq
    | brk => exact False.elim hq
    | cont => exact False.elim hq
theorem pe_call (F : FnOk X.prog X.w X.K X.mg X.base CX k f fd ps sp) (hr : Room k X.A) (hg : Gl X x) (hm : X.mg x = some (.ref f)) (hk : PySem.W.keepIn X.K (.ref f) = true) (hb : Binds X.K fd ps ds) (hd : Vals dvs ds) (hx : Passes CX X E)
    (ha : PA X (e :: es) t) (hdb : (x == ("__debug__" : Str)) = false := by decide) (he : starEach (e :: es) X.env = (false, eval e X.env) :: starEach es X.env := by rfl) (hpl : (backTo pos (starEach es X.env)).any (·.1) = false := by rfl) :
    PE X (.Call (.Name x p) (e :: es) [] pos) (tCall sp dvs E t) := by
  intro pins s σ H Q I h
  refine wpAny_Call_Name_kw (ld_glob I hg hm ?_ hdb)
  refine PySem.W.callWith_K (h₀ := X.base) I.ok.mod.kin hk (thn (ha pos pins s σ H _ I h) fun us s1 ⟨vs, H1, I1, r, q⟩ => ⟨I1.kIn, ?_⟩) he hpl
  exact run_fn F hr hb hd hx I1 r q
structure Mk (K : PySem.W.Frag) (C f : Addr) : Prop where
  makes : PySem.W.makesIn K C = true
  init : PySem.W.findIn K (.ref C) "__init__" = some (some (.ref f))
  fn : PySem.W.isFn K (.ref f) = true
  kp : PySem.W.keepIn K (.ref C) = true
theorem run_make {pins : List (Addr × Obj)} {σ : St} {H : Hp} {s : Shared} {Q : VK} {us : List Value} {vs : List V} (M : Mk X.K C f) (F : FnOk X.prog X.w X.K X.mg X.base CX k f fd ps sp) (hr : Room (k + 1) X.A) (hb : Binds X.K fd ps ds) (hd : Vals dvs ds)
    (hx : Passes CX X E) (I : Inv X pins σ H s) (r : Vals vs us)
    (h : ∀ x dx, H x = none → H dx = none → dx ≠ x → sp (.ref x :: (vs ++ dvs)) (upd (upd H dx (.own x)) x (.ins C dx [])) (fun v H2 => v = .non ∧ Q (.ref x) H2) E) :
    wpAny (model X.prog X.w) X.A (call (.ref C) us) (EP X pins σ Q) X.xe s := by
  have hq := h (s.heap.objs.size + 1) s.heap.objs.size (I.hok.fresh (Nat.le_succ _)) (I.hok.fresh (Nat.le_refl _)) (Nat.ne_of_lt (Nat.lt_succ_self _))
  have I2 := Inv.made (C := C) I
  have r2 : Vals (V.ref (s.heap.objs.size + 1) :: (vs ++ dvs)) (Value.ref (s.heap.objs.size + 1) :: (us ++ ds)) := .cons rfl (r.append hd)
  have hl : (Value.ref (s.heap.objs.size + 1) :: us ++ ds).length = ps.length := by
    have e := r2.length
    rw [F.len _ _ _ _ hq] at e
    exact e.symm
  refine wpAny_call (make_map (f := f) I.kIn M.makes M.init (beq_iff_eq.mp M.fn) (codeAny_mono (F.run _ X.stack _ _ ⟨Value.ref (s.heap.objs.size + 1) :: us, []⟩ (Value.ref (s.heap.objs.size + 1) :: (us ++ ds)) _ _ E (hr.make C us [])
    (I2.env0.make C us []) (hb _ (Value.ref (s.heap.objs.size + 1) :: us) I2.kIn hl) r2 hq) fun r s' hq' => ?_))
  cases r with
  | error e => exact hx pins σ _ _ e s' I2 hq'
  | ok fl =>
    cases fl with
    | ret u =>
      obtain ⟨v, H', I3, rv, ev, q3⟩ := I2.after hq'
      subst ev
      exact ⟨rv, ⟨V.ref (s.heap.objs.size + 1), H', I3, rfl, q3⟩⟩
    | next => exact False.elim hq'
    | brk => exact False.elim hq'
    | cont => exact False.elim hq'
theorem pe_make (M : Mk X.K C f) (F : FnOk X.prog X.w X.K X.mg X.base CX k f fd ps sp) (hr : Room (k + 1) X.A) (hg : Gl X x) (hm : X.mg x = some (.ref C)) (hb : Binds X.K fd ps ds) (hd : Vals dvs ds) (hx : Passes CX X E)
    (ha : PA X (e :: es) t) (hdb : (x == ("__debug__" : Str)) = false := by decide) (he : starEach (e :: es) X.env = (false, eval e X.env) :: starEach es X.env := by rfl) (hpl : (backTo pos (starEach es X.env)).any (·.1) = false := by rfl) :
    PE X (.Call (.Name x p) (e :: es) [] pos) (tMake C sp dvs E t) := by
  intro pins s σ H Q I h
  refine wpAny_Call_Name_kw (ld_glob I hg hm ?_ hdb)
  refine PySem.W.callWith_K (h₀ := X.base) I.ok.mod.kin M.kp (thn (ha pos pins s σ H _ I h) fun us s1 ⟨vs, H1, I1, r, q⟩ => ⟨I1.kIn, ?_⟩) he hpl
  exact run_make M F hr hb hd hx I1 r q
end
section
variable {X : Cx} {CX : CXT} {k : Nat} {f C : Addr} {fd : FuncData} {ps ks : List Str} {sp : Sp} {E : XK} {x m : Str} {p pos apos kpos : Pos} {e o : Expr} {es : List Expr} {kws : List Keyword} {te ta : TE} {t tk : TA} {nm : Option Str}
variable {g : List Value → List Value → List Value} {gV : List V → List V → List V}
end
structure FnScope (N P : List Str) (sc : Scope) : Prop where
  kind : sc.kind = .function
  co : sc.isCoroutine = false
  gen : sc.isGenerator = false
  nd : N.Nodup
  pre : N.take P.length = P
  par : ∀ x ∈ P, sc.names.lookup x = some .local ∨ sc.names.lookup x = some .cell
  nofree : ∀ y ∈ sc.names, y.2 ≠ .free
theorem bindL_out {kindOf : Str → Option NameKind} {x : Str} : ∀ {binds : List (Str × Value)} {m : Str → Option Value}, (∀ v, (x, v) ∉ binds) → bindL kindOf binds m x = m x
  | [], _, _ => rfl
  | (n, v) :: r, m, h => by
    unfold bindL
    rw [bindL_out fun w hw => h w (List.mem_cons_of_mem _ hw)]
    split
    · have : x ≠ n := by rintro rfl; exact h v List.mem_cons_self
      simp [this]
    · rfl
theorem bindC_out {kindOf : Str → Option NameKind} {x : Str} : ∀ {binds : List (Str × Value)} {m : Str → Option Value}, (∀ v, (x, v) ∉ binds) → bindC kindOf binds m x = m x
  | [], _, _ => rfl
  | (n, v) :: r, m, h => by
    unfold bindC
    rw [bindC_out fun w hw => h w (List.mem_cons_of_mem _ hw)]
    split
    · rfl
    · have : x ≠ n := by rintro rfl; exact h v List.mem_cons_self
      simp [this]
theorem bindL_get {kindOf : Str → Option NameKind} {x : Str} {v : Value} : ∀ {P : List Str} {vs : List Value} {i : Nat} {m : Str → Option Value}, P.Nodup → P[i]? = some x → vs[i]? = some v → kindOf x = some .local →
    bindL kindOf (P.zip vs) m x = some v
  | [], _, _, _, _, h, _, _ => by simp at h
  | _ :: _, [], _, _, _, _, h, _ => by simp at h
  | p :: P, w :: vs, 0, m, nd, h1, h2, hk => by
    simp at h1 h2; subst h1; subst h2
    show bindL kindOf ((p, w) :: P.zip vs) m p = _
    unfold bindL
    rw [bindL_out fun v hv => (List.nodup_cons.mp nd).1 (List.of_mem_zip hv).1, if_pos hk]
    simp
  | p :: P, w :: vs, i + 1, m, nd, h1, h2, hk => by
    show bindL kindOf ((p, w) :: P.zip vs) m x = _
    unfold bindL
    exact bindL_get (i := i) (List.nodup_cons.mp nd).2 (by simpa using h1) (by simpa using h2) hk
theorem bindC_get {kindOf : Str → Option NameKind} {x : Str} {v : Value} : ∀ {P : List Str} {vs : List Value} {i : Nat} {m : Str → Option Value}, P.Nodup → P[i]? = some x → vs[i]? = some v → kindOf x ≠ some .local →
    bindC kindOf (P.zip vs) m x = some v
  | [], _, _, _, _, h, _, _ => by simp at h
  | _ :: _, [], _, _, _, _, h, _ => by simp at h
  | p :: P, w :: vs, 0, m, nd, h1, h2, hk => by
    simp at h1 h2; subst h1; subst h2
    show bindC kindOf ((p, w) :: P.zip vs) m p = _
    unfold bindC
    rw [bindC_out fun v hv => (List.nodup_cons.mp nd).1 (List.of_mem_zip hv).1, if_neg hk]
    simp
  | p :: P, w :: vs, i + 1, m, nd, h1, h2, hk => by
    show bindC kindOf ((p, w) :: P.zip vs) m x = _
    unfold bindC
    exact bindC_get (i := i) (List.nodup_cons.mp nd).2 (by simpa using h1) (by simpa using h2) hk
def start (N : List Str) (vs : List V) : St := vs.map some ++ List.replicate (N.length - vs.length) none
def cxOf (CX : CXT) (P : Program) (w : World) (K : PySem.W.Frag) (mg : Str → Option Value) (base : Heap) (N : List Str) (qual : Str) (scope : Scope) (f : Addr) (cd : Value) (A : Around) (outer : List Env) (s : Shared) (H : Hp) (E : XK) : Cx where
  prog := P
  w := w
  K := K
  mg := mg
  base := base
  A := A.deeper (envOfC qual scope s.heap.objs.size f cd)
  N := N
  s₀ := s
  H₀ := H
  env := envOfC qual scope s.heap.objs.size f cd
  outer := outer
  stack := envOfC qual scope s.heap.objs.size f cd :: outer
  ex := []
  calm := true
  fn := fun _ => true
  pn := []
  xe := fun e s' => wpAny (model P w) (A.deeper (envOfC qual scope s.heap.objs.size f cd)) (leaving (envOfC qual scope s.heap.objs.size f cd) e) (fun _ s'' => CX outer H s E e s'') (fun e' s'' => CX outer H s E e' s'') s'
theorem cell_has {sc : Scope} {n : Nat} {x : Str} (h : sc.names.lookup x = some .cell) : ∃ c, (cellsFrom n sc.names []).lookup x = some c := by
  have q := PySem.W.cellsFrom_some sc.names n [] (.inl h)
  exact Option.isSome_iff_exists.mp q
theorem inv_start {CX : CXT} {P : Program} {w : World} {K : PySem.W.Frag} {mg : Str → Option Value} {base : Heap} {N ps : List Str} {qual : Str} {scope : Scope} {f : Addr} {cd : Value} {A : Around} {outer : List Env} {s s1 : Shared} {H : Hp} {E : XK} {us : List Value} {vs : List V}
    (S : FnScope N ps scope) (hd : A.handled = none) (e0 : Env0 P w K mg base A outer s H) (hl : vs.length = ps.length) (r : Vals vs us)
    (x : InCallC s s.heap.objs.size (bindL (envOfC qual scope s.heap.objs.size f cd).kindOf (ps.zip us) fun _ => none) (cellsFrom (s.heap.objs.size + 1) scope.names []) (bindC (envOfC qual scope s.heap.objs.size f cd).kindOf (ps.zip us) fun _ => none) s1) :
    Inv (cxOf CX P w K mg base N qual scope f cd A outer s H E) [] (start N vs) H s1 := by
  have hpl : ps.length ≤ N.length := by have := congrArg List.length S.pre; rw [List.length_take] at this; omega
  obtain ⟨h1, tk, rfl, hk⟩ := x.done
  have noA : ∀ b : Addr, b ∉ (cxOf CX P w K mg base N qual scope f cd A outer s H E).ex := fun b z => absurd (show b ∈ ([] : List Addr) from z) (by simp)
  refine ⟨⟨e0.mod, S.kind, rfl, rfl, Nat.le_refl _, fun y z c h1 h2 => ?_, fun y hy => ?_, fun y c _ h => ?_, fun _ => hd, Around.frames_deeper e0.frames, .inr ⟨rfl, rfl⟩, fun b z => absurd z (noA b), e0.bs, e0.bsz, fun b _ _ => noA b, fun b z => absurd z (noA b), e0.funs, e0.frf⟩,
    rfl, e0.bare, Un.kept hk, ⟨_, x.toInCall.ns, fun i y v h1 h2 h3 => ?_⟩, fun y c h => ⟨_, x.cell y c h⟩, e0.hok.fresh (Nat.le_refl _), fun y c h => ?_, fun p hp => absurd (show p ∈ ([] : List (Addr × Obj)) from hp) (by simp), e0.hok.kept hk, ?_⟩
  · exact name_of_addr x.apart (PySem.mem_of_lookup h1) (PySem.mem_of_lookup h2)
  · have hy : scope.names.lookup y = some .cell ∨ scope.names.lookup y = some .free := hy
    rcases hy with hy | hy
    · exact cell_has hy
    · exact absurd rfl (S.nofree _ (PySem.mem_of_lookup hy))
  · exact Nat.le_of_lt (x.above y c (PySem.mem_of_lookup h))
  · have hi : i < vs.length := by
      unfold start at h2
      by_cases hi : i < vs.length
      · exact hi
      · rw [List.getElem?_append_right (by simpa using hi)] at h2
        rw [List.getElem?_replicate] at h2
        split at h2 <;> cases h2
    have ha : vs[i]? = some v := by
      unfold start at h2
      rw [List.getElem?_append_left (by simpa using hi), List.getElem?_map] at h2
      cases e : vs[i]? with
      | none => rw [e] at h2; cases h2
      | some a => rw [e] at h2; cases h2; rfl
    obtain ⟨u, hu, rv⟩ := r.get ha
    have hp : ps[i]? = some y := by
      rw [← S.pre, List.getElem?_take_of_lt (by omega)]; exact h1
    have ndP : ps.Nodup := by rw [← S.pre]; exact S.nd.sublist (List.take_sublist _ _)
    refine ⟨u, rv, ?_⟩
    rcases S.par y (List.mem_of_getElem? hp) with k | k
    · exact .inl ⟨k, bindL_get ndP hp hu k⟩
    · obtain ⟨c, e⟩ := cell_has (n := s.heap.objs.size + 1) k
      refine .inr ⟨.inl k, c, e, ?_⟩
      have q := x.cell y c e
      rw [bindC_get ndP hp hu (by show scope.names.lookup y ≠ _; rw [k]; decide)] at q
      exact q
  · exact e0.hok.fresh (Nat.le_of_lt (x.above y c (PySem.mem_of_lookup h)))
  · unfold start
    show _ = N.length
    rw [List.length_append, List.length_map, List.length_replicate]
    omega
theorem fn_of {CX : CXT} {P : Program} {w : World} {K : PySem.W.Frag} {mg : Str → Option Value} {base : Heap} {k : Nat} {f : Addr} {name qual : Str} {params : Arguments} {body : List Stmt} {scope : Scope} {dV kV doc pm cdv ct oc : Value} {an od : Option Addr}
    {osl : Array (Option Value)} {N ps : List Str} {sp : Sp} (lk : K.lookup f = some ⟨oc, od, .func (PySem.W.fnOf name qual params body scope dV kV doc pm an cdv ct), osl⟩) (hcd : PySem.W.codeIn K cdv qual = true) (S : FnScope N ps scope)
    (len : ∀ vs H Q E, sp vs H Q E → vs.length = ps.length)
    (hbody : ∀ (A : Around) (outer : List Env) (s : Shared) (H : Hp) (vs : List V) (Q : VK) (E : XK), Room k (A.deeper (envOfC qual scope s.heap.objs.size f cdv)) → sp vs H Q E →
      ∃ t, PSs (cxOf CX P w K mg base N qual scope f cdv A outer s H E) body t ∧ t { nx := fun _ H' => Q .non H', rt := Q } (start N vs) H) :
    FnOk P w K mg base CX (k + 1) f (PySem.W.fnOf name qual params body scope dV kV doc pm an cdv ct) ps sp := by
  refine ⟨len, fun A outer s H args us vs Q E hr e0 hb r hsp => ?_⟩
  have hl := len _ _ _ _ hsp
  have KX : K.In s.heap := e0.mod.kin.keeps fun b o e => (e0.bs b o e).1
  have lim : s.heap.NoLimit := e0.mod.nolimit.keeps fun b o e => (e0.bs b o e).1
  have hkind : ∀ y ∈ ps.zip us, scope.names.lookup y.1 = some .local ∨ (scope.names.lookup y.1 = some .cell ∧ ((cellsFrom (s.heap.objs.size + 1) scope.names []).lookup y.1).isSome = true) := fun ⟨n, v⟩ hy => by
    rcases S.par n (List.of_mem_zip hy).1 with q | q
    · exact .inl q
    · exact .inr ⟨q, PySem.W.cellsFrom_some _ _ _ (.inl q)⟩
  refine codeAny_call_function hr.depth (KX _ _ lk) rfl S.co S.gen rfl (PySem.W.codeRec_of KX hcd) (hb _ _ _ _ ?_)
  refine wpAny_newFunctionEnv_cells S.kind hkind fun env he s1 x => ?_
  subst he
  refine ⟨lim.keeps x.toInCall.keep, codeAny_func ?_⟩
  obtain ⟨t, ht, hq⟩ := hbody A outer s H vs Q E (hr.deeper _) hsp
  have I : Inv (cxOf CX P w K mg base N qual scope f cdv A outer s H E) [] (start N vs) H s1 := inv_start S hr.hd e0 hl r x
  refine wpAny_mono (ht [] s1 (start N vs) H _ I hq) (fun fl s' hs => ?_) fun e s' hs => hs
  have fin : ∀ {σ' : St} {H' : Hp} {v : V} {u : Value}, Inv (cxOf CX P w K mg base N qual scope f cdv A outer s H E) [] σ' H' s' → RelV v u → Q v H' → CE outer P w H s Q u s' :=
    fun {σ' H' v u} J rv q => ⟨v, H', J.os, J.bare, J.base, J.hok, rv, q⟩
  cases fl with
  | ret u =>
    obtain ⟨v, σ', H', J, rv, q⟩ := hs
    exact fin J rv q
  | next =>
    obtain ⟨σ', H', J, q⟩ := hs
    exact fin (v := V.non) (u := Value.none) J rfl q
  | brk =>
    obtain ⟨_, _, _, q⟩ := hs
    exact False.elim q
  | cont =>
    obtain ⟨_, _, _, q⟩ := hs
    exact False.elim q
end L2
namespace L2
open PySem PySem.Spec PyProof.Rows
section
variable {X : Cx} {x : Str} {p pos : Pos} {e : Expr} {es : List Expr} {t : TA} {id T : String} {r : List V → Hp → VK → Prop}
def tCB (r : List V → Hp → VK → Prop) (t : TA) : TE := fun σ H Q => t σ H fun vs H1 => r vs H1 Q
theorem pe_callB (hc : CallR X (.builtin id) r) (hg : Gl X x) (hm : X.mg x = none) (hv : bootBuiltins x = some (.builtin id)) (ha : PA X (e :: es) t) (hn : x ≠ "__name__" := by decide) (hdb : (x == ("__debug__" : Str)) = false := by decide)
    (he : starEach (e :: es) X.env = (false, eval e X.env) :: starEach es X.env := by rfl) (hpl : (backTo pos (starEach es X.env)).any (·.1) = false := by rfl) : PE X (.Call (.Name x p) (e :: es) [] pos) (tCB r t) := by
  intro pins s σ H Q I h
  refine wpAny_Call_Name_kw (ld_blt I hg hm hv ?_ hn hdb)
  exact PyProof.Rows.callWith_builtin1 (thn (ha pos pins s σ H _ I h) fun us s1 ⟨vs, H1, I1, r1, q1⟩ => hc pins s1 σ H1 vs us Q I1 r1 q1) he hpl
theorem pe_callTy (hc : CallR X (.type T) r) (hg : Gl X x) (hm : X.mg x = none) (hv : bootBuiltins x = some (.type T)) (ha : PA X (e :: es) t) (hn : x ≠ "__name__" := by decide) (hdb : (x == ("__debug__" : Str)) = false := by decide)
    (he : starEach (e :: es) X.env = (false, eval e X.env) :: starEach es X.env := by rfl) (hpl : (backTo pos (starEach es X.env)).any (·.1) = false := by rfl) : PE X (.Call (.Name x p) (e :: es) [] pos) (tCB r t) := by
  intro pins s σ H Q I h
  refine wpAny_Call_Name_kw (ld_blt I hg hm hv ?_ hn hdb)
  exact PyProof.Rows.callWith_type1 (thn (ha pos pins s σ H _ I h) fun us s1 ⟨vs, H1, I1, r1, q1⟩ => hc pins s1 σ H1 vs us Q I1 r1 q1) he hpl
end
end L2
namespace L2
open PySem PySem.Spec PyProof.Rows
section
variable {κ : Type} [DecidableEq κ]
def valV (kvs : List (κ × V)) (k : κ) : Option V := (kvs.find? fun kv => decide (kv.1 = k)).map (·.2)
def putK (kvs : List (κ × V)) (k : κ) (v : V) : List (κ × V) :=
  if (kvs.any fun kv => decide (kv.1 = k)) = true then kvs.map (fun kv => if kv.1 = k then (kv.1, v) else kv) else kvs ++ [(k, v)]
theorem valV_pos {p : κ × V} {r : List (κ × V)} {k : κ} (e : p.1 = k) : valV (p :: r) k = some p.2 := by simp [valV, List.find?_cons, e]
theorem valV_neg {p : κ × V} {r : List (κ × V)} {k : κ} (e : ¬ p.1 = k) : valV (p :: r) k = valV r k := by simp [valV, List.find?_cons, e]
theorem valV_any (k : κ) : ∀ kvs : List (κ × V), (kvs.any fun kv => decide (kv.1 = k)) = (valV kvs k).isSome
  | [] => rfl
  | p :: r => by
    rw [List.any_cons]
    by_cases e : p.1 = k
    · simp only [valV_pos e, decide_eq_true e, Bool.true_or, Option.isSome_some]
    · rw [valV_neg e, decide_eq_false e, Bool.false_or]; exact valV_any k r
theorem valV_map (k j : κ) (y : V) : ∀ kvs : List (κ × V), valV (kvs.map fun kv => if kv.1 = k then (kv.1, y) else kv) j = (valV kvs j).map fun x => if j = k then y else x
  | [] => rfl
  | p :: r => by
    have ih := valV_map k j y r
    rw [List.map_cons]
    by_cases h : p.1 = k
    · rw [if_pos h]
      by_cases e : p.1 = j
      · rw [valV_pos (p := (p.1, y)) e, valV_pos e, Option.map_some, if_pos (e.symm.trans h)]
      · rw [valV_neg (p := (p.1, y)) e, valV_neg e, ih]
    · rw [if_neg h]
      by_cases e : p.1 = j
      · rw [valV_pos (p := p) e, valV_pos e, Option.map_some, if_neg (fun z => h (e.trans z))]
      · rw [valV_neg (p := p) e, valV_neg e, ih]
theorem valV_snoc (k j : κ) (y : V) : ∀ kvs : List (κ × V), valV kvs k = none → valV (kvs ++ [(k, y)]) j = if j = k then some y else valV kvs j
  | [], _ => by
    by_cases e : k = j
    · rw [if_pos e.symm]; exact valV_pos (p := (k, y)) e
    · rw [if_neg (fun z => e z.symm)]; exact valV_neg (p := (k, y)) e
  | p :: r, hn => by
    rw [List.cons_append]
    have hk : ¬ p.1 = k := fun z => by rw [valV_pos z] at hn; cases hn
    rw [valV_neg hk] at hn
    have ih := valV_snoc k j y r hn
    by_cases e : p.1 = j
    · rw [valV_pos e, valV_pos e, if_neg (fun z => hk (e.trans z))]
    · rw [valV_neg e, valV_neg e, ih]
theorem valV_put (kvs : List (κ × V)) (k j : κ) (y : V) : valV (putK kvs k y) j = if j = k then some y else valV kvs j := by
  unfold putK
  by_cases a : (kvs.any fun kv => decide (kv.1 = k)) = true
  · rw [if_pos a, valV_map]
    rw [valV_any] at a
    by_cases e : j = k
    · obtain ⟨x, hx⟩ := Option.isSome_iff_exists.mp a
      rw [if_pos e, e, hx, Option.map_some, if_pos rfl]
    · rw [if_neg e]
      cases valV kvs j with
      | none => rfl
      | some x => rw [Option.map_some, if_neg e]
  · rw [if_neg a]
    refine valV_snoc k j y kvs ?_
    rw [valV_any] at a
    cases q : valV kvs k with
    | none => rfl
    | some x => rw [q] at a; exact (a rfl).elim
theorem length_putK (kvs : List (κ × V)) (k : κ) (v : V) : (putK kvs k v).length ≤ kvs.length + 1 := by
  unfold putK
  split
  · rw [List.length_map]; omega
  · rw [List.length_append, List.length_cons, List.length_nil]; omega
theorem RelO.isSome_eq {o : Option V} {u : Option Value} (r : RelO o u) : o.isSome = u.isSome := by
  cases o with
  | none => cases u with
    | none => rfl
    | some _ => exact (show False from r).elim
  | some _ => cases u with
    | none => exact (show False from r).elim
    | some _ => rfl
theorem RelO.getD {o : Option V} {u : Option Value} {d : V} {d' : Value} (r : RelO o u) (rd : RelV d d') : RelV (o.getD d) (u.getD d') := by
  cases o with
  | none => cases u with
    | none => exact rd
    | some _ => exact (show False from r).elim
  | some _ => cases u with
    | none => exact (show False from r).elim
    | some _ => exact r
theorem KV.val {kvs : List (κ × V)} {vs : List (κ × Value)} (r : KV kvs vs) (k : κ) : RelO (valV kvs k) (valueAt vs k) := by
  unfold KV at r
  induction r with
  | nil => exact True.intro
  | @cons p q ps qs h t ih =>
    obtain ⟨h1, h2⟩ := h
    by_cases e : p.1 = k
    · have e' : q.1 = k := h1.symm.trans e
      have b : valueAt (q :: qs) k = some q.2 := by simp [valueAt, List.find?_cons, e']
      rw [valV_pos e, b]; exact h2
    · have e' : ¬ q.1 = k := fun z => e (h1.trans z)
      have b : valueAt (q :: qs) k = valueAt qs k := by simp [valueAt, List.find?_cons, e']
      rw [valV_neg e, b]; exact ih
theorem KV.any {kvs : List (κ × V)} {vs : List (κ × Value)} (r : KV kvs vs) (k : κ) : (kvs.any fun kv => decide (kv.1 = k)) = vs.any fun kv => decide (kv.1 = k) := by
  unfold KV at r
  induction r with
  | nil => rfl
  | cons h t ih => rw [List.any_cons, List.any_cons, ih, h.1]
theorem KV.repl {kvs : List (κ × V)} {vs : List (κ × Value)} (r : KV kvs vs) (k : κ) {y : V} {u : Value} (ry : RelV y u) :
    KV (kvs.map fun kv => if kv.1 = k then (kv.1, y) else kv) (vs.map fun kv => if kv.1 = k then (kv.1, u) else kv) := by
  unfold KV at r ⊢
  induction r with
  | nil => exact .nil
  | @cons p q ps qs h t ih =>
    rw [List.map_cons, List.map_cons]
    refine .cons ?_ ih
    obtain ⟨h1, h2⟩ := h
    by_cases e : p.1 = k
    · rw [if_pos e, if_pos (h1.symm.trans e)]; exact ⟨h1, ry⟩
    · rw [if_neg e, if_neg (fun z => e (h1.trans z))]; exact ⟨h1, h2⟩
theorem KV.put {kvs : List (κ × V)} {vs : List (κ × Value)} (r : KV kvs vs) (k : κ) {y : V} {u : Value} (ry : RelV y u) : KV (putK kvs k y) (stored vs k u) := by
  unfold putK stored
  rw [r.any k]
  by_cases e : (vs.any fun kv => decide (kv.1 = k)) = true
  · rw [if_pos e, if_pos e]; exact r.repl k ry
  · rw [if_neg e, if_neg e]; exact Paired.snoc r ⟨rfl, ry⟩
theorem KV.length {kvs : List (κ × V)} {vs : List (κ × Value)} (r : KV kvs vs) : kvs.length = vs.length := Paired.length r
end
theorem kV_is {P : Program} {w : World} {k : Key} {u : Value} (r : RelV (kV k) u) : (mixKind P w).is k u = true := by
  cases k with
  | inl i => obtain ⟨t, e⟩ := (show ∃ t, u = Value.int i t from r); subst e; exact mixKind_int P w i t
  | inr x => obtain ⟨t, e⟩ := (show ∃ t, u = Value.str x t from r); subst e; exact mixKind_str P w x t
theorem items_are {P : Program} {w : World} : ∀ {ks : List Key} {us : List Value}, Vals (ks.map kV) us → ItemsAre (mixKind P w) ks us
  | [], _, r => by rw [List.map_nil] at r; cases r; exact .nil
  | k :: ks, _, r => by
    rw [List.map_cons] at r
    cases r with
    | cons h t => exact .cons (kV_is h) (items_are t)
abbrev KT (H : Hp) : List (List Key × V) → List (List Key × Addr × Value) → Prop := Paired fun p q => p.1 = q.1 ∧ H q.2.1 = some (.tup (p.1.map kV)) ∧ RelV p.2 q.2.2
theorem KT.val {H : Hp} {kvs : List (List Key × V)} {xs : List (List Key × Addr × Value)} (r : KT H kvs xs) (k : List Key) : RelO (valV kvs k) ((atKey xs k).map (·.2)) := by
  induction r with
  | nil => exact True.intro
  | @cons p q ps qs h t ih =>
    obtain ⟨h1, _, h2⟩ := h
    by_cases e : p.1 = k
    · have e' : q.1 = k := h1.symm.trans e
      have b : atKey (q :: qs) k = some q.2 := by simp [atKey, List.find?_cons, e']
      rw [valV_pos e, b]; exact h2
    · have e' : ¬ q.1 = k := fun z => e (h1.trans z)
      have b : atKey (q :: qs) k = atKey qs k := by simp [atKey, List.find?_cons, e']
      rw [valV_neg e, b]; exact ih
theorem KT.repl {H : Hp} {kvs : List (List Key × V)} {xs : List (List Key × Addr × Value)} (r : KT H kvs xs) (k : List Key) {y : V} {u : Value} (ry : RelV y u) :
    KT H (kvs.map fun kv => if kv.1 = k then (kv.1, y) else kv) (xs.map (putAt k u)) := by
  induction r with
  | nil => exact .nil
  | @cons p q ps qs h t ih =>
    rw [List.map_cons, List.map_cons]
    refine .cons ?_ ih
    obtain ⟨h1, h2, h3⟩ := h
    unfold putAt
    by_cases e : p.1 = k
    · rw [if_pos e, if_pos (h1.symm.trans e)]; exact ⟨h1, h2, ry⟩
    · rw [if_neg e, if_neg (fun z => e (h1.trans z))]; exact ⟨h1, h2, h3⟩
theorem KT.put {H : Hp} {kvs : List (List Key × V)} {xs : List (List Key × Addr × Value)} (r : KT H kvs xs) (k : List Key) {b : Addr} {y : V} {u : Value} (hb : H b = some (.tup (k.map kV))) (ry : RelV y u) :
    KT H (putK kvs k y) (storedH xs k b u) := by
  have e : (kvs.any fun kv => decide (kv.1 = k)) = (atKey xs k).isSome := by
    rw [valV_any, (r.val k).isSome_eq, Option.isSome_map]
  unfold putK storedH
  rw [e]
  by_cases q : (atKey xs k).isSome = true
  · rw [if_pos q, if_pos q]; exact r.repl k ry
  · rw [if_neg q, if_neg q]; exact Paired.snoc r ⟨rfl, hb, ry⟩
theorem KT.keeps {H H' : Hp} {kvs : List (List Key × V)} {xs : List (List Key × Addr × Value)} (r : KT H kvs xs) (ht : ∀ b ys, H b = some (.tup ys) → H' b = some (.tup ys)) : KT H' kvs xs :=
  Paired.mapP r fun _ _ z => ⟨z.1, ht _ _ z.2.1, z.2.2⟩
section
variable {P : Program} {w : World} {H : Hp} {h : Heap} {a : Addr}
theorem rd_of {u : HO} (ok : HOk P w H h) (e : Rd H a u) : ObjOk P w H h a u := e.ok ok
theorem dk_rd {kvs : List (Key × V)} (ok : HOk P w H h) (e : Rd H a (.dK kvs)) : kvs.length ≤ sizeLine ∧ (a == sysModules) = false ∧ ∃ vs, KV kvs vs ∧ h.DictOf (mixKind P w) a vs :=
  show ObjOk P w H h a (.dK kvs) from rd_of ok e
theorem dk_of {kvs : List (Key × V)} (ok : HOk P w H h) (e : H a = some (.dK kvs)) : kvs.length ≤ sizeLine ∧ (a == sysModules) = false ∧ ∃ vs, KV kvs vs ∧ h.DictOf (mixKind P w) a vs := dk_rd ok (.inl e)
theorem key_of {ks : List Key} (ok : HOk P w H h) (e : H a = some (.tup (ks.map kV))) : (tupleKind (mixKind P w)).is h ks a := by
  obtain ⟨_, its, r, o, h1, h2, n, h3⟩ := (show ObjOk P w H h a (.tup (ks.map kV)) from ok a _ e)
  exact ⟨o, its.toArray, n, h1, h2, h3.1, by simpa using items_are r⟩
theorem dt_rd {kvs : List (List Key × V)} (ok : HOk P w H h) (e : Rd H a (.dT kvs)) : kvs.length ≤ sizeLine ∧ (a == sysModules) = false ∧
    ∃ xs, KT H kvs xs ∧ h.DictOfH (tupleKind (mixKind P w)) a xs := by
  obtain ⟨z, y, xs, r, o, es, ep, h1, h2, h3, h4, h5⟩ := (show ObjOk P w H h a (.dT kvs) from rd_of ok e)
  refine ⟨z, y, xs, r, o, es, ep, h1, h2, h3, h4, fun x hx => ?_, h5⟩
  have all : ∀ {l : List (List Key × V)} {m : List (List Key × Addr × Value)}, KT H l m → ∀ x ∈ m, (tupleKind (mixKind P w)).is h x.1 x.2.1 := by
    intro l m q
    induction q with
    | nil => intro x hx; exact nomatch hx
    | @cons p q ps qs hq t ih =>
      intro x hx
      rcases List.mem_cons.mp hx with e | hx
      · subst e
        exact key_of ok (by rw [← hq.1]; exact hq.2.1)
      · exact ih x hx
  exact all r x hx
theorem dt_of {kvs : List (List Key × V)} (ok : HOk P w H h) (e : H a = some (.dT kvs)) : kvs.length ≤ sizeLine ∧ (a == sysModules) = false ∧
    ∃ xs, KT H kvs xs ∧ h.DictOfH (tupleKind (mixKind P w)) a xs := dt_rd ok (.inl e)
end
def DGet (H : Hp) (a : Addr) (y : V) (r : Option V) : Prop :=
  (∃ kvs k, Rd H a (.dK kvs) ∧ y = kV k ∧ r = valV kvs k) ∨ ∃ kvs k b, Rd H a (.dT kvs) ∧ y = .ref b ∧ H b = some (.tup (k.map kV)) ∧ r = valV kvs k
def DPut (H : Hp) (a : Addr) (y v : V) (H' : Hp) : Prop :=
  (∃ kvs k, H a = some (.dK kvs) ∧ y = kV k ∧ kvs.length < sizeLine ∧ H' = upd H a (.dK (putK kvs k v))) ∨
  ∃ kvs k b, H a = some (.dT kvs) ∧ y = .ref b ∧ H b = some (.tup (k.map kV)) ∧ kvs.length < sizeLine ∧ H' = upd H a (.dT (putK kvs k v))
theorem DGet.t {H : Hp} {a b : Addr} {kvs : List (List Key × V)} {k : List Key} (e : H a = some (.dT kvs)) (eb : H b = some (.tup (k.map kV))) : DGet H a (.ref b) (valV kvs k) := .inr ⟨kvs, k, b, .inl e, rfl, eb, rfl⟩
section
variable {X : Cx} {pins : List (Addr × Obj)} {σ : St} {H : Hp} {s : Shared} {a : Addr} {y v : V} {u r : Value} {o : Option V} {A : Around} {E : Value → Shared → Prop}
theorem Inv.big (I : Inv X pins σ H s) : sysModules < s.heap.objs.size := by
  have h : mainGlobals < s.heap.objs.size := (I.mod.glob.keeps I.bk).lt
  exact Nat.lt_trans (by decide) h
theorem d_getItem {Q : Value → Shared → Prop} (hu : A.units + 1 < cLine) (I : Inv X pins σ H s) (g : DGet H a y (some v)) (ry : RelV y u) (h : ∀ w' s', Inv X pins σ H s' → RelV v w' → Q w' s') :
    wpAny (model X.prog X.w) A (getItem (.ref a) u) Q E s := by
  rcases g with ⟨kvs, k, e, ey, l⟩ | ⟨kvs, k, b, e, ey, eb, l⟩
  · subst ey
    obtain ⟨z, hd, vs, rel, dd⟩ := dk_rd I.hok e
    obtain ⟨w', hw, rw'⟩ := RelO.some_of (v := v) (o := valueAt vs k) (by rw [l]; exact rel.val k)
    exact wpAny_getItem_of (kV_is ry) dd.mapOf hw (h w' _ (I.tok _) rw')
  · subst ey
    cases (show u = Value.ref b from ry)
    obtain ⟨z, hd, xs, rel, dd⟩ := dt_rd I.hok e
    obtain ⟨w', hw, rw'⟩ := RelO.some_of (v := v) (o := (atKey xs k).map (·.2)) (by rw [l]; exact rel.val k)
    obtain ⟨p, hp, hp2⟩ := Option.map_eq_some_iff.mp hw
    refine wpAny_getItem_heap (tupleKind_room_in1 hu) (key_of I.hok eb) dd hp ?_
    rw [hp2]
    exact h w' _ (I.tok _) rw'
theorem d_write {h' : Heap} {t' : Nat} {ob : HO} (I : Inv X pins σ H s) (mu : Mut (H a)) (hs : Heap.SameBut a s.heap h') (he : ∃ q, h'.get? a = some q) (new : ObjOk X.prog X.w (upd H a ob) h' a ob) :
    Inv X pins σ (upd H a ob) { s with heap := h', toks := t' } :=
  I.write (x := a) (e := a) mu (.inl rfl) (fun b q hb z => (hs.2 b hb).trans z) he new
theorem dk_new {P : Program} {w : World} {H' : Hp} {h' : Heap} {kvs : List (Key × V)} {vs : List (Key × Value)} (z : kvs.length ≤ sizeLine) (hd : (a == sysModules) = false) (rel : KV kvs vs) (dd : h'.DictOf (mixKind P w) a vs) :
    ObjOk P w H' h' a (.dK kvs) := ⟨z, hd, vs, rel, dd⟩
theorem d_setItem {H' : Hp} {Q : Unit → Shared → Prop} (hu : A.units + 1 < cLine) (I : Inv X pins σ H s) (g : DPut H a y v H') (ry : RelV y u) (rv : RelV v r) (h : ∀ s', Inv X pins σ H' s' → Q () s') :
    wpAny (model X.prog X.w) A (setItem (.ref a) u r) Q E s := by
  rcases g with ⟨kvs, k, e, ey, l, eH⟩ | ⟨kvs, k, b, e, ey, eb, l, eH⟩
  · subst ey eH
    obtain ⟨z, hd, vs, rel, dd⟩ := dk_of I.hok e
    have hz : vs.length ≤ sizeLine := by rw [← rel.length]; exact z
    have hl : (putK kvs k v).length ≤ sizeLine := by have := length_putK kvs k v; omega
    refine wpAny_setItem_pairs (hsz := hz) (kV_is ry) dd fun h' dd' hs => h _ ?_
    have he : ∃ q, h'.get? a = some q := let ⟨q, _, _, hq, _⟩ := dd'; ⟨q, hq⟩
    exact d_write I (by rw [e]; exact True.intro) hs he (dk_new hl hd (rel.put k rv) dd')
  · subst ey eH
    cases (show u = Value.ref b from ry)
    obtain ⟨z, hd, xs, rel, dd⟩ := dt_of I.hok e
    have hz : xs.length ≤ sizeLine := by rw [← Paired.length rel]; exact z
    have hl : (putK kvs k v).length ≤ sizeLine := by have := length_putK kvs k v; omega
    refine wpAny_setItem_heap (hsz := hz) (tupleKind_room_in1 hu) (key_of I.hok eb) dd fun h' dd' hs => h _ ?_
    obtain ⟨q, es, ep, hq, h2, h3, h4, _, h5⟩ := dd'
    refine d_write I (by rw [e]; exact True.intro) hs ⟨q, hq⟩ ⟨hl, hd, _, (rel.put k eb rv).keeps fun c ys ec => ?_, q, es, ep, hq, h2, h3, h4, h5⟩
    rw [upd_ne (ne_of ec e (fun z => nomatch z))]
    exact ec
end
section
variable {X : Cx} {pins : List (Addr × Obj)} {σ : St} {H : Hp} {s : Shared} {a : Addr} {kvs : List (Key × V)} {k : Key} {u : Value} {A : Around} {E : Value → Shared → Prop}
end
def NoSl (i : Expr) : Prop := ∀ ov iv, subscripted i false ov iv = operate [ov, iv] (getItem ov iv)
theorem subD_of {prog : Program} {w : World} {A : Around} {E : Value → Shared → Prop} {s : Shared} {env : Env} {value slice : Expr} {pos : Pos} {T id : String} {Q : Value → Shared → Prop}
    (hl : typeLookup (.type T) "__getitem__" = pure (some (.builtin id))) (hs : NoSl slice)
    (h : wpAny (model prog w) A (eval value env) (fun o s₁ => wpAny (model prog w) A (eval slice env) (fun i s₂ => s₂.TypeIs o T ∧ wpAny (model prog w) A (getItem o i) Q E s₂) E s₁) E s) :
    wpAny (model prog w) A (eval (.Subscript value slice pos) env) Q E s := by
  refine Subscript_ (wpAny_mono h (fun o s₁ h₁ => wpAny_mono h₁ (fun i s₂ h₂ => ?_) fun _ _ x => x) fun _ _ x => x)
  obtain ⟨hT, h₂⟩ := h₂
  unfold subscriptTail
  refine wpAny_bind ?_
  rw [getitemInPython_of_ne hT.not_modules]
  refine wpAny_bind (wpAny_specialOf hT hl ?_)
  have fin : wpAny (model prog w) A (subscripted slice false o i) (fun r s₃ => wpAny (model prog w) A (letTemporaryGo value o r >>= fun _ => pure r) Q E s₃) E s₂ := by
    rw [hs o i]
    exact wpAny_operating (wpAny_mono h₂ (fun r s₃ h₃ => wpAny_bind (wpAny_letTemporaryGo (wpAny_pure h₃))) fun _ _ x => x)
  first
    | exact wpAny_pure (wpAny_bind fin)
    | exact wpAny_bind (wpAny_pure (wpAny_bind fin))
    | exact wpAny_bind fin
theorem dict_typeIs {X : Cx} {pins : List (Addr × Obj)} {σ : St} {H : Hp} {s : Shared} {a : Addr} {y : V} {o : Option V} (I : Inv X pins σ H s) (g : DGet H a y o) : s.TypeIs (.ref a) "dict" := by
  rcases g with ⟨kvs, k, e, _, _⟩ | ⟨kvs, k, b, e, _, _, _⟩
  · obtain ⟨_, _, vs, _, dd⟩ := dk_rd I.hok e
    exact dd.typeIs
  · obtain ⟨_, _, xs, _, dd⟩ := dt_rd I.hok e
    exact dd.typeIs
def tDGet (td ty : TE) : TE := fun σ H Q => td σ H fun x H1 => ty σ H1 fun y H2 => ∃ a v, x = .ref a ∧ DGet H2 a y (some v) ∧ Q v H2
def sDPut (td ty tv : TE) : TS := fun D σ H => tv σ H fun v H1 => td σ H1 fun x H2 => ty σ H2 fun y H3 => ∃ a H4, x = .ref a ∧ DPut H3 a y v H4 ∧ D.nx σ H4
section
variable {X : Cx} {o i e value : Expr} {pos pos' tpos : Pos} {td ty tv : TE}
theorem pe_dget (hu : X.A.units + 1 < cLine) (ho : PE X o td) (hi : PE X i ty) (hs : NoSl i) : PE X (.Subscript o i pos) (tDGet td ty) := by
  intro pins s σ H Q I h
  refine subD_of PySem.F.slot_dict_getitem.lookup hs (thn (ho pins s σ H _ I h) fun u s1 ⟨x, H1, I1, rx, q1⟩ => thn (hi pins s1 σ H1 _ I1 q1) fun iv s2 ⟨y, H2, I2, ry, a, v, ex, g, q2⟩ => ?_)
  subst ex
  obtain rfl : u = Value.ref a := rx
  exact ⟨dict_typeIs I2 g, d_getItem hu I2 g ry fun w' s3 I3 rw' => ⟨v, H2, I3, rw', q2⟩⟩
theorem ps_dput (hu : X.A.units + 1 < cLine) (ho : PE X o td) (hi : PE X i ty) (hv : PE X value tv) (hs : swapsWith value (some (.Subscript o i pos')) pos.line X.env = pure false) :
    PS X (.Assign [.Subscript o i pos'] value pos) (sDPut td ty tv) := by
  intro pins s σ H D I h
  refine wpAny_Assign_Subscript (thn (hv pins s σ H _ I h) fun r s1 ⟨v, H1, I1, rv, q1⟩ => thn (ho pins s1 σ H1 _ I1 q1) fun u s2 ⟨x, H2, I2, rx, q2⟩ => thn (hi pins s2 σ H2 _ I2 q2) fun iv s3 ⟨y, H3, I3, ry, a, H4, ex, g, q3⟩ => ?_) hs
  subst ex
  obtain rfl : u = Value.ref a := rx
  exact d_setItem hu I3 g ry rv fun s4 I4 => ⟨σ, H4, I4, q3⟩
end
theorem dk_empty {P : Program} {w : World} {H : Hp} (h : Heap) (hb : sysModules < h.objs.size) : ObjOk P w H (h.push { cls := .type "dict", data := .dict #[] }) h.objs.size (.dK []) :=
  ⟨Nat.zero_le _, beq_eq_false_iff_ne.mpr (Ne.symm (Nat.ne_of_lt hb)), [], .nil, Heap.DictOf.new h⟩
def tDNewK : TE := fun _ H Q => ∀ p, H p = none → Q (.ref p) (upd H p (.dK []))
section
variable {X : Cx} {pos : Pos}
theorem pe_dnewK : PE X (.Dict [] [] pos) tDNewK := fun pins s σ H Q I h =>
  wpAny_Dict_empty ⟨.ref s.heap.objs.size, _, I.laid (a := s.heap.objs.size) (o := .dK []) (t' := s.toks) (fun _ _ q => Heap.get?_push_of_some _ q) (Nat.le_refl _) (dk_empty s.heap I.big), rfl, h _ (I.hok.fresh (Nat.le_refl _))⟩
end
def mergeK (kvs more : List (Key × V)) : List (Key × V) := more.foldl (fun acc kv => putK acc kv.1 kv.2) kvs
theorem KV.merge : ∀ {more : List (Key × V)} {rs : List (Key × Value)} {kvs : List (Key × V)} {vs : List (Key × Value)}, KV more rs → KV kvs vs → KV (mergeK kvs more) (merged vs rs) := by
  intro more rs kvs vs r
  unfold KV at r
  induction r generalizing kvs vs with
  | nil => intro q; exact q
  | @cons p q ps qs h t ih =>
    intro r0
    have e : KV (putK kvs p.1 p.2) (stored vs q.1 q.2) := by
      have := r0.put p.1 h.2
      rw [← h.1]; exact this
    exact ih e
structure M1 (X : Cx) (o : Expr) (m : Str) (apos : Pos) (e : Expr) (cpos : Pos) : Prop where
  base : attributeBase o m X.env (eval o X.env) = eval o X.env
  few : ((backTo cpos (starEach [e] X.env)).all (fun x => !x.1) && (backToKw cpos (keywordEach [] X.env)).all (fun x => x.1.isSome)
    && decide (([e] : List Expr).length + ([] : List Keyword).length + (if ([] : List Keyword).isEmpty then 0 else 1) < 30)) = true
  line : (apos.endLine == cpos.line) = true
  trees : backTo cpos (starEach [e] X.env) = [(false, eval e X.env)]
structure M2 (X : Cx) (o : Expr) (m : Str) (apos : Pos) (e f : Expr) (cpos : Pos) : Prop where
  base : attributeBase o m X.env (eval o X.env) = eval o X.env
  few : ((backTo cpos (starEach [e, f] X.env)).all (fun x => !x.1) && (backToKw cpos (keywordEach [] X.env)).all (fun x => x.1.isSome)
    && decide (([e, f] : List Expr).length + ([] : List Keyword).length + (if ([] : List Keyword).isEmpty then 0 else 1) < 30)) = true
  line : (apos.endLine == cpos.line) = true
  trees : backTo cpos (starEach [e, f] X.env) = [(false, eval e X.env), (false, eval f X.env)]
def IsD (H : Hp) (a : Addr) : Prop := (∃ kvs, Rd H a (.dK kvs)) ∨ ∃ kvs, Rd H a (.dT kvs)
theorem isD_at {X : Cx} {pins : List (Addr × Obj)} {σ : St} {H : Hp} {s : Shared} {a : Addr} (I : Inv X pins σ H s) (d : IsD H a) :
    s.TypeIs (.ref a) "dict" ∧ (∀ b, Value.ref a = .ref b → ∃ ob, s.heap.get? b = some ob ∧ ob.dict = none) ∧ (a == sysModules) = false := by
  rcases d with ⟨kvs, e⟩ | ⟨kvs, e⟩
  · obtain ⟨_, hd, vs, _, dd⟩ := dk_rd I.hok e
    refine ⟨dd.typeIs, fun b q => ?_, hd⟩
    cases q
    obtain ⟨ob, _, _, h1, h2, _⟩ := dd
    exact ⟨ob, h1, h2.2.1⟩
  · obtain ⟨_, hd, xs, _, dd⟩ := dt_rd I.hok e
    refine ⟨dd.typeIs, fun b q => ?_, hd⟩
    cases q
    obtain ⟨ob, _, _, h1, h2, _⟩ := dd
    exact ⟨ob, h1, h2.2.1⟩
section
variable {X : Cx} {pins : List (Addr × Obj)} {σ : St} {H : Hp} {s : Shared} {a : Addr} {y d : V} {u r : Value} {o : Option V} {A : Around} {E : Value → Shared → Prop}
theorem d_get1 {Q : Value → Shared → Prop} (hu : A.units + 1 < cLine) (I : Inv X pins σ H s) (g : DGet H a y o) (ry : RelV y u) (h : ∀ w' s', Inv X pins σ H s' → RelV (o.getD .non) w' → Q w' s') :
    wpAny (model X.prog X.w) A (call (.builtin "dict.get") [.ref a, u]) Q E s := by
  rcases g with ⟨kvs, k, e, ey, l⟩ | ⟨kvs, k, b, e, ey, eb, l⟩
  · subst ey
    obtain ⟨z, hd, vs, rel, dd⟩ := dk_rd I.hok e
    refine call_meetsIn PySem.F.slot_dict_get dd.typeIs PySem.F.entry_dict_get (PySem.F.args_dict_get_2 _ _) (meets_dict_get (mixKind X.prog X.w) a (kV_is ry) hd) ⟨_, dd.mapOf, h _ _ (I.tok _) ?_⟩
    rw [l]
    exact (rel.val k).getD rfl
  · subst ey
    cases (show u = Value.ref b from ry)
    obtain ⟨z, hd, xs, rel, dd⟩ := dt_rd I.hok e
    refine call_meetsIn PySem.F.slot_dict_get dd.typeIs PySem.F.entry_dict_get (PySem.F.args_dict_get_2 _ _) (meetsH_dict_get (tupleKind (mixKind X.prog X.w)) a b hd) ⟨tupleKind_room_in1 hu, k, xs, key_of I.hok eb, dd, h _ _ (I.tok _) ?_⟩
    rw [l]
    exact (rel.val k).getD rfl
theorem d_get2 {Q : Value → Shared → Prop} (hu : A.units + 1 < cLine) (I : Inv X pins σ H s) (g : DGet H a y o) (ry : RelV y u) (rd : RelV d r) (h : ∀ w' s', Inv X pins σ H s' → RelV (o.getD d) w' → Q w' s') :
    wpAny (model X.prog X.w) A (call (.builtin "dict.get") [.ref a, u, r]) Q E s := by
  rcases g with ⟨kvs, k, e, ey, l⟩ | ⟨kvs, k, b, e, ey, eb, l⟩
  · subst ey
    obtain ⟨z, hd, vs, rel, dd⟩ := dk_rd I.hok e
    refine call_meetsIn PySem.F.slot_dict_get dd.typeIs PySem.F.entry_dict_get (PySem.F.args_dict_get_3 _ _ _) (meets_dict_get_default (mixKind X.prog X.w) a (kV_is ry) hd r) ⟨_, dd.mapOf, h _ _ (I.tok _) ?_⟩
    rw [l]
    exact (rel.val k).getD rd
  · subst ey
    cases (show u = Value.ref b from ry)
    obtain ⟨z, hd, xs, rel, dd⟩ := dt_rd I.hok e
    refine call_meetsIn PySem.F.slot_dict_get dd.typeIs PySem.F.entry_dict_get (PySem.F.args_dict_get_3 _ _ _) (meetsH_dict_get_default (tupleKind (mixKind X.prog X.w)) a b hd r) ⟨tupleKind_room_in1 hu, k, xs, key_of I.hok eb, dd, h _ _ (I.tok _) ?_⟩
    rw [l]
    exact (rel.val k).getD rd
end
def tDGet1 (td ty : TE) : TE := fun σ H Q => td σ H fun x H1 => ∃ a, x = .ref a ∧ IsD H1 a ∧ ty σ H1 fun y H2 => ∃ o, DGet H2 a y o ∧ Q (o.getD .non) H2
def tDGet2 (td ty tx : TE) : TE := fun σ H Q => td σ H fun x H1 => ∃ a, x = .ref a ∧ IsD H1 a ∧ ty σ H1 fun y H2 => tx σ H2 fun z H3 => ∃ o, DGet H3 a y o ∧ Q (o.getD z) H3
section
variable {X : Cx} {o e f : Expr} {apos cpos : Pos} {td ty tx : TE}
theorem pe_dget1 (hu : X.A.units + 1 < cLine) (ho : PE X o td) (he : PE X e ty) (m : M1 X o "get" apos e cpos) : PE X (.Call (.Attribute o "get" apos) [e] [] cpos) (tDGet1 td ty) := by
  intro pins s σ H Q I h
  refine wpAny_Call_method m.base m.few m.line PySem.F.plainAttrs_dict PySem.F.slot_dict_get PySem.F.type_dict_get (thn (ho pins s σ H _ I h) fun u s1 ⟨x, H1, I1, rx, a, ex, d, q1⟩ => ?_)
  subst ex
  obtain rfl : u = Value.ref a := rx
  obtain ⟨t1, t2, _⟩ := isD_at I1 d
  refine ⟨t1, t2, ?_⟩
  rw [m.trees]
  refine Calls.callWith_builtin rfl (Calls.evalArgs_plain (Calls.spliced_cons (thn (he pins s1 σ H1 _ I1 q1) fun iv s2 ⟨y, H2, I2, ry, ov, g, q2⟩ => Calls.spliced_nil ?_)))
  exact d_get1 hu I2 g ry fun w' s3 I3 rw' => ⟨_, H2, I3, rw', q2⟩
theorem pe_dget2 (hu : X.A.units + 1 < cLine) (ho : PE X o td) (he : PE X e ty) (hf : PE X f tx) (m : M2 X o "get" apos e f cpos) : PE X (.Call (.Attribute o "get" apos) [e, f] [] cpos) (tDGet2 td ty tx) := by
  intro pins s σ H Q I h
  refine wpAny_Call_method m.base m.few m.line PySem.F.plainAttrs_dict PySem.F.slot_dict_get PySem.F.type_dict_get (thn (ho pins s σ H _ I h) fun u s1 ⟨x, H1, I1, rx, a, ex, d, q1⟩ => ?_)
  subst ex
  obtain rfl : u = Value.ref a := rx
  obtain ⟨t1, t2, _⟩ := isD_at I1 d
  refine ⟨t1, t2, ?_⟩
  rw [m.trees]
  refine Calls.callWith_builtin rfl (Calls.evalArgs_plain (Calls.spliced_cons (thn (he pins s1 σ H1 _ I1 q1) fun iv s2 ⟨y, H2, I2, ry, q2⟩ =>
    Calls.spliced_cons (thn (hf pins s2 σ H2 _ I2 q2) fun fv s3 ⟨z, H3, I3, rz, ov, g, q3⟩ => Calls.spliced_nil ?_))))
  exact d_get2 hu I3 g ry rz fun w' s4 I4 rw' => ⟨_, H3, I4, rw', q3⟩
end
section
variable {X : Cx} {pins : List (Addr × Obj)} {σ : St} {H : Hp} {s : Shared} {a : Addr} {kvs : List (Key × V)} {A : Around} {E : Value → Shared → Prop}
theorem d_copyOf {Q : Value → Shared → Prop} (I : Inv X pins σ H s) (e : Rd H a (.dK kvs)) (h : ∀ p s', H p = none → Inv X pins σ (upd H p (.dK kvs)) s' → Q (.ref p) s') : wpAny (model X.prog X.w) A (call (.type "dict") [.ref a]) Q E s := by
  obtain ⟨z, hd, vs, rel, dd⟩ := dk_rd I.hok e
  refine kt_call_dict hd dd (by rw [← rel.length]; exact z) fun h' dd' hs => ?_
  refine h _ _ (I.hok.fresh (Nat.le_refl _)) (I.laid (a := s.heap.objs.size) (o := .dK kvs) (t' := s.toks) (fun b q hq => ?_) (Nat.le_refl _) (dk_new z (beq_eq_false_iff_ne.mpr (Ne.symm (Nat.ne_of_lt I.big))) rel dd'))
  exact (hs.2 b (Nat.ne_of_lt (Heap.lt_size hq))).trans (Heap.get?_push_of_some _ hq)
end
section
variable {X : Cx} {pins : List (Addr × Obj)} {σ : St} {H : Hp} {s : Shared} {a : Addr} {y : V} {u : Value} {A : Around} {E : Value → Shared → Prop}
end
end L2
namespace HT
open PySem PyProof.Rows
def lexLt : List Int → List Int → Bool
  | [], [] => false
  | [], _ :: _ => true
  | _ :: _, [] => false
  | x :: xs, y :: ys => if x = y then lexLt xs ys else decide (x < y)
theorem lexLt_cons (x y : Int) (xs ys : List Int) : lexLt (x :: xs) (y :: ys) = if x = y then lexLt xs ys else decide (x < y) := rfl
theorem lexLt_nil_nil : lexLt [] [] = false := rfl
theorem lexLt_nil_cons (y : Int) (ys : List Int) : lexLt [] (y :: ys) = true := rfl
theorem lexLt_cons_nil (x : Int) (xs : List Int) : lexLt (x :: xs) [] = false := rfl
theorem eqAt_int (A : Around) (s : Shared) (a : Int) (t : Tok) (c : Int) (u : Tok) : ∃ e, SeqAt.EqAt A s (.int a t) (.int c u) e ∧ (e = true ↔ a = c) :=
  ⟨(a == c), SeqAt.EqAt.int_int a t c u, by simp⟩
theorem rcLt_int (A : Around) (s : Shared) (a : Int) (t : Tok) (c : Int) (u : Tok) (prog : Program) (w : World) (E : Value → Shared → Prop) (Q : Value → Shared → Prop) (h : Q (.bool (decide (a < c))) s) :
    wpAny (model prog w) A (richCompare .Lt (.int a t) (.int c u)) Q E s :=
  (PyProof.Rows.lt_int h : wpAny (model prog w) A (compareOp .Lt (.int a t) (.int c u)) Q E s)
section
open PySem.SeqAt
open PySem.AutoSeq1 (wpAny_loadPart')
open PySem.MeetsSeq PySem.MeetsSeq2 PySem.MeetsSeq3
theorem tuple_lt_ints (l b : Addr) (items items2 : Array Value) (n n2 : Nat) (dd dd2 : Option Addr) (sl sl2 : Array (Option Value)) (ns ms : List Int) (hi : IntsAre items.toList ns) (hj : IntsAre items2.toList ms) :
    Meets (Builtin.«tuple.__lt__» ⟨[.ref l, .ref b], []⟩)
      (fun _ R s => s.heap.get? l = some { cls := .type "tuple", dict := dd, data := .seq items n, slots := sl } ∧ s.heap.get? b = some { cls := .type "tuple", dict := dd2, data := .seq items2 n2, slots := sl2 } ∧
        R (.ok (.ret (.bool (lexLt ns ms)))) s) :=
  .of_wp fun prog w A R s h => by
    obtain ⟨hp, g, d, tk, os⟩ := s; obtain ⟨hl, hb, h⟩ := h
    have f2 := AutoSeq1.sub_tuple_tuple
    have z1 : items.size = ns.length := by rw [← hi.length]; simp
    have z2 : items2.size = ms.length := by rw [← hj.length]; simp
    wp_walk using wpAny_loadPart' hl, wpAny_loadPart' hb, wpAny_forIn_list _ (fun rest b s' => b.1 = none ∧ s' = ⟨hp, g, d, tk, os⟩ ∧ ∃ (vs ws : List Value) (ns' ms' : List Int), rest = vs.zip ws ∧
      IntsAre vs ns' ∧ IntsAre ws ms' ∧ ns'.length + items2.size = ms'.length + items.size ∧ R (.ok (.ret (.bool (lexLt ns' ms')))) ⟨hp, g, d, tk, os⟩) _
    case turn =>
      rintro ⟨y, x⟩ rest b s' ⟨hb', rfl, vs, ws, ns', ms', hz, hvi, hwi, hlen, hR⟩
      cases hvi with
      | nil => rw [List.zip_nil_left] at hz; cases hz
      | cons a t hvi' =>
        cases hwi with
        | nil => rw [List.zip_nil_right] at hz; cases hz
        | cons c u hwi' =>
          rw [List.zip_cons_cons] at hz
          injection hz with hyx hrest
          injection hyx with hy hx
          subst hy hx
          rw [lexLt_cons] at hR
          simp only [List.length_cons] at hlen
          obtain ⟨e, he, hiff⟩ := eqAt_int A.in1 ⟨hp, g, d, tk, os⟩ a t c u
          refine wpAny_bind (he prog w _ _ ?_)
          cases e with
          | true =>
            rw [if_pos (hiff.mp rfl)] at hR
            wp_walk
            exact ⟨rfl, rfl, _, _, _, _, hrest, hvi', hwi', by omega, hR⟩
          | false =>
            rw [if_neg (fun q => absurd (hiff.mpr q) Bool.false_ne_true)] at hR
            have hri := rcLt_int A.in1 ⟨hp, g, d, tk, os⟩ a t c u prog w
            wp_walk using hri
            exact ⟨_, rfl, by simpa using hR⟩
    case fin =>
      rintro ⟨b1, b2⟩ s' ⟨hb', rfl, vs, ws, ns', ms', hz, hvi, hwi, hlen, hR⟩
      simp only at hb'
      subst hb'
      have hv : lexLt ns' ms' = decide (items.size < items2.size) := by
        cases hvi with
        | nil =>
          cases hwi with
          | nil =>
            simp only [List.length_nil] at hlen
            rw [lexLt_nil_nil]
            exact (decide_eq_false (by omega)).symm
          | cons c u hw =>
            simp only [List.length_nil, List.length_cons] at hlen
            rw [lexLt_nil_cons]
            exact (decide_eq_true (by omega)).symm
        | cons a t hv =>
          cases hwi with
          | nil =>
            simp only [List.length_nil, List.length_cons] at hlen
            rw [lexLt_cons_nil]
            exact (decide_eq_false (by omega)).symm
          | cons c u hw =>
            rw [List.zip_cons_cons] at hz
            cases hz
      rw [hv] at hR
      wp_walk
      exact ⟨_, rfl, by simpa [Builtin.Tuple.tupleCompareSizes] using hR⟩
    case h =>
      exact ⟨rfl, rfl, items.toList, items2.toList, ns, ms, rfl, hi, hj, by omega, h⟩
end
section
variable {prog : Program} {w : World} {A : Around} {E : Value → Shared → Prop} {s : Shared}
theorem lt_tupInts {l b : Addr} {items items2 : Array Value} {ns ms : List Int} {Q : Value → Shared → Prop} (hl : IsTup s.heap l items) (hb : IsTup s.heap b items2) (hi : IntsAre items.toList ns) (hj : IntsAre items2.toList ms)
    (hu : A.units < cLine) (h : Q (.bool (lexLt ns ms)) s) : wpAny (model prog w) A (compareOp .Lt (.ref l) (.ref b)) Q E s := by
  obtain ⟨⟨cls, dd, data, sl⟩, ho, hc, n, hd⟩ := id hl
  obtain ⟨⟨cls2, dd2, data2, sl2⟩, ho2, hc2, n2, hd2⟩ := id hb
  simp only at hc hd hc2 hd2
  subst hc hd hc2 hd2
  exact richCompare_meets_room (op := .Lt) ⟨_, ho, rfl⟩ ⟨_, ho2, rfl⟩ PySem.F.slot_tuple_lt PySem.F.entry_tuple_lt (PySem.F.args_tuple_lt_2 _ _) (tuple_lt_ints l b items items2 n n2 dd dd2 sl sl2 ns ms hi hj)
    ⟨ho, ho2, show Value.bool (lexLt ns ms) ≠ Value.notImplemented ∧ Q (.bool (lexLt ns ms)) s from ⟨(fun x => nomatch x), h⟩⟩ hu
theorem cat_tup {t b : Addr} {vs ws : List Value} {Q : Value → Shared → Prop} (ht : IsTup s.heap t vs.toArray) (hb : IsTup s.heap b ws.toArray) (hv : vs ≠ [])
    (h1 : ws = [] → Q (.ref t) s) (h2 : ws ≠ [] → Q (.ref s.heap.objs.size) { s with heap := s.heap.push { cls := .type "tuple", data := .seq (vs ++ ws).toArray } })
    (hsz : vs.length + ws.length ≤ sizeLine) : wpAny (model prog w) A (binaryOp .Add (.ref t) (.ref b)) Q E s := by
  obtain ⟨⟨cls, dd, data, sl⟩, ho, hc, n, hd⟩ := id ht
  obtain ⟨⟨cls2, dd2, data2, sl2⟩, ho2, hc2, n2, hd2⟩ := id hb
  simp only at hc hd hc2 hd2
  subst hc hd hc2 hd2
  have e : vs.toArray ++ ws.toArray = (vs ++ ws).toArray := by simp
  by_cases hw : ws = []
  · exact concat_meets ⟨_, ho, rfl⟩ ⟨_, ho2, rfl⟩ noFill_tuple_add seq_tuple_add PySem.F.slot_tuple_add PySem.F.entry_tuple_add (PySem.F.args_tuple_add_2 _ _)
      (tuple_addW1 t b vs.toArray ws.toArray n n2 dd dd2 sl sl2 (by simpa using hv) (by simp [hw])) ⟨ho, ho2, h1 hw⟩
  · refine concat_meets ⟨_, ho, rfl⟩ ⟨_, ho2, rfl⟩ noFill_tuple_add seq_tuple_add PySem.F.slot_tuple_add PySem.F.entry_tuple_add (PySem.F.args_tuple_add_2 _ _)
      (tuple_addW2 t b vs.toArray ws.toArray n n2 dd dd2 sl sl2 (by simpa using hv) (by simpa using hw) (by rw [List.size_toArray, List.size_toArray]; exact hsz)) ⟨ho, ho2, ?_⟩
    rw [e]
    exact h2 hw
def sIx (n d : Nat) : Option Int → Nat
  | none => d
  | some v => if v < 0 then (v + (n : Int)).toNat else min v.toNat n
theorem sIx_le (n d : Nat) (hd : d ≤ n) (o : Option Int) : sIx n d o ≤ n := by
  cases o with
  | none => exact hd
  | some v =>
    show (if v < 0 then (v + (n : Int)).toNat else min v.toNat n) ≤ n
    by_cases hv : v < 0
    · rw [if_pos hv]; omega
    · rw [if_neg hv]; exact Nat.min_le_right _ _
theorem clip_eq (v : Int) (n d : Nat) : (if v < 0 then max (v + (n : Int)) 0 else min v (n : Int)) = ((sIx n d (some v) : Nat) : Int) := by
  show (if v < 0 then max (v + (n : Int)) 0 else min v (n : Int)) = (((if v < 0 then (v + (n : Int)).toNat else min v.toNat n) : Nat) : Int)
  by_cases hv : v < 0
  · simp only [if_pos hv]; omega
  · simp only [if_neg hv]; omega
theorem adjust_gen (lo hi : Option Int) (n : Nat) : Builtin.Slice.sliceAdjust lo hi 1 (n : Int) = (((sIx n 0 lo : Nat) : Int), ((sIx n n hi : Nat) : Int)) := by
  have h1 : ¬ ((1 : Int) < 0) := by omega
  unfold Builtin.Slice.sliceAdjust
  simp only [h1, if_false]
  refine Prod.ext ?_ ?_
  · cases lo with
    | none => rfl
    | some v => exact clip_eq v n 0
  · cases hi with
    | none => rfl
    | some v => exact clip_eq v n n
theorem places_gen (i j : Nat) : Builtin.Slice.slicePlaces (i : Int) (j : Int) 1 = j - i := by
  unfold Builtin.Slice.slicePlaces
  have h1 : (1 : Int) > 0 := by omega
  simp only [h1, if_true, Int.ediv_one]
  split <;> omega
theorem slicePart_ {v : Value} {o : Option Int} {Q : Option Int → Shared → Prop} (p : IsPart v o) (h : Q o s) : wpAny (model prog w) A (Builtin.Slice.slicePartIndex v) Q E s := by
  cases p with
  | none => exact slicePart_none h
  | int i t => exact slicePart_int h
theorem sliceApplied_gen {sl : Addr} {vl vu : Value} {lo hi : Option Int} {n : Nat} {Q : Int × Int × Nat → Shared → Prop} (hs : s.heap.IsSliceOf sl vl vu .none) (pl : IsPart vl lo) (pu : IsPart vu hi)
    (h : Q (((sIx n 0 lo : Nat) : Int), 1, sIx n n hi - sIx n 0 lo) s) : wpAny (model prog w) A (Builtin.Slice.sliceApplied (.ref sl) (pure (n : Int))) Q E s := by
  obtain ⟨os, hos, hcs, hds⟩ := id hs
  unfold Builtin.Slice.sliceApplied Builtin.Slice.sliceFields
  refine wpAny_bind (wpAny_bind (wpAny_field hos hds (x := vl) rfl (wpAny_bind (wpAny_field hos hds (x := vu) rfl (wpAny_bind (wpAny_field hos hds (x := .none) rfl (wpAny_pure ?_)))))))
  refine wpAny_bind (slicePart_none ?_)
  show wpAny _ _ (if ((1 : Int) == 0) = true then _ else _) _ _ s
  rw [if_neg (by decide)]
  refine wpAny_bind (slicePart_ pl (wpAny_bind (slicePart_ pu (wpAny_bind (wpAny_pure ?_)))))
  show wpAny _ _ (match Builtin.Slice.sliceAdjust lo hi 1 (n : Int) with | (lo, hi) => pure (lo, (1 : Int), Builtin.Slice.slicePlaces lo hi 1)) _ _ s
  rw [adjust_gen lo hi n]
  show wpAny _ _ (pure (((sIx n 0 lo : Nat) : Int), (1 : Int), Builtin.Slice.slicePlaces ((sIx n 0 lo : Nat) : Int) ((sIx n n hi : Nat) : Int) 1)) _ _ s
  rw [places_gen]
  exact wpAny_pure h
theorem pick_gen (xs : Array Value) (i k : Nat) : ((List.range k).filterMap fun (m : Nat) => xs[((i : Int) + (m : Int) * 1).toNat]?).toArray = ((xs.toList.drop i).take k).toArray := by
  have e : (fun (m : Nat) => xs[((i : Int) + (m : Int) * 1).toNat]?) = fun m => xs[i + m]? := by
    funext m
    have : ((i : Int) + (m : Int) * 1).toNat = i + m := by omega
    rw [this]
  rw [e]
  have := pick_run xs i k
  rw [List.filterMap_map] at this
  have e2 : ((fun x => xs[x]?) ∘ fun x => i + x) = fun m => xs[i + m]? := rfl
  rw [e2] at this
  rw [this]
theorem getItem_tuple_cut {t sl : Addr} {items : Array Value} {vl vu : Value} {lo hi : Option Int} {Q : Value → Shared → Prop} (ht : IsTup s.heap t items) (hs : s.heap.IsSliceOf sl vl vu .none) (pl : IsPart vl lo) (pu : IsPart vu hi)
    (hw : ¬ (sIx items.size 0 lo = 0 ∧ sIx items.size items.size hi = items.size))
    (h : Q (.ref s.heap.objs.size) { s with heap := s.heap.push { cls := .type "tuple", data := .seq ((items.toList.drop (sIx items.size 0 lo)).take (sIx items.size items.size hi - sIx items.size 0 lo)).toArray } })
    (hsz : items.size ≤ sizeLine) : wpAny (model prog w) A (getItem (.ref t) (.ref sl)) Q E s := by
  have htake : sizeOk (.seq ((items.toList.drop (sIx items.size 0 lo)).take (sIx items.size items.size hi - sIx items.size 0 lo)).toArray) := by
    show ((items.toList.drop (sIx items.size 0 lo)).take (sIx items.size items.size hi - sIx items.size 0 lo)).toArray.size ≤ sizeLine
    rw [List.size_toArray, List.length_take, List.length_drop, Array.length_toList]
    omega
  have hj : sIx items.size items.size hi ≤ items.size := sIx_le _ _ (Nat.le_refl _) hi
  obtain ⟨os, hos, hcs, hds⟩ := id hs
  have hTs : s.TypeIs (.ref sl) "slice" := ⟨os, hos, hcs⟩
  unfold getItem
  try with_reducible refine wpAny_holding ?_
  first | refine wpAny_bind (wpAny_pure ?_) | skip
  refine wpAny_bind (wpAny_sequenceKey ht.typeIs (by decide) ?_)
  refine wpAny_bind (wpAny_callSpecial?_slot (name := Str.ofString "__getitem__") ht.typeIs PyProof.Rows.slot_tuple_getitem
    (wpAny_call_entry PyProof.Rows.slot_tuple_getitem ht.typeIs entry_tuple_getitem ?_ (args_tuple_getitem _ _)))
  show wpAny _ _ (Builtin.Tuple.tupleItemsOf (.ref t) >>= _) _ _ s
  refine wpAny_bind (tupleItemsOf_ ht ?_)
  refine wpAny_bind (wpAny_typeOf hTs ?_)
  rw [if_pos (by decide)]
  refine wpAny_bind (sliceApplied_gen hs pl pu ?_)
  have hno : ¬ ((((sIx items.size 0 lo : Nat) : Int) == 0 && (1 : Int) == 1 && (sIx items.size items.size hi - sIx items.size 0 lo) == items.size) = true) := by
    intro q
    rw [Bool.and_eq_true, Bool.and_eq_true] at q
    have q1 : ((sIx items.size 0 lo : Nat) : Int) = 0 := eq_of_beq q.1.1
    have q2 : sIx items.size items.size hi - sIx items.size 0 lo = items.size := eq_of_beq q.2
    exact hw ⟨by omega, by omega⟩
  show wpAny _ _ (if (((sIx items.size 0 lo : Nat) : Int) == 0 && (1 : Int) == 1 && (sIx items.size items.size hi - sIx items.size 0 lo) == items.size) = true then _ else _) _ _ s
  rw [if_neg hno, pick_gen]
  first
    | exact wpAny_bind (m := Builtin.Tuple.tupleExact _) (wpAny_newObj_type (wpAny_pure ⟨_, rfl, wpAny_pure h⟩) htake)
    | exact wpAny_bind (m := Builtin.Tuple.tupleExact _) (wpAny_newObj_type (wpAny_bind (wpAny_pure (wpAny_pure ⟨_, rfl, wpAny_pure h⟩))) htake)
    | exact wpAny_bind (wpAny_bind (m := Builtin.Tuple.tupleExact _) (wpAny_newObj_type (wpAny_pure (wpAny_pure ⟨_, rfl, wpAny_pure h⟩)) htake))
    | exact wpAny_bind (wpAny_bind (m := Builtin.Tuple.tupleExact _) (wpAny_newObj_type (wpAny_pure ⟨_, rfl, wpAny_pure h⟩) htake))
end
end HT
namespace L2
open PySem PySem.Spec PyProof.Rows
abbrev TO := St → Hp → (Option Int → Hp → Prop) → Prop
def PO (X : Cx) (e : Option Expr) (t : TO) : Prop :=
  ∀ (pins : List (Addr × Obj)) (s : Shared) (σ : St) (H : Hp) (Q : Option Int → Hp → Prop), Inv X pins σ H s → t σ H Q →
    wpAny (model X.prog X.w) X.A (evalPart e X.env) (fun u s' => ∃ o H', Inv X pins σ H' s' ∧ IsPart u o ∧ Q o H') X.xe s
def tNoPart : TO := fun _ H Q => Q none H
def tPart (t : TE) : TO := fun σ H Q => t σ H fun x H1 => ∃ i, x = .int i ∧ Q (some i) H1
theorem intsAre_of {ns : List Int} : ∀ {us : List Value}, Vals (ns.map V.int) us → IntsAre us ns := by
  induction ns with
  | nil => intro us r; rw [List.map_nil] at r; cases r; exact .nil
  | cons n ns ih =>
    intro us r
    rw [List.map_cons] at r
    cases r with
    | cons r1 r2 =>
      obtain ⟨t, e⟩ := r1
      subst e
      exact .cons n t (ih r2)
section
variable {X : Cx} {e : Expr} {te : TE} {lo hi : Option Expr} {tl th : TO} {pos p2 : Pos}
theorem po_none : PO X none tNoPart := by
  intro pins s σ H Q I h
  rw [evalPart_none]
  exact wpAny_pure ⟨none, H, I, .none, h⟩
theorem po_some (h : PE X e te) : PO X (some e) (tPart te) := by
  intro pins s σ H Q I hw
  rw [evalPart_some]
  refine thn (h pins s σ H _ I hw) fun u s1 ⟨x, H1, I1, r1, q1⟩ => ?_
  obtain ⟨i, rfl, q⟩ := q1
  obtain ⟨t, rfl⟩ := r1
  exact ⟨some i, H1, I1, .int i t, q⟩
def SlR (X : Cx) (r : V → Option Int → Option Int → Hp → VK → Prop) : Prop :=
  ∀ (pins : List (Addr × Obj)) (s : Shared) (σ : St) (H : Hp) (x : V) (v vl vu : Value) (lo hi : Option Int) (sl : Addr) (Q : VK), Inv X pins σ H s → RelV x v → s.heap.IsSliceOf sl vl vu .none → IsPart vl lo → IsPart vu hi → r x lo hi H Q →
    ∃ T id, typeLookup (.type T) "__getitem__" = pure (some (.builtin id)) ∧ s.TypeIs v T ∧ wpAny (model X.prog X.w) X.A (getItem v (.ref sl)) (EP X pins σ Q) X.xe s
def tSl (r : V → Option Int → Option Int → Hp → VK → Prop) (te : TE) (tl th : TO) : TE := fun σ H Q => te σ H fun x H1 => tl σ H1 fun l H2 => th σ H2 fun u H3 => r x l u H3 Q
theorem pe_slice {r : V → Option Int → Option Int → Hp → VK → Prop} (hr : SlR X r) (he : PE X e te) (hl : PO X lo tl) (hu : PO X hi th) : PE X (.Subscript e (.Slice lo hi none p2) pos) (tSl r te tl th) := by
  intro pins s σ H Q I h
  refine Subscript_ (thn (he pins s σ H _ I h) fun v s1 ⟨x, H1, I1, r1, q1⟩ => ?_)
  refine wpAny_Slice (thn (hl pins s1 σ H1 _ I1 q1) fun vl s2 ⟨l, H2, I2, pl, q2⟩ => thn (hu pins s2 σ H2 _ I2 q2) fun vu s3 ⟨u, H3, I3, pu, q3⟩ => ?_)
  rw [evalPart_none]
  refine wpAny_pure ?_
  have I4 : Inv X pins σ H3 { s3 with heap := s3.heap.push { cls := .type "slice", data := .fields #[vl, vu, .none] } } := I3.kept (t' := s3.toks) fun b ob q => Heap.get?_push_of_some _ q
  obtain ⟨T, id, hT, ht, hg⟩ := hr pins { s3 with heap := s3.heap.push { cls := .type "slice", data := .fields #[vl, vu, .none] } } σ H3 x v vl vu l u s3.heap.objs.size Q I4 r1 (Heap.IsSliceOf.new ..) pl pu q3
  show wpAny (model X.prog X.w) X.A (subscriptTail e (.Slice lo hi none p2) v (.ref s3.heap.objs.size)) (EP X pins σ Q) X.xe { s3 with heap := s3.heap.push { cls := .type "slice", data := .fields #[vl, vu, .none] } }
  exact tail_any (ops := [.ref s3.heap.objs.size, v]) ht hT hg (by with_unfolding_all rfl)
def cutV (xs : List V) (lo hi : Option Int) : List V := (xs.drop (HT.sIx xs.length 0 lo)).take (HT.sIx xs.length xs.length hi - HT.sIx xs.length 0 lo)
theorem cutV_length (xs : List V) (lo hi : Option Int) : (cutV xs lo hi).length ≤ xs.length := by
  unfold cutV
  rw [List.length_take, List.length_drop]
  omega
def rSlT (K : PySem.W.Frag) : V → Option Int → Option Int → Hp → VK → Prop := fun x lo hi H Q => ∃ a xs, x = .ref a ∧ SqT K H a xs ∧
  ¬ (HT.sIx xs.length 0 lo = 0 ∧ HT.sIx xs.length xs.length hi = xs.length) ∧ ∀ p, H p = none → Q (.ref p) (upd H p (.tup (cutV xs lo hi)))
theorem sl_tup : SlR X (rSlT X.K) := by
  intro pins s σ H x v vl vu lo hi sl Q I rx hs pl pu h
  obtain ⟨a, xs, rfl, hx, hw, q⟩ := h
  cases rx
  obtain ⟨its, r, ht, hz⟩ := I.tuple hx
  have hlen : its.toArray.size = xs.length := by rw [List.size_toArray]; exact r.length.symm
  refine ⟨"tuple", _, PyProof.Rows.slot_tuple_getitem.lookup, ht.typeIs, ?_⟩
  refine HT.getItem_tuple_cut ht hs pl pu (by rw [hlen]; exact hw) ?_ (by rw [hlen]; exact hz)
  rw [hlen]
  refine ⟨.ref s.heap.objs.size, _, I.laid (t' := s.toks) (o := .tup (cutV xs lo hi)) (fun b ob q => Heap.get?_push_of_some _ q) (Nat.le_refl _) ?_, rfl, q _ (I.hok.fresh (Nat.le_refl _))⟩
  exact ⟨Nat.le_trans (cutV_length xs lo hi) hz, _, (r.drop (HT.sIx xs.length 0 lo)).take (HT.sIx xs.length xs.length hi - HT.sIx xs.length 0 lo), IsTpl.new _ _⟩
def rCatT (K : PySem.W.Frag) : R2 := fun x y H Q => ∃ a b xs ys, x = .ref a ∧ y = .ref b ∧ SqT K H a xs ∧ SqT K H b ys ∧ xs ≠ [] ∧ xs.length + ys.length ≤ sizeLine ∧
  (ys = [] → Q (.ref a) H) ∧ (ys ≠ [] → ∀ p, H p = none → Q (.ref p) (upd H p (.tup (xs ++ ys))))
theorem Vals.nil_iff {xs : List V} {us : List Value} (r : Vals xs us) : us = [] ↔ xs = [] := by
  cases r with
  | nil => simp
  | cons _ _ => simp
theorem op_catT : OpR X (binaryOp .Add) (rCatT X.K) := by
  intro pins s σ H x y v u Q I rx ry h
  obtain ⟨a, b, xs, ys, rfl, rfl, ha, hb, hx, hz, q1, q2⟩ := h
  cases rx
  cases ry
  obtain ⟨its, r1, p1, _⟩ := I.tuple ha
  obtain ⟨its2, r2, p2, _⟩ := I.tuple hb
  refine HT.cat_tup p1 p2 (fun z => hx (r1.nil_iff.mp z)) (fun z => ⟨.ref a, H, I, rfl, q1 (r2.nil_iff.mp z)⟩) (fun z => ?_) (by rw [← r1.length, ← r2.length]; exact hz)
  refine ⟨.ref s.heap.objs.size, _, I.laid (t' := s.toks) (o := .tup (xs ++ ys)) (fun b ob q => Heap.get?_push_of_some _ q) (Nat.le_refl _) ?_, rfl, q2 (fun w => z (r2.nil_iff.mpr w)) _ (I.hok.fresh (Nat.le_refl _))⟩
  exact ⟨by rw [List.length_append]; exact hz, _, r1.append r2, IsTpl.new _ _⟩
end
end L2
namespace L2
open PySem PySem.Spec PyProof.Rows
def ixN (n : Nat) (i : Int) : Option Nat := if 0 ≤ i then (if i < n then some i.toNat else none) else if -(n : Int) ≤ i then some (i + n).toNat else none
def atI {α : Type} (xs : List α) (i : Int) : Option α := (ixN xs.length i).bind fun j => xs[j]?
theorem ixN_seq {n : Nat} {i : Int} {j : Nat} (h : ixN n i = some j) : seqIndex? i n = some j ∧ j < n ∧ -(n : Int) ≤ i ∧ i < n := by
  unfold ixN at h
  by_cases h0 : 0 ≤ i
  · rw [if_pos h0] at h
    by_cases h1 : i < n
    · rw [if_pos h1] at h
      have e : i.toNat = j := Option.some.inj h
      exact ⟨by rw [seqIndex_of h0 h1, e], by omega, by omega, h1⟩
    · rw [if_neg h1] at h; cases h
  · rw [if_neg h0] at h
    by_cases h1 : -(n : Int) ≤ i
    · rw [if_pos h1] at h
      have e : (i + n).toNat = j := Option.some.inj h
      exact ⟨by rw [seqIndex_neg (by omega) h1, e], by omega, h1, by omega⟩
    · rw [if_neg h1] at h; cases h
theorem atI_get {α : Type} {xs : List α} {i : Int} {v : α} (h : atI xs i = some v) : ∃ j, seqIndex? i xs.length = some j ∧ xs[j]? = some v ∧ j < xs.length ∧ -(xs.length : Int) ≤ i ∧ i < xs.length := by
  unfold atI at h
  cases e : ixN xs.length i with
  | none => rw [e] at h; cases h
  | some j =>
    rw [e] at h
    obtain ⟨h1, h2, h3, h4⟩ := ixN_seq e
    exact ⟨j, h1, h, h2, h3, h4⟩
theorem atI_nat {α : Type} {xs : List α} {j : Nat} {v : α} (h : xs[j]? = some v) : atI xs (j : Int) = some v := by
  have hj : j < xs.length := (List.getElem?_eq_some_iff.mp h).1
  have e : ixN xs.length (j : Int) = some j := by
    unfold ixN
    rw [if_pos (by omega), if_pos (by omega)]; simp
  unfold atI; rw [e]; exact h
theorem atI_last {α : Type} (xs : List α) (v : α) : atI (xs ++ [v]) (-1) = some v := by
  have hl : (xs ++ [v]).length = xs.length + 1 := by simp
  have e : ixN (xs ++ [v]).length (-1) = some xs.length := by
    unfold ixN
    rw [hl, if_neg (by decide), if_pos (by omega)]
    congr 1
    omega
  unfold atI
  rw [e]
  show (xs ++ [v])[xs.length]? = some v
  simp
def PlainIx (b : Expr) : Prop := ∀ o i, subscripted b false o i = operate [o, i] (getItem o i)
def IxR (X : Cx) (r : R2) : Prop :=
  ∀ (value slice : Expr) (pins : List (Addr × Obj)) (s : Shared) (σ : St) (H : Hp) (x y : V) (v u : Value) (Q : VK), Inv X pins σ H s → RelV x v → RelV y u → r x y H Q →
    subscripted slice false v u = operate [v, u] (getItem v u) → wpAny (model X.prog X.w) X.A (subscriptTail value slice v u) (EP X pins σ Q) X.xe s
def MtR (X : Cx) (id : String) (r : V → List V → Hp → VK → Prop) : Prop :=
  ∀ (pins : List (Addr × Obj)) (s : Shared) (σ : St) (H : Hp) (x : V) (xs : List V) (v : Value) (us : List Value) (Q : VK), Inv X pins σ H s → RelV x v → Vals xs us → r x xs H Q →
    wpAny (model X.prog X.w) X.A (call (.builtin id) (v :: us)) (EP X pins σ Q) X.xe s
section
variable {X : Cx} {a b : Expr} {ta tb : TE} {pos : Pos}
theorem IxR.or {r r' : R2} (h : IxR X r) (h' : IxR X r') : IxR X (fun x y H Q => r x y H Q ∨ r' x y H Q) := by
  intro value slice pins s σ H x y v u Q I rx ry q hs
  rcases q with q | q
  · exact h value slice pins s σ H x y v u Q I rx ry q hs
  · exact h' value slice pins s σ H x y v u Q I rx ry q hs
theorem pe_ix {r : R2} (hr : IxR X r) (ha : PE X a ta) (hb : PE X b tb) (hs : PlainIx b) : PE X (.Subscript a b pos) (tOp r ta tb) := by
  intro pins s σ H Q I h
  exact Subscript_ (binT ha hb I h fun v u s2 x y H2 I2 rx ry q => hr a b pins s2 σ H2 x y v u Q I2 rx ry q (hs _ _))
def rIxL (K : PySem.W.Frag) : R2 := fun x y H Q => ∃ p xs i v, x = .ref p ∧ y = .int i ∧ SqL K H p xs ∧ atI xs i = some v ∧ Q v H
def rIxT (K : PySem.W.Frag) : R2 := fun x y H Q => ∃ p xs i v, x = .ref p ∧ y = .int i ∧ SqT K H p xs ∧ atI xs i = some v ∧ Q v H
def rIxS : R2 := fun x y H Q => ∃ z i c, x = .str z ∧ y = .int i ∧ z.length ≤ sizeLine ∧ atI z.cps.toList i = some c ∧ Q (.str ⟨#[c]⟩) H
theorem ix_list : IxR X (rIxL X.K) := by
  intro value slice pins s σ H x y v u Q I rx ry h hs
  obtain ⟨p, xs, i, z, rfl, rfl, hq, he, q⟩ := h
  cases rx
  obtain ⟨t, rfl⟩ := ry
  obtain ⟨its, r, pl, hz⟩ := I.list hq
  obtain ⟨j, h1, h2, h3, h4, h5⟩ := atI_get he
  obtain ⟨w, ew, rw'⟩ := r.get h2
  have hl := r.length
  have hn := line63
  have fin : EP X pins σ Q w s := ⟨z, H, I, rw', q⟩
  by_cases h0 : 0 ≤ i
  · have hj : i.toNat = j := by
      rw [seqIndex_of h0 h5] at h1
      exact Option.some.inj h1
    exact item_listR pl.isList h0 (by omega) (by rw [hj]; simpa using ew) fin hs
  · have hj : (i + (its.toArray.size : Int)).toNat = j := by
      rw [seqIndex_neg (by omega) h4] at h1
      rw [List.size_toArray, ← hl]
      exact Option.some.inj h1
    exact subscriptTail_builtinR (x := w) pl.isList.typeIs slot_list_getitem.lookup
      (wpAny_getItem_list_neg (Q := fun r s' => r = w ∧ EP X pins σ Q r s') pl.isList (by omega) (by rw [List.size_toArray] <;> omega) (by omega) (by rw [hj]; simpa using ew) ⟨rfl, fin⟩) hs
theorem ix_tup : IxR X (rIxT X.K) := by
  intro value slice pins s σ H x y v u Q I rx ry h hs
  obtain ⟨p, xs, i, z, rfl, rfl, hq, he, q⟩ := h
  cases rx
  obtain ⟨t, rfl⟩ := ry
  obtain ⟨its, r, pl, hz⟩ := I.tuple hq
  obtain ⟨j, h1, h2, h3, h4, h5⟩ := atI_get he
  obtain ⟨w, ew, rw'⟩ := r.get h2
  have hl := r.length
  have hn := line63
  have fin : EP X pins σ Q w s := ⟨z, H, I, rw', q⟩
  exact subscriptTail_builtinR (x := w) pl.typeIs slot_tuple_getitem.lookup
    (getItem_tuple (j := j) (Q := fun r s' => r = w ∧ EP X pins σ Q r s') pl (by omega) (by omega) (by rw [List.size_toArray, ← hl]; exact h1) (by simpa using ew) ⟨rfl, fin⟩) hs
theorem ix_str : IxR X rIxS := by
  intro value slice pins s σ H x y v u Q I rx ry h hs
  obtain ⟨z, i, c, rfl, rfl, hz, he, q⟩ := h
  obtain ⟨t, rfl⟩ := rx
  obtain ⟨t', rfl⟩ := ry
  obtain ⟨j, h1, h2, h3, h4, h5⟩ := atI_get he
  have hl : z.cps.toList.length = z.length := by simp [Str.length]
  rw [hl] at h1 h4 h5
  have hn := line63
  exact tail_any (typeIs_str s z t) slot_str_getitem.lookup (getItem_str (c := c) (by
    have e1 : decide (i < -(2 ^ 63 : Int)) = false := decide_eq_false (by omega)
    have e2 : decide (i ≥ 2 ^ 63) = false := decide_eq_false (by omega)
    rw [e1, e2, Bool.or_false]) (by rw [h1]; simpa using h2) ⟨.str ⟨#[c]⟩, H, I.tok _, ⟨_, rfl⟩, q⟩) hs
def rIx (K : PySem.W.Frag) : R2 := fun x y H Q => rIxL K x y H Q ∨ rIxT K x y H Q ∨ rIxS x y H Q
theorem ix_seq : IxR X (rIx X.K) := ix_list.or (ix_tup.or ix_str)
theorem slice_bounds (lo hi : Option Int) (n : Nat) : (sliceBounds lo hi none n).1 = ((HT.sIx n 0 lo : Nat) : Int) ∧ (sliceBounds lo hi none n).2.1 = ((HT.sIx n n hi : Nat) : Int) ∧ (sliceBounds lo hi none n).2.2 = 1 := by
  refine ⟨?_, ?_, rfl⟩
  · cases lo with
    | none => simp [sliceBounds, HT.sIx]
    | some i =>
      simp only [sliceBounds, HT.sIx, Option.getD_none, show (1 : Int) > 0 by decide, if_true]
      by_cases h : i < 0
      · simp only [h, if_true] <;> omega
      · simp only [h, if_false] <;> omega
  · cases hi with
    | none => simp [sliceBounds, HT.sIx]
    | some i =>
      simp only [sliceBounds, HT.sIx, Option.getD_none, show (1 : Int) > 0 by decide, if_true]
      by_cases h : i < 0
      · simp only [h, if_true] <;> omega
      · simp only [h, if_false] <;> omega
theorem slicePick_cut (its : List Value) (lo hi : Option Int) : slicePick its.toArray lo hi none = ((its.drop (HT.sIx its.length 0 lo)).take (HT.sIx its.length its.length hi - HT.sIx its.length 0 lo)).toArray := by
  obtain ⟨h1, h2, h3⟩ := slice_bounds lo hi its.toArray.size
  unfold slicePick
  rw [h1, h2, h3]
  simp only [sliceRange_one, pick_run, List.size_toArray] <;> rfl
def rSlL (K : PySem.W.Frag) : V → Option Int → Option Int → Hp → VK → Prop := fun x lo hi H Q => ∃ a xs, x = .ref a ∧ SqL K H a xs ∧ ∀ p, H p = none → Q (.ref p) (upd H p (.lst (cutV xs lo hi)))
theorem sl_list : SlR X (rSlL X.K) := by
  intro pins s σ H x v vl vu lo hi sl Q I rx hs pl pu h
  obtain ⟨a, xs, rfl, hx, q⟩ := h
  cases rx
  obtain ⟨its, r, ht, hz⟩ := I.list hx
  have hlen := r.length
  refine ⟨"list", _, slot_list_getitem.lookup, ht.isList.typeIs, ?_⟩
  refine wpAny_getItem_list_slice ht.isList hs pl pu .none (by simp) ?_ (by rw [List.size_toArray] <;> omega)
  rw [slicePick_cut, ← hlen]
  refine ⟨.ref s.heap.objs.size, _, I.laid (t' := s.toks) (o := .lst (cutV xs lo hi)) (fun b ob q => Heap.get?_push_of_some _ q) (Nat.le_refl _) ?_, rfl, q _ (I.hok.fresh (Nat.le_refl _))⟩
  exact ⟨Nat.le_trans (cutV_length xs lo hi) hz, _, 0, (r.drop (HT.sIx xs.length 0 lo)).take (HT.sIx xs.length xs.length hi - HT.sIx xs.length 0 lo), Heap.get?_push_size _ rfl⟩
theorem call_len_seq : CallR X (.builtin "len") (fun xs H Q => ∃ p ys, xs = [.ref p] ∧ (SqL X.K H p ys ∨ SqT X.K H p ys) ∧ Q (.int ys.length) H) := by
  intro pins s σ H xs us Q I r h
  obtain ⟨p, ys, rfl, hq, q⟩ := h
  obtain ⟨u, rfl, rx⟩ := vals1 r
  cases rx
  have hn := line63
  rcases hq with hq | hq
  · obtain ⟨its, r', pl, hz⟩ := I.list hq
    have hlen := r'.length
    exact Calls.call_len_list pl.isList (by simp only [List.size_toArray] <;> omega) ⟨.int ys.length, H, I.tok _, ⟨s.toks + 1, by rw [List.size_toArray, hlen]⟩, q⟩
  · obtain ⟨its, r', pl, hz⟩ := I.tuple hq
    have hlen := r'.length
    exact len_tuple pl (by simp only [List.size_toArray] <;> omega) ⟨.int ys.length, H, I.tok _, ⟨s.toks + 1, by rw [List.size_toArray, hlen]⟩, q⟩
theorem call_list_of : CallR X (.type "list") (fun xs H Q => ∃ p ys, xs = [.ref p] ∧ (SqL X.K H p ys ∨ SqT X.K H p ys) ∧ ∀ l, H l = none → Q (.ref l) (upd H l (.lst ys))) := by
  intro pins s σ H xs us Q I r h
  obtain ⟨p, ys, rfl, hq, q⟩ := h
  obtain ⟨u, rfl, rx⟩ := vals1 r
  cases rx
  have fin : ∀ (its : List Value), Vals ys its → ys.length ≤ sizeLine → ∀ (h' : Heap) (c' : Nat), (∀ b o', s.heap.get? b = some o' → h'.get? b = some o') →
      h'.get? s.heap.objs.size = some { cls := .type "list", dict := none, data := .seq its.toArray c', slots := #[] } → EP X pins σ Q (.ref s.heap.objs.size) { s with heap := h' } := fun its r' hz h' c' kp e =>
    ⟨.ref s.heap.objs.size, _, I.laid (t' := s.toks) kp (Nat.le_refl _) (show ObjOk X.prog X.w _ h' _ (.lst ys) from ⟨hz, its, c', r', e⟩), rfl, q _ (I.hok.fresh (Nat.le_refl _))⟩
  rcases hq with hq | hq
  · obtain ⟨its, r', pl, hz⟩ := I.list hq
    have hlen := r'.length
    obtain ⟨o, ho, hc, n, hd⟩ := pl.isList
    exact call_list_seq p (.inl rfl) ho hc hd (fun h' c' kp e => fin its r' hz h' c' kp e) (by simp only [List.size_toArray] <;> omega)
  · obtain ⟨its, r', pl, hz⟩ := I.tuple hq
    have hlen := r'.length
    obtain ⟨o, ho, hc, n, hd⟩ := pl
    exact call_list_seq p (.inr rfl) ho hc hd (fun h' c' kp e => fin its r' hz h' c' kp e) (by simp only [List.size_toArray] <;> omega)
theorem call_tuple_of : CallR X (.type "tuple") (fun xs H Q => ∃ p ys, xs = [.ref p] ∧ ((SqL X.K H p ys ∧ ∀ l, H l = none → Q (.ref l) (upd H l (.tup ys))) ∨ (SqT X.K H p ys ∧ Q (.ref p) H))) := by
  intro pins s σ H xs us Q I r h
  obtain ⟨p, ys, rfl, h⟩ := h
  obtain ⟨u, rfl, rx⟩ := vals1 r
  cases rx
  rcases h with ⟨hq, q⟩ | ⟨hq, q⟩
  · obtain ⟨its, r', pl, hz⟩ := I.list hq
    have hlen := r'.length
    refine call_tuple_list pl.isList (fun h' kp => ?_) (by simp only [List.size_toArray] <;> omega)
    have I1 : Inv X pins σ H { s with heap := h' } := I.kept (t' := s.toks) kp
    have I2 : Inv X pins σ (upd H h'.objs.size (.tup ys)) { s with heap := h'.push { cls := .type "tuple", data := .seq its.toArray } } :=
      I1.laid (t' := s.toks) (fun b o e => Heap.get?_push_of_some _ e) (Nat.le_refl _) (show ObjOk X.prog X.w _ _ _ (.tup ys) from ⟨hz, its, r', IsTpl.new _ _⟩)
    exact ⟨.ref h'.objs.size, _, I2, rfl, q _ (I1.hok.fresh (Nat.le_refl _))⟩
  · obtain ⟨its, r', pl, hz⟩ := I.tuple hq
    exact call_tuple_same pl ⟨.ref p, H, I, rfl, q⟩
def tyV (K : PySem.W.Frag) (T : String) (x : V) (H : Hp) : Prop := match x with
  | .str _ => T = "str"
  | .int _ => T = "int"
  | .ref p => (T = "list" ∧ ∃ xs, SqL K H p xs) ∨ (T = "tuple" ∧ ∃ o, K.lookup p = some o ∧ o.cls = .type "tuple" ∧ o.dict = none) ∨
      (T = "dict" ∧ ((∃ kvs, H p = some (.dK kvs)) ∨ ∃ kvs, H p = some (.dT kvs))) ∨ (T = "set" ∧ ∃ S n, H p = some (.set S n))
  | _ => False
theorem tyV_is {pins : List (Addr × Obj)} {σ : St} {H : Hp} {s : Shared} {T : String} {x : V} {v : Value} (I : Inv X pins σ H s) (r : RelV x v) (ty : tyV X.K T x H) :
    s.TypeIs v T ∧ ∀ a, v = .ref a → ∃ ob, s.heap.get? a = some ob ∧ ob.dict = none := by
  cases x with
  | str z =>
    obtain ⟨t, rfl⟩ := r
    cases (show T = "str" from ty)
    exact ⟨typeIs_str s z t, fun _ e => nomatch e⟩
  | int i =>
    obtain ⟨t, rfl⟩ := r
    cases (show T = "int" from ty)
    exact ⟨typeIs_int s i t, fun _ e => nomatch e⟩
  | ref p =>
    cases r
    rcases ty with ⟨rfl, xs, hq⟩ | ⟨rfl, o, hk, hc, hd⟩ | ⟨rfl, hk⟩ | ⟨rfl, S, n, hk⟩
    · obtain ⟨its, _, pl, _⟩ := I.list hq
      refine ⟨pl.isList.typeIs, fun a e => ?_⟩
      cases e
      obtain ⟨o, n, e, c, hd, _⟩ := pl
      exact ⟨o, e, hd⟩
    · refine ⟨⟨o, I.kIn p o hk, hc⟩, fun a e => ?_⟩
      cases e
      exact ⟨o, I.kIn _ o hk, hd⟩
    · have z : ∃ o, s.heap.get? p = some o ∧ o.ExactDict := by
        rcases hk with ⟨kvs, hk⟩ | ⟨kvs, hk⟩
        · obtain ⟨_, _, _, _, o, _, _, e, ex, _⟩ := I.hok p _ hk
          exact ⟨o, e, ex⟩
        · obtain ⟨_, _, _, _, o, _, _, e, ex, _⟩ := I.hok p _ hk
          exact ⟨o, e, ex⟩
      obtain ⟨o, e, ex⟩ := z
      refine ⟨⟨o, e, ex.1⟩, fun a e2 => ?_⟩
      cases e2
      exact ⟨o, e, ex.2.1⟩
    · obtain ⟨o, _, _, _, e, ex, _⟩ := I.hok p _ hk
      refine ⟨⟨o, e, ex.1⟩, fun a e2 => ?_⟩
      cases e2
      exact ⟨o, e, ex.2.1⟩
  | _ => exact False.elim ty
def tBM (K : PySem.W.Frag) (T : String) (r : V → List V → Hp → VK → Prop) (to : TE) (t : TA) : TE := fun σ H Q => to σ H fun x H1 => tyV K T x H1 ∧ t σ H1 fun xs H2 => r x xs H2 Q
variable {o e : Expr} {es : List Expr} {to : TE} {t : TA} {name : Str} {apos cpos : Pos} {T id : String} {r : V → List V → Hp → VK → Prop}
theorem pe_bm (pa : PlainAttrs T) (slot : Slot T name id) (hty : typeOf (.builtin id) = pure (.type "method_descriptor")) (hm : MtR X id r) (ho : PE X o to) (ha : PA X (e :: es) t)
    (hbase : attributeBase o name X.env (eval o X.env) = eval o X.env := by rfl)
    (hfew : ((backTo cpos (starEach (e :: es) X.env)).all (fun x => !x.1) && (backToKw cpos (keywordEach [] X.env)).all (fun x => x.1.isSome)
      && decide ((e :: es).length + ([] : List Keyword).length + (if ([] : List Keyword).isEmpty then 0 else 1) < 30)) = true := by rfl)
    (hline : (apos.endLine == cpos.line) = true := by rfl) (hs : starEach (e :: es) X.env = (false, eval e X.env) :: starEach es X.env := by rfl) (hplain : (backTo cpos (starEach es X.env)).any (·.1) = false := by rfl) :
    PE X (.Call (.Attribute o name apos) (e :: es) [] cpos) (tBM X.K T r to t) := by
  intro pins s σ H Q I h
  refine wpAny_Call_method_late hbase hfew hline rfl (thn (ho pins s σ H _ I h) fun v s1 ⟨x, H1, I1, r1, ty, q1⟩ => ?_)
  obtain ⟨h1, h2⟩ := tyV_is I1 r1 ty
  refine ⟨T, id, pa, slot, hty, h1, h2, ?_⟩
  have hA := ha cpos pins s1 σ H1 _ I1 q1
  rw [hs] at hA ⊢
  refine Calls.callWith_builtin (by show (false || (backTo cpos (starEach es X.env)).any (·.1)) = false; rw [hplain] <;> rfl) (Calls.evalArgs_plain ?_)
  exact thn hA fun us s2 ⟨vs, H2, I2, r2, q2⟩ => hm pins s2 σ H2 x vs v us Q I2 r1 r2 q2
end
end L2
namespace L2
open PySem PySem.Spec PyProof.Rows
def MtM (X : Cx) (id : String) (r : V → List V → Hp → VK → Prop) : Prop :=
  ∀ (pins : List (Addr × Obj)) (s : Shared) (σ : St) (H : Hp) (x : V) (xs : List V) (v : Value) (us : List Value) (Q : VK), Inv X pins σ H s → RelV x v → Vals xs us → r x xs H Q →
    wpAny (model X.prog X.w) X.A (call (.builtin id) (v :: us)) (EP X pins σ Q) X.xe s
theorem Vals.one : ∀ {x : V} {us : List Value}, Vals [x] us → ∃ u, us = [u] ∧ RelV x u
  | _, _, .cons r .nil => ⟨_, rfl, r⟩
theorem Vals.reverse {xs : List V} {us : List Value} (h : Vals xs us) : Vals xs.reverse us.reverse := by
  induction h with
  | nil => exact .nil
  | cons r t ih => rw [List.reverse_cons, List.reverse_cons]; exact Vals.append ih (.cons r .nil)
section
variable {X : Cx} {pins : List (Addr × Obj)} {σ : St} {H : Hp} {s : Shared} {l b : Addr} {xs ys zs : List V}
theorem Inv.lset {its its' : List Value} {n : Nat} {f : Array Value → Array Value} {t' : Nat} (I : Inv X pins σ H s) (hH : H l = some (.lst xs))
    (e : s.heap.get? l = some { cls := .type "list", data := .seq its.toArray n }) (hf : f its.toArray = its'.toArray) (hv : Vals ys its') (hz : ys.length ≤ sizeLine) :
    Inv X pins σ (upd H l (.lst ys)) { s with heap := s.heap.update l (Obj.mapSeq f), toks := t' } := by
  have q := PySem.IsL.update e f
  rw [hf] at q
  refine I.write (x := l) (e := l) (by rw [hH]; exact trivial) (.inl rfl) (fun b' u hb hu => (Heap.get?_update_other s.heap (Obj.mapSeq f) (Ne.symm hb)).trans hu) ⟨_, q⟩ ?_
  exact ⟨hz, its', _, hv, q⟩
theorem Inv.lnew {its : List Value} {t' : Nat} (I : Inv X pins σ H s) (hv : Vals ys its) (hz : ys.length ≤ sizeLine) :
    Inv X pins σ (upd H s.heap.objs.size (.lst ys)) { s with heap := s.heap.push { cls := .type "list", data := .seq its.toArray }, toks := t' } :=
  I.laid (fun _ _ q => Heap.get?_push_of_some _ q) (Nat.le_refl _) ⟨hz, its, 0, hv, Heap.get?_push_size _ rfl⟩
theorem Inv.fresh (I : Inv X pins σ H s) : H s.heap.objs.size = none := I.hok.fresh (Nat.le_refl _)
theorem Inv.lstM (I : Inv X pins σ H s) (hH : H l = some (.lst xs)) : xs.length ≤ sizeLine ∧ ∃ (its : List Value) (n : Nat), Vals xs its ∧ xs.length = its.length ∧ s.heap.get? l = some { cls := .type "list", data := .seq its.toArray n } := by
  obtain ⟨z, its, n, r, e⟩ := I.hok l _ hH
  exact ⟨z, its, n, r, r.length, e⟩
theorem notLongL {n : Nat} (h : n ≤ sizeLine) : Builtin.List.listTooLong n = false := by
  unfold Builtin.List.listTooLong
  exact decide_eq_false (by omega)
end
section
variable {X : Cx}
def rAppend : V → List V → Hp → VK → Prop := fun x vs H Q => ∃ l xs y, x = .ref l ∧ vs = [y] ∧ H l = some (.lst xs) ∧ xs.length < sizeLine ∧ Q .non (upd H l (.lst (xs ++ [y])))
theorem mt_append : MtM X "list.append" rAppend := by
  intro pins s σ H x vs v us Q I rx rv h
  obtain ⟨l, xs, y, rfl, rfl, hH, hz, q⟩ := h
  cases rx
  obtain ⟨u, rfl, ru⟩ := rv.one
  obtain ⟨z, its, n, r, hl, e⟩ := I.lstM hH
  refine call_meets F.slot_list_append ⟨_, e, rfl⟩ F.entry_list_append (F.args_list_append_2 _ _) (PySem.list_append l its.toArray n u (by rw [List.size_toArray]; omega)) ⟨e, ?_⟩
  refine ⟨.non, _, I.lset (its' := its ++ [u]) hH e (by simp) (r.append (.cons ru .nil)) ?_, rfl, q⟩
  rw [List.length_append, List.length_singleton]
  omega
def rExtend : V → List V → Hp → VK → Prop := fun x vs H Q => ∃ l b xs zs, x = .ref l ∧ vs = [.ref b] ∧ H l = some (.lst xs) ∧ H b = some (.lst zs) ∧ xs.length + zs.length ≤ sizeLine ∧ Q .non (upd H l (.lst (xs ++ zs)))
theorem mt_extend : MtM X "list.extend" rExtend := by
  intro pins s σ H x vs v us Q I rx rv h
  obtain ⟨l, b, xs, zs, rfl, rfl, hH, hB, hz, q⟩ := h
  cases rx
  obtain ⟨u, rfl, ru⟩ := rv.one
  cases ru
  obtain ⟨z, its, n, r, hl, e⟩ := I.lstM hH
  obtain ⟨z2, its2, n2, r2, hl2, e2⟩ := I.lstM hB
  have hsz : its.toArray.size + its2.toArray.size ≤ sizeLine := by rw [List.size_toArray, List.size_toArray]; omega
  have hlong : ¬ (!its.toArray.isEmpty && Builtin.List.listTooLong (its.toArray.size + its2.toArray.size)) = true := by
    rw [notLongL hsz, Bool.and_false]
    exact Bool.false_ne_true
  refine call_meets F.slot_list_extend ⟨_, e, rfl⟩ F.entry_list_extend (F.args_list_extend_2 _ _)
    (AutoSeq1.list_extend_list_list_0 l its.toArray n b its2.toArray n2 hlong (by rw [List.size_toArray]; omega) (by omega)) ⟨e, e2, ?_⟩
  refine ⟨.non, _, I.lset (its' := its ++ its2) hH e (by simp) (r.append r2) ?_, rfl, q⟩
  rw [List.length_append]
  omega
def rCat : R2 := fun x y H Q => ∃ l b xs zs, x = .ref l ∧ y = .ref b ∧ H l = some (.lst xs) ∧ H b = some (.lst zs) ∧ xs.length + zs.length ≤ sizeLine ∧ ∀ p, H p = none → Q (.ref p) (upd H p (.lst (xs ++ zs)))
theorem op_cat : OpR X (binaryOp .Add) rCat := by
  intro pins s σ H x y v u Q I rx ry h
  obtain ⟨l, b, xs, zs, rfl, rfl, hH, hB, hz, q⟩ := h
  cases rx
  cases ry
  obtain ⟨z, its, n, r, hl, e⟩ := I.lstM hH
  obtain ⟨z2, its2, n2, r2, hl2, e2⟩ := I.lstM hB
  refine PySem.P.add_list e e2 ?_ (by rw [List.size_toArray, List.size_toArray]; omega)
  have ea : its.toArray ++ its2.toArray = (its ++ its2).toArray := by simp
  rw [ea]
  exact ⟨.ref _, _, I.lnew (t' := s.toks) (r.append r2) (by rw [List.length_append]; omega), rfl, q _ I.fresh⟩
end
section
variable {prog : Program} {w : World} {A : Around} {E : Value → Shared → Prop} {s : Shared}
end
section
variable {X : Cx}
end
end L2
namespace Att
open PySem PySem.W PySem.Calls PyProof.Rows
theorem ints_of_wellAll {P : Params} {h : Heap} : ∀ (ns : List Int) (vs : List Value), WellAll P h vs (ns.map WData.int) → IntsAre vs ns := by
  intro ns
  induction ns with
  | nil =>
    intro vs w
    rw [List.map_nil] at w
    cases w
    exact .nil
  | cons n ns ih =>
    intro vs w
    rw [List.map_cons] at w
    cases w with
    | cons a b =>
      cases a
      exact .cons _ _ (ih _ b)
theorem script_of {l : OpenLaw} {n : Nat} (hn : l.most = some n) {P : Params} {h : Heap} {args : List WData} {vals : List Value}
    (hpre : l.row.toRowW.claim.pre args = true) (hwl : WellAll P h vals args) :
    ∃ a vs ns, vals = [Value.ref a] ∧ args = [WData.list (ns.map WData.int)] ∧ h.get? a = some { cls := .type "list", data := .seq vs.toArray } ∧ IntsAre vs ns ∧ ns.length ≤ n := by
  have hsh : WShape.hasAll [] args [.list .int] = true := (pre_splitW hpre).1
  have hc : l.pre.holds [] { args := args } = true := (pre_splitW hpre).2
  obtain ⟨d, r, rfl, h1, h2⟩ := hasAllW_cons hsh
  obtain rfl := hasAllW_nil h2
  obtain ⟨xs, rfl, h3⟩ := hasW_list h1
  obtain ⟨ns, rfl⟩ := items_int h3
  have hlen : ns.length ≤ n := by
    unfold OpenLaw.pre at hc
    have h4 : (WTm.not (.lt (.lit (.int (n : Int))) (.len (.arg 0)))).holds [] { args := [.list (ns.map .int)] } = true := by
      have h4 := (holds_andW hc).1
      rw [hn] at h4
      exact h4
    have h5 := condW_of h4 (w_not (w_lt w_lit (w_len_list (w_arg rfl))))
    rw [List.length_map] at h5
    refine Nat.le_of_not_lt fun q => ?_
    have q' : (n : Int) < ((ns.length : Nat) : Int) := by omega
    first
      | (rw [decide_eq_true q'] at h5; exact absurd h5 (by decide))
      | (simp at h5; omega)
  cases hwl with
  | cons w1 w2 =>
    cases w2
    cases w1 with
    | list ho hall => exact ⟨_, _, ns, rfl, rfl, ho, ints_of_wellAll ns _ hall, hlen⟩
theorem post_true (l : OpenLaw) (args : List WData) : l.row.toRowW.claim.post args (.bool true) args = true :=
  postW_of (r := l.row.toRowW) (X := (true == true))
    (show WShape.has [] (.bool true) .bool = true by first | rfl | decide | simp [WShape.has, WShape.arms, WShape.armsAll])
    (show (WTm.eq .res (.lit (.bool true))).value [] { args := args, res := some (.bool true), after := args } = some (.bool (true == true)) from w_eq_bool (w_res rfl) w_lit) rfl
theorem attach_call {l : OpenLaw} {n : Nat} {q : Program} {loose : List Str} {XP : (Str → Option Value) → Heap → Prop} {YP : World → Heap → Prop} {d : DefRec}
    (hn : l.most = some n) (hdf : d.params.defaults = [])
    (call : ∀ (w : World) (s₀ s₁ : Shared) (mg mb : Str → Option Value) (fa : Addr) (o : Obj) (pm cd doc : Value) (a : Addr) (vs : List Value) (ns : List Int),
      Ground q loose [] XP w s₀ mg mb s₁.heap → YP w s₁.heap →
      s₁.heap.get? fa = some o → o.data = .func (docDef d.name d.params d.body d.scope pm cd doc) → s₁.heap.CodeRec cd d.name → mg d.name = some (.ref fa) →
      s₁.heap.get? a = some { cls := .type "list", data := .seq vs.toArray } → IntsAre vs ns → ns.length ≤ n → s₁.gens = #[] →
      codeAny (model l.prog w) callerA (.call (.ref fa) ⟨[.ref a], []⟩) (fun r s' => r = .ok (.ret (.bool true)) ∧ OldK s₁.heap s'.heap ∧ s'.os = s₁.os ∧ AllBare s'.gens) s₁) :
    WalkO q loose XP YP l.row.toRowW d [] (fun f vs => PySem.call f vs) := by
  intro w s₀ s₁ mg mb G Y fa o pm cd doc dV kV ho hd hcd hD hmg hg args vals as hpre hlay hrd hwl hlo
  obtain rfl : dV = .none := Dflts.none hD hdf
  obtain rfl : kV = .none := Dflts.noKw hD
  obtain ⟨a, vs, ns, rfl, rfl, hobj, hints, hlen⟩ := script_of hn hpre hwl
  refine enter_call (codeAny_mono (call w s₀ s₁ mg mb fa o pm cd doc a vs ns G Y ho (fd_plain hd) hcd hmg hobj hints hlen hg) fun r s' hq => ?_)
  obtain ⟨rfl, h2, h3, h4⟩ := hq
  exact ⟨.inl ⟨.bool true, .bool true, [], rfl, fun _ => rfl, .bool true, post_true l _, fun _ => ⟨List.Pairwise.nil, fun _ hm => (nomatch hm)⟩⟩, h2, h3, h4⟩
section
variable {prog : Program} {w : World} {A : Around} {E : Value → Shared → Prop} {s : Shared} {K : Frag}
end
end Att
namespace L2
open PySem PySem.Spec PyProof.Rows
theorem vals_ints : ∀ {vs : List Value} {ns : List Int}, IntsAre vs ns → Vals (ns.map V.int) vs
  | _, _, .nil => .nil
  | _, _, .cons n t h => .cons ⟨t, rfl⟩ (vals_ints h)
def Only (H : Hp) : Prop := ∀ b, H b = none ∨ ∃ o xs, H b = some (.frz o (.lst xs))
theorem law_call {P : Program} {w : World} {K : PySem.W.Frag} {mg mb : Str → Option Value} {CX : CXT} {k : Nat} {fa a : Addr} {fd : FuncData} {x : Str} {sp : Sp} {s₁ : Shared} {vs : List Value} {ns : List Int}
    (KX : K.In s₁.heap) (hns : s₁.heap.Ns mainGlobals mg) (hb : s₁.heap.Ns builtinsNs mb) (hbb : ∀ x : Str, x ≠ "__name__" → mb x = bootBuiltins x) (hlim : s₁.heap.NoLimit) (hg : s₁.gens = #[])
    (ha : s₁.heap.get? a = some { cls := .type "list", data := .seq vs.toArray }) (hi : IntsAre vs ns) (hl : ns.length ≤ sizeLine) (hr : Room k callerA)
    (F : ∀ base : Heap, K.In base → base.Ns mainGlobals mg → FnOk P w K mg base CX k fa fd [x] sp) (hbind : ∀ (s : Shared) (u : Value), BindsTo s fd ⟨[u], []⟩ [(x, u)])
    (hsp : ∀ H : Hp, Only H → SqL K H a (ns.map V.int) → sp [.ref a] H (fun v _ => v = .bl true) fun _ _ _ => False)
    (hCX : ∀ H e s', CX [] H s₁ (fun _ _ _ => False) e s' → False) :
    codeAny (model P w) callerA (.call (.ref fa) ⟨[.ref a], []⟩) (fun r s' => r = .ok (.ret (.bool true)) ∧ OldK s₁.heap s'.heap ∧ s'.os = s₁.os ∧ AllBare s'.gens) s₁ := by
  have rv := vals_ints hi
  have lenV := hi.length
  -- from an abstract heap in which nothing but the script may be tracked
  have core : ∀ H : Hp, Only H → SqL K H a (ns.map V.int) → HOk P w H s₁.heap → (∀ b, H b ≠ none → b = a) → (H a ≠ none → K.lookup a = none) →
      codeAny (model P w) callerA (.call (.ref fa) ⟨[.ref a], []⟩) (fun r s' => r = .ok (.ret (.bool true)) ∧ OldK s₁.heap s'.heap ∧ s'.os = s₁.os ∧ AllBare s'.gens) s₁ := by
    intro H hO hS hok hA hK
    have base_of : ∀ {b : Addr} {o : Obj}, s₁.heap.get? b = some o → H b = none → (hidT s₁.heap H).get? b = some o := fun e n => hidT_get e n
    have noA : ∀ {b : Addr} {o : Obj} {es : Array DictEntry} {ep : Nat}, s₁.heap.get? b = some o → o.data = .dict es ep → H b = none := fun {b o es ep} e d => by
      cases q : H b with
      | none => rfl
      | some u =>
        have e' : b = a := hA b (by rw [q]; simp)
        subst e'
        rw [ha] at e; cases e
        have d' : Data.seq vs.toArray _ = Data.dict es ep := d
        cases d'
    have nsK : ∀ {b : Addr} {m : Str → Option Value}, s₁.heap.Ns b m → (hidT s₁.heap H).Ns b m := fun {b m} ⟨o, es, ep, e, d, r⟩ => ⟨o, es, ep, base_of e (noA e d), d, r⟩
    have hKb : K.In (hidT s₁.heap H) := fun b o e => base_of (KX b o e) (by
      cases q : H b with
      | none => rfl
      | some u =>
        have e' : b = a := hA b (by rw [q]; simp)
        subst e'
        rw [hK (by rw [q]; simp)] at e; cases e)
    have hM : Mod K mg (hidT s₁.heap H) := ⟨hKb, nsK hns, ⟨mb, nsK hb, hbb⟩, let ⟨mc, h1, h2⟩ := hlim; ⟨mc, nsK h1, h2⟩⟩
    have e0 : Env0 P w K mg (hidT s₁.heap H) callerA [] s₁ H := ⟨rfl, hM, fun b o e => of_hidT e, Nat.le_of_eq (hidT_size _ _), trivial, fun b hb => absurd (show b ∈ ([] : List Addr) from hb) (by simp), hok, .of_eq hg⟩
    refine codeAny_mono ((F _ hKb (nsK hns)).run callerA [] s₁ H ⟨[.ref a], []⟩ [.ref a] [.ref a] _ _ hr e0 (hbind s₁ (.ref a)) (.cons rfl .nil) (hsp H hO hS)) fun r s' h => ?_
    cases r with
    | error e => exact (hCX H e s' h).elim
    | ok fl =>
      cases fl with
      | next => exact False.elim h
      | brk => exact False.elim h
      | cont => exact False.elim h
      | ret u =>
        obtain ⟨v, H', os, bare, un, hok', r', q⟩ := h
        have q' : v = .bl true := q
        subst q'
        obtain rfl : u = Value.bool true := r'
        refine ⟨rfl, OldK.of_keep fun b o e => ?_, os, bare⟩
        cases q : H b with
        | none => exact un.keep b o e q (by intro z; exact absurd (show b ∈ ([] : List Addr) from z) (by simp)) (by simp)
        | some u =>
          rcases hO b with z | ⟨ob, xs, z⟩
          · rw [q] at z; cases z
          · have z2 := un.frzs b ob _ z
            obtain ⟨e1, _⟩ := hok b _ z
            obtain ⟨e2, _⟩ := hok' b _ z2
            rw [e] at e1; cases e1
            exact e2
  cases hk : K.lookup a with
  | some o =>
    -- the script is one of the module's own objects
    have e := KX a o hk
    rw [ha] at e
    cases e
    refine core (fun _ => none) (fun _ => .inl rfl) (.inr ⟨_, vs.toArray, _, hk, rfl, rfl, rfl, by rw [List.size_toArray, lenV]; exact hl, by simpa using rv⟩) (fun b u z => by have z' : (none : Option HO) = some u := z; cases z') (fun b z => absurd rfl z) fun z => absurd rfl z
  | none =>
    refine core (fun b => if b = a then some (.frz { cls := .type "list", data := .seq vs.toArray } (.lst (ns.map V.int))) else none) (fun b => ?_) (.inl (.inr ⟨{ cls := .type "list", data := .seq vs.toArray }, if_pos rfl⟩)) (fun b u z => ?_) (fun b z => ?_) fun _ => hk
    · by_cases hb : b = a
      · exact .inr ⟨_, _, if_pos hb⟩
      · exact .inl (if_neg hb)
    · by_cases hb : b = a
      · have z' := (if_pos hb).symm.trans z
        cases z'
        subst hb
        exact ⟨ha, by rw [List.length_map]; exact hl, vs, _, rv, ha⟩
      · have z' := (if_neg hb).symm.trans z
        cases z'
    · by_cases hb : b = a
      · exact hb
      · exact absurd (if_neg hb) z
end L2
namespace L2
open PySem PySem.Spec PyProof.Rows
theorem walk_of {l : PySem.W.OpenLaw} {n k : Nat} {q : Program} {loose : List Str} {XP : (Str → Option Value) → Heap → Prop} {YP : World → Heap → Prop} {d : DefRec} {K : Params → PySem.W.Frag} {CX : World → CXT} {sp : World → Sp} {x : Str}
    (hn : l.most = some n) (hn2 : n ≤ sizeLine) (hdf : d.params.defaults = []) (hr : Room k callerA)
    (hY : ∀ (w : World) (h : Heap), YP w h → (K w.params).In h)
    (F : ∀ (w : World) (mg : Str → Option Value) (fa : Addr) (h : Heap), (K w.params).In h → h.Ns mainGlobals mg → mg d.name = some (.ref fa) →
      ∃ fd : FuncData, (∀ (s : Shared) (u : Value), BindsTo s fd ⟨[u], []⟩ [(x, u)]) ∧
        ∀ base : Heap, (K w.params).In base → base.Ns mainGlobals mg → FnOk l.prog w (K w.params) mg base (CX w) k fa fd [x] (sp w))
    (hsp : ∀ (w : World) (H : Hp) (a : Addr) (ns : List Int), ns.length ≤ n → Only H → SqL (K w.params) H a (ns.map V.int) → sp w [.ref a] H (fun v _ => v = .bl true) fun _ _ _ => False)
    (hCX : ∀ (w : World) (H : Hp) (s : Shared) (e : Value) (s' : Shared), CX w [] H s (fun _ _ _ => False) e s' → False) :
    PySem.W.WalkO q loose XP YP l.row.toRowW d [] (fun f vs => PySem.call f vs) := by
  refine Att.attach_call hn hdf fun w s₀ s₁ mg mb fa o pm cd doc a vs ns G Y ho hd hcd hmg hobj hints hlen hg => ?_
  have KX := hY w _ Y
  obtain ⟨fd, hb, hF⟩ := F w mg fa _ KX G.T.g hmg
  exact law_call KX G.T.g G.T.b G.T.builtins G.T.nolimit hg hobj hints (Nat.le_trans hlen hn2) hr hF hb (fun H hO hS => hsp w H a ns hlen hO hS) fun H e s' => hCX w H s₁ e s'
end L2
namespace L2
open PySem PySem.Spec PyProof.Rows
def inClass (s : Stmt) (j : Nat) : Stmt := match s with
  | .ClassDef _ _ _ body _ _ _ _ _ _ _ => body.getD j (.Pass ⟨0, 0, 0, 0⟩)
  | _ => .Pass ⟨0, 0, 0, 0⟩
def defArgs (s : Stmt) : Arguments := match s with
  | .FunctionDef _ a _ _ _ _ _ _ _ _ => a
  | _ => { posonlyargs := [], args := [], vararg := none, kwonlyargs := [], kw_defaults := [], kwarg := none, defaults := [] }
def defBody (s : Stmt) : List Stmt := match s with
  | .FunctionDef _ _ b _ _ _ _ _ _ _ => b
  | _ => []
def defScope (s : Stmt) : Scope := match s with
  | .FunctionDef _ _ _ _ _ _ sc _ _ _ => sc
  | _ => { kind := .function, names := [], isGenerator := false, isCoroutine := false }
abbrev CX0 : CXT := fun _ _ _ _ _ _ => False
abbrev E0 : XK := fun _ _ _ => False
theorem pass0 {X : Cx} : Passes CX0 X E0 := fun _ _ _ _ _ _ _ h => h.elim
structure Fun (K : PySem.W.Frag) (x qual : Str) (st : Stmt) (f : Addr) (fd : FuncData) : Prop where
  ex : ∃ (oc : Value) (od : Option Addr) (kV doc pm : Value) (an : Option Addr) (cdv ct : Value) (osl : Array (Option Value)),
    fd = PySem.W.fnOf x qual (defArgs st) (defBody st) (defScope st) .none kV doc pm an cdv ct ∧ K.lookup f = some ⟨oc, od, .func fd, osl⟩ ∧ PySem.W.codeIn K cdv qual = true
  kp : PySem.W.keepIn K (.ref f) = true
section
variable {P : Program} {w : World} {K : PySem.W.Frag} {mg : Str → Option Value} {base : Heap}
theorem Fun.ok {x qual : Str} {st : Stmt} {f : Addr} {fd : FuncData} {N ps : List Str} {k : Nat} {sp : Sp} (F : Fun K x qual st f fd) (S : FnScope N ps (defScope st)) (len : ∀ vs H Q E, sp vs H Q E → vs.length = ps.length)
    (hbody : ∀ (cdv : Value) (A : Around) (outer : List Env) (s : Shared) (H : Hp) (vs : List V) (Q : VK) (E : XK), Room k (A.deeper (envOfC qual (defScope st) s.heap.objs.size f cdv)) → sp vs H Q E →
      ∃ t, PSs (cxOf CX0 P w K mg base N qual (defScope st) f cdv A outer s H E).nox (defBody st) t ∧ t { nx := fun _ H' => Q .non H', rt := Q } (start N vs) H) : FnOk P w K mg base CX0 (k + 1) f fd ps sp := by
  obtain ⟨oc, od, kV, doc, pm, an, cdv, ct, osl, rfl, lk, hcd⟩ := F.ex
  refine fn_of lk hcd S len fun A outer s H vs Q E hr hsp => ?_
  obtain ⟨t, h, q⟩ := hbody cdv A outer s H vs Q E hr hsp
  exact ⟨t, h.nox, q⟩
theorem Fun.binds {x qual : Str} {st : Stmt} {f : Addr} {fd : FuncData} {ps : List Str} (F : Fun K x qual st f fd)
    (h : ∀ (kV doc pm : Value) (an : Option Addr) (cdv ct : Value) (us : List Value), us.length = ps.length → bindArgs (PySem.W.fnOf x qual (defArgs st) (defBody st) (defScope st) .none kV doc pm an cdv ct) ⟨us, []⟩ = pure (ps.zip us)) : Binds K fd ps [] := by
  obtain ⟨oc, od, kV, doc, pm, an, cdv, ct, osl, rfl, lk, hcd⟩ := F.ex
  exact .all (h kV doc pm an cdv ct)
theorem fun_mk {x qual : Str} {st : Stmt} {f : Addr} {oc : Value} {od an : Option Addr} {osl : Array (Option Value)} {kV doc pm cdv ct : Value} (l : K.lookup f = some ⟨oc, od, .func (PySem.W.fnOf x qual (defArgs st) (defBody st) (defScope st) .none kV doc pm an cdv ct), osl⟩)
    (c : PySem.W.codeIn K cdv qual = true) (k : PySem.W.keepIn K (.ref f) = true) : Fun K x qual st f (PySem.W.fnOf x qual (defArgs st) (defBody st) (defScope st) .none kV doc pm an cdv ct) := ⟨⟨oc, od, kV, doc, pm, an, cdv, ct, osl, rfl, l, c⟩, k⟩
end
theorem hu_of {A : Around} {k : Nat} (hr : Room k A) : A.units + 1 < cLine := Nat.lt_of_le_of_lt (Nat.add_le_add_left (by decide : 1 ≤ 64) _) hr.units
theorem small1000 {n : Nat} (h : n ≤ 1000) : n < sizeLine := Nat.lt_of_le_of_lt h (by decide)
section
variable {X : Cx}
theorem pv (i : Nat) {x : Str} {pos : Pos} (hN : X.N[i]? = some x := by rfl) (hv : Vis X.env.scope x := by first | exact Or.inl rfl | exact Or.inr (Or.inl rfl) | exact Or.inr (Or.inr rfl)) (hd : (x == ("__debug__" : Str)) = false := by decide)
    (hcd : (x == ("__classdict__" : Str)) = false := by decide) : PE X (.Name x pos) (tVar i) := pe_var hN hv hd hcd
end
theorem iteF {A B : Prop} (h : B) : if false = true then A else B := by
  rw [if_neg Bool.false_ne_true]
  exact h
theorem iteT {A B : Prop} (h : A) : if true = true then A else B := by
  rw [if_pos rfl]
  exact h
theorem ite2 {c A B : Prop} [Decidable c] (h1 : c → A) (h2 : ¬ c → B) : if c then A else B := by
  by_cases h : c
  · rw [if_pos h]
    exact h1 h
  · rw [if_neg h]
    exact h2 h
def Same (H H' : Hp) : Prop := ∀ b o, H b = some o → H' b = some o
theorem Same.refl (H : Hp) : Same H H := fun _ _ h => h
theorem Same.trans {H H1 H2 : Hp} (a : Same H H1) (b : Same H1 H2) : Same H H2 := fun c o h => b c o (a c o h)
theorem Same.free {H H' : Hp} (e : Same H H') {l : Addr} (h : H' l = Option.none) : H l = Option.none := by
  cases q : H l with
  | none => rfl
  | some o =>
    rw [e l o q] at h
    cases h
theorem Same.seq {K : PySem.W.Frag} {H H' : Hp} {a : Addr} {xs : List V} (e : Same H H') (h : SqL K H a xs) : SqL K H' a xs := by
  rcases h with (h | ⟨o, h⟩) | h
  · exact .inl (.inl (e _ _ h))
  · exact .inl (.inr ⟨o, e _ _ h⟩)
  · exact .inr h
section
variable {κ : Type} [DecidableEq κ]
end
end L2
namespace GX
open PySem
theorem forIn_fold {α β : Type} {f : α → β → Sem (ForInStep β)} (g : α → β → β) : ∀ (l : List α) (b : β), (∀ x ∈ l, ∀ b, f x b = pure (.yield (g x b))) →
    forIn l b f = pure (l.foldl (fun b x => g x b) b)
  | [], b, _ => rfl
  | x :: l, b, h => by
    simp only [List.forIn_cons, h x (.head _), pure_bind]
    exact forIn_fold g l (g x b) fun y hy => h y (List.mem_cons_of_mem _ hy)
def closeF (env : Env) (x : Str × NameKind) (cs : List (Str × Addr)) : List (Str × Addr) := if x.2 == .free then (x.1, (env.cells.lookup x.1).getD 0) :: cs else cs
theorem closure_eq {env : Env} {sc : Scope} (h : ∀ y ∈ sc.names, y.2 = .free → ∃ c, env.cells.lookup y.1 = some c) :
    closureFor sc env = pure (sc.names.foldl (fun b x => closeF env x b) []) := by
  simp only [closureFor]
  rw [forIn_fold (closeF env) sc.names [] (fun x hx b => by
    obtain ⟨n, k⟩ := x
    unfold closeF
    by_cases hk : k = .free
    · subst hk
      obtain ⟨c, hc⟩ := h _ hx rfl
      have e : cellOf env n = pure c := by unfold cellOf; rw [hc]
      simp [e, hc]
    · have hb : (k == NameKind.free) = false := by simpa using hk
      simp only [hb, Bool.false_eq_true, if_false])]
  rfl
theorem closeF_sub {env : Env} : ∀ (l : List (Str × NameKind)) (acc : List (Str × Addr)), (∀ y ∈ l, y.2 = .free → ∃ c, env.cells.lookup y.1 = some c) → (∀ p ∈ acc, env.cells.lookup p.1 = some p.2) →
    ∀ p ∈ l.foldl (fun b x => closeF env x b) acc, env.cells.lookup p.1 = some p.2
  | [], acc, _, ha => ha
  | x :: l, acc, h, ha => by
    refine closeF_sub l _ (fun y hy => h y (List.mem_cons_of_mem _ hy)) fun p hp => ?_
    unfold closeF at hp
    dsimp only at hp
    by_cases hk : x.2 = .free
    · obtain ⟨c, hc⟩ := h x List.mem_cons_self hk
      rw [hk] at hp
      simp only [beq_self_eq_true, if_true] at hp
      rcases List.mem_cons.mp hp with rfl | hp
      · rw [hc]; rfl
      · exact ha p hp
    · have hb : (x.2 == NameKind.free) = false := by simpa using hk
      simp only [hb, Bool.false_eq_true, if_false] at hp
      exact ha p hp
theorem closeF_has {env : Env} {n : Str} : ∀ (l : List (Str × NameKind)) (acc : List (Str × Addr)), ((∃ c, (n, c) ∈ acc) ∨ (n, NameKind.free) ∈ l) → ∃ c, (n, c) ∈ l.foldl (fun b x => closeF env x b) acc
  | [], acc, h => by
    rcases h with h | h
    · exact h
    · cases h
  | x :: l, acc, h => by
    refine closeF_has l _ ?_
    unfold closeF
    dsimp only
    rcases h with ⟨c, h⟩ | h
    · refine .inl ⟨c, ?_⟩
      split
      · exact List.mem_cons_of_mem _ h
      · exact h
    · rcases List.mem_cons.mp h with h | h
      · refine .inl ?_
        subst h
        exact ⟨_, by rw [if_pos (by rfl)]; exact .head _⟩
      · exact .inr h
theorem lookup_of_mem {n : Str} {c : Addr} : ∀ {l : List (Str × Addr)}, (n, c) ∈ l → ∃ c', l.lookup n = some c'
  | [], h => by cases h
  | (m, d) :: l, h => by
    rw [List.lookup_cons]
    cases e : n == m with
    | true => exact ⟨d, rfl⟩
    | false =>
      rcases List.mem_cons.mp h with h | h
      · cases h
        simp at e
      · exact lookup_of_mem h
theorem mem_lk {n : Str} {c : Addr} : ∀ {l : List (Str × Addr)}, l.lookup n = some c → (n, c) ∈ l
  | [], h => by cases h
  | (m, d) :: l, h => by
    rw [List.lookup_cons] at h
    cases e : n == m with
    | true =>
      rw [e] at h
      have e' : n = m := by simpa using e
      have h' : d = c := Option.some.inj h
      rw [e', h']
      exact List.mem_cons_self
    | false =>
      rw [e] at h
      exact List.mem_cons_of_mem _ (mem_lk h)
theorem closure_ok {env : Env} {sc : Scope} (h : ∀ y ∈ sc.names, y.2 = .free → ∃ c, env.cells.lookup y.1 = some c) :
    ∃ cl, closureFor sc env = pure cl ∧ (∀ x c, cl.lookup x = some c → env.cells.lookup x = some c) ∧ (∀ n, (n, NameKind.free) ∈ sc.names → ∃ c, cl.lookup n = some c) := by
  refine ⟨_, closure_eq h, fun x c e => ?_, fun n hn => ?_⟩
  · exact closeF_sub sc.names [] h (fun p hp => by cases hp) (x, c) (mem_lk e)
  · obtain ⟨c, hc⟩ := closeF_has (env := env) sc.names [] (.inr hn)
    exact lookup_of_mem hc
theorem lookup_relabel {env : Env} {x : Str} {names : List (Str × NameKind)} :
    (names.map fun (n, k) => if (k == NameKind.free && env.scope.kind == .function && env.kindOf n == some .cell) then (n, NameKind.cell) else (n, k)).lookup x
      = (names.lookup x).map fun k => if (k == NameKind.free && env.scope.kind == .function && env.kindOf x == some .cell) then NameKind.cell else k := by
  induction names with
  | nil => rfl
  | cons p r ih =>
    obtain ⟨n, k⟩ := p
    rw [List.map_cons]
    by_cases e : x = n
    · subst e
      dsimp only
      split <;> simp_all
    · have e' : (x == n) = false := by simpa using e
      dsimp only
      split <;> simp only [List.lookup_cons, e'] <;> exact ih
def oneTurn (elt target : Expr) (ifs : List Expr) (it acc : Value) (env : Env) : Sem Bool := do
  match ← pyNext it with
  | none => pure false
  | some v =>
    letOwnedTupleGo target it v
    assign target env v
    let ok ← forIn ifs true fun c r => if r = true then do let ok ← isTrue c env (eval c env); pure (ForInStep.yield ok) else pure (ForInStep.yield r)
    if ok = true then do
      let x ← eval elt env
      let _ ← call (.builtin "list.append") [acc, x]
      pure true
    else pure true
theorem turn_is (elt target iter : Expr) (ifs : List Expr) (scope : Scope) (pos : Pos) (it acc : Value) (env : Env) :
    compTurn (.ListComp elt [⟨target, iter, ifs, 0⟩] scope pos) 0 it acc env = (do
      standAt iter.pos
      let more ← oneTurn elt target ifs it acc env
      if more = true then again (.compLoop (.ListComp elt [⟨target, iter, ifs, 0⟩] scope pos) 0 it acc env) else pure (.done .next)) := by
  rw [compTurn_list, oneTurn]
  simp only [bind_assoc]
  congr 1
  funext _
  congr 1
  funext r
  cases r with
  | none => simp
  | some v =>
    simp only [bind_assoc]
    congr 1
    funext _
    congr 1
    funext _
    congr 1
    funext ok
    cases ok <;> simp
theorem compLoop_go {prog : Program} {w : World} {A : Around} {R : Result → Shared → Prop} {s : Shared} {elt target iter : Expr} {ifs : List Expr} {scope : Scope} {pos : Pos} {it acc : Value} {env : Env} (I : Nat → Shared → Prop)
    (turn : ∀ n s, I n s → wpAny (model prog w) A (oneTurn elt target ifs it acc env) (fun more s' => if more = true then ∃ m, m < n ∧ I m s' else R (.ok .next) s') (fun _ _ => False) s) (n : Nat) (h : I n s) :
    codeAny (model prog w) A (.compLoop (.ListComp elt [⟨target, iter, ifs, 0⟩] scope pos) 0 it acc env) R s := by
  apply codeAny_loop rfl I _ n h
  intro n s hI
  apply wpAny_noted
  rw [turn_is]
  change wpAny _ A _ _ _ _
  apply wpAny_bind
  apply wpAny_standAt
  apply wpAny_bind
  refine wpAny_mono (turn n s hI) (fun more s' q => ?_) fun _ _ z => z.elim
  cases more
  · exact wpAny_pure q
  · exact wpAny_pure ⟨rfl, q⟩
end GX
set_option Elab.async false
set_option linter.all false
set_option maxRecDepth 100000
namespace GX
open PySem PySem.Spec PyProof.Rows
def kept : Option (Value × Value) → Array Value
  | none => #[]
  | some (x, k) => #[x, k]
abbrev lstO (a : Array Value) (c : Nat) : Obj := { cls := .type "list", dict := none, data := .seq a c, slots := #[] }
abbrev put (S : Addr) (a : Array Value) (s : Shared) : Shared := { s with heap := s.heap.update S (Obj.mapSeq fun _ => a) }
def KeyOf (prog : Program) (w : World) (A : Around) (key v : Value) (Q : Value → Shared → Prop) (s : Shared) : Prop :=
  match key with
  | .none => Q v s
  | f => wpAny (model prog w) A.in1 (call f [v]) Q (fun _ _ => False) s
def After (prog : Program) (w : World) (op : CmpOp) (lp : String) (I S : Addr) (key : Value) (kw : List (Str × Value)) (b : Option (Value × Value)) (A : Around) (R : Result → Shared → Prop) : Option Value → Shared → Prop
  | none, s => (∃ c, s.heap.get? S = some (lstO (kept b) c)) ∧ match b with
    | some (x, _) => R (.ok (.ret x)) (put S #[] s)
    | none => ∃ n d r, kw = (n, d) :: r ∧ R (.ok (.ret d)) s
  | some v, s => KeyOf prog w A key v (fun k s => (∃ c, s.heap.get? S = some (lstO (kept b) c)) ∧ match b with
    | none => codeAny (model prog w) A (.builtin lp ⟨[.ref I, key, .ref S], kw⟩) R (put S #[v, k] s)
    | some (_, k') => wpAny (model prog w) A.in1 (richCompare op k k') (fun a s => ∃ y c, a = .bool y ∧ s.heap.get? S = some (lstO (kept b) c) ∧ codeAny (model prog w) A (.builtin lp ⟨[.ref I, key, .ref S], kw⟩) R (if y then put S #[v, k] s else s)) (fun _ _ => False) s) s
abbrev Turn (prog : Program) (w : World) (op : CmpOp) (lp : String) (B : Builtin) : Prop := ∀ (I S : Addr) (key : Value) (kw : List (Str × Value)) (b : Option (Value × Value)) (c : Nat),
  MeetsIn prog w (B ⟨[.ref I, key, .ref S], kw⟩) fun A R s => s.heap.get? S = some (lstO (kept b) c) ∧ wpAny (model prog w) A.in1 (pyNext (.ref I)) (After prog w op lp I S key kw b A R) (fun _ _ => False) s
section
variable {prog : Program} {w : World}
theorem two {x k : Value} : (kept (some (x, k))).size ≤ sizeLine := by show 2 ≤ sizeLine; decide +kernel
theorem key_of {A : Around} {key v : Value} {Q : Value → Shared → Prop} {P : Fin → Shared → Prop} {E : Value → Shared → Prop} {s : Shared} {f : Value → Sem Fin} (r : Value → Sem Value) (h : KeyOf prog w A key v Q s) (m : ∀ k s, Q k s → wpAny (model prog w) A.in1 (f k) P E s) :
    wpAny (model prog w) A.in1 (match key with | .none => pure v >>= f | _ => tryCatch (holding [v] (call key [v])) r >>= f) P E s := by
  unfold KeyOf at h
  split at h
  · exact wpAny_bind (wpAny_pure (m _ _ h))
  · exact wpAny_bind (wpAny_tryCatch (wpAny_holding (wpAny_mono h m fun _ _ z => z.elim)))
theorem turn_min : Turn prog w .Lt "min.loop" Builtin.«min.loop» := by
  intro I S key kw b c A R s ⟨hS, nx⟩
  show wpAny _ _ (seqItems? (.ref S) >>= _) _ _ s
  apply wpAny_bind
  apply wpAny_seqItems hS rfl
  apply wpAny_bind
  apply wpAny_tryCatch
  refine wpAny_mono nx (fun r s1 h => ?_) fun _ _ z => z.elim
  rcases r with _ | v <;> rcases b with _ | ⟨x, k'⟩
  · obtain ⟨_, n, d, l, rfl, q⟩ := h
    wp_walk
    exact q
  · obtain ⟨⟨c1, h1⟩, q⟩ := h
    apply wpAny_bind
    refine wpAny_updateSeq h1 rfl ?_ two
    wp_walk
    exact q
  · unfold After at h
    refine key_of _ h fun k s2 h => ?_
    obtain ⟨⟨c2, h2⟩, q⟩ := h
    apply wpAny_bind
    apply wpAny_updateSeq h2 rfl
    exact wpAny_pure ⟨plainId_quiet F.plain_min_loop _, q⟩
  · unfold After at h
    refine key_of _ h fun k s2 h => ?_
    obtain ⟨_, q⟩ := h
    apply wpAny_bind
    apply wpAny_tryCatch
    apply wpAny_holding
    apply wpAny_bind
    refine wpAny_mono q (fun a s3 h => ?_) fun _ _ z => z.elim
    obtain ⟨y, c3, rfl, h3, q⟩ := h
    wp_walk
    cases y
    · wp_walk
      exact ⟨plainId_quiet F.plain_min_loop _, q⟩
    · refine wpAny_ite_true rfl (wpAny_bind (wpAny_updateSeq h3 rfl ?_ two))
      wp_walk
      exact ⟨plainId_quiet F.plain_min_loop _, q⟩
theorem enter {id : String} {B : Builtin} {args : Args} {Sp : PySem.Spec} {A : Around} {R : Result → Shared → Prop} {s : Shared} (he : entryFor table id = some B) (hp : plainId id = true) (m : MeetsIn prog w (B args) Sp) (h : Sp A R s) :
    codeAny (model prog w) A (.builtin id args) R s := codeAny_builtin he (by rw [Around.under_plainId hp]; exact m A R s h)
def First (bt : Nat → Nat → Bool) (n i : Nat) : Prop := ∀ j, j < n → bt j i = false ∧ (j < i → bt i j = true)
structure Best (prog : Program) (w : World) (A : Around) (key : Value) (op : CmpOp) (l I S : Addr) (vs : List Value) (bt : Nat → Nat → Bool) (G : List (Nat × Value) → Shared → Prop) : Prop where
  irr : ∀ i, bt i i = false
  asy : ∀ i j, bt i j = true → bt j i = false
  cov : ∀ a b c, bt a b = true → bt c b = false → bt a c = true
  tail : ∀ p q L s, G (p :: q :: L) s → G (q :: L) s
  head : ∀ p L s, G (p :: L) s → G [p] s
  calm : ∀ x L s h tk, x = I ∨ x = S → G L s → (∀ b o, b ≠ x → s.heap.get? b = some o → h.get? b = some o) → G L { s with heap := h, toks := tk }
  list : ∀ L s, G L s → s.heap.IsList l vs.toArray
  keys : ∀ L s j v a c m, G L s → vs[j]? = some v → s.heap.get? S = some (lstO a c) → s.heap.IsListIter I l m → KeyOf prog w A key v (fun k s => G ((j, k) :: L) s ∧ s.heap.get? S = some (lstO a c) ∧ s.heap.IsListIter I l m) s
  cmp : ∀ i j k k' s, G [(j, k), (i, k')] s → wpAny (model prog w) A.in1 (richCompare op k k') (fun a s' => a = .bool (bt j i) ∧ s' = s) (fun _ _ => False) s
theorem KeyOf.imp {A : Around} {key v : Value} {Q Q' : Value → Shared → Prop} {s : Shared} (h : KeyOf prog w A key v Q s) (m : ∀ k s, Q k s → Q' k s) : KeyOf prog w A key v Q' s := by
  unfold KeyOf at h ⊢
  split at h
  · exact m _ _ h
  · exact wpAny_mono h m fun _ _ z => z
def SoFar (bt : Nat → Nat → Bool) (vs : List Value) (j : Nat) : Option (Nat × Value × Value) → Prop
  | none => j = 0
  | some (i, x, _) => i < j ∧ vs[i]? = some x ∧ First bt j i
def held : Option (Nat × Value × Value) → List (Nat × Value)
  | none => []
  | some (i, _, k) => [(i, k)]
variable {A : Around} {key : Value} {op : CmpOp} {lp : String} {B : Builtin} {l I S : Addr} {vs : List Value} {bt : Nat → Nat → Bool} {G : List (Nat × Value) → Shared → Prop} {R : Result → Shared → Prop} {kw : List (Str × Value)}
theorem Best.put (M : Best prog w A key op l I S vs bt G) {L : List (Nat × Value)} {s : Shared} {a b : Array Value} {c m : Nat} (SI : S ≠ I) (g : G L s) (hS : s.heap.get? S = some (lstO a c)) (hI : s.heap.IsListIter I l m) :
    G L (put S b s) ∧ (∃ c, (put S b s).heap.get? S = some (lstO b c)) ∧ (put S b s).heap.IsListIter I l m :=
  ⟨M.calm S L s _ s.toks (.inr rfl) g fun x o n e => (Heap.get?_update_other _ _ (Ne.symm n)).trans e, ⟨_, Heap.get?_update_self _ hS rfl⟩, hI.at fun o e => (Heap.get?_update_other _ _ SI).trans e⟩
theorem best_loop (T : Turn prog w op lp B) (he : entryFor table lp = some B) (hp : plainId lp = true) (hh : A.handled = none) (M : Best prog w A key op l I S vs bt G) (lI : l ≠ I) (SI : S ≠ I)
    (hD : vs = [] → ∃ n d r, kw = (n, d) :: r ∧ ∀ s, G [] s → R (.ok (.ret d)) s) (hR : ∀ i v k s, vs[i]? = some v → First bt vs.length i → G [(i, k)] s → R (.ok (.ret v)) s) :
    ∀ (r j : Nat) (b : Option (Nat × Value × Value)) (s : Shared) (c : Nat), vs.length = j + r → SoFar bt vs j b → G (held b) s → s.heap.get? S = some (lstO (kept (b.map (·.2))) c) → s.heap.IsListIter I l j →
      codeAny (model prog w) A (.builtin lp ⟨[.ref I, key, .ref S], kw⟩) R s := by
  have W := Walks.list (prog := prog) (w := w) (A := A.in1) hh I l lI vs.toArray
  intro r
  induction r with
  | zero =>
    intro j b s c ej so g hS hI
    obtain rfl : j = vs.toArray.size := by rw [List.size_toArray]; omega
    refine enter he hp (T I S key kw _ c) ⟨hS, W.done _ _ _ ⟨hI, M.list _ _ g⟩ fun h tk k => ?_⟩
    have g1 := M.calm I _ _ h tk (.inl rfl) g fun x o n e => k x o (by simpa using n) e
    refine ⟨⟨c, k S _ (by simpa using SI) hS⟩, ?_⟩
    rcases b with _ | ⟨i, x, y⟩
    · obtain ⟨n, d, l, e, q⟩ := hD (List.eq_nil_of_length_eq_zero (by simpa using (show vs.toArray.size = 0 from so)))
      exact ⟨n, d, l, e, q _ g1⟩
    · exact hR i x y _ so.2.1 (by simpa using so.2.2) (M.calm S _ _ _ tk (.inr rfl) g1 fun z o n e => (Heap.get?_update_other _ _ (Ne.symm n)).trans e)
  | succ r ih =>
    intro j b s c ej so g hS hI
    refine enter he hp (T I S key kw _ c) ⟨hS, W.item j _ _ _ (by rw [List.size_toArray]; omega) ⟨hI, M.list _ _ g⟩ fun v h tk hv st k => ?_⟩
    have hv : vs[j]? = some v := by simpa using hv
    have g1 := M.calm I _ _ h tk (.inl rfl) g fun x o n e => k x o (by simpa using n) e
    unfold After
    refine KeyOf.imp (M.keys _ _ j v _ _ _ g1 hv (k S _ (by simpa using SI) hS) st.1) fun y s2 ⟨g2, h2, i2⟩ => ⟨⟨c, h2⟩, ?_⟩
    have more : (∀ i, i < j → bt j i = true) → codeAny (model prog w) A (.builtin lp ⟨[.ref I, key, .ref S], kw⟩) R (put S #[v, y] s2) := fun up => by
      obtain ⟨g3, ⟨c3, h3⟩, i3⟩ := M.put (b := #[v, y]) SI g2 h2 i2
      refine ih (j + 1) (some (j, v, y)) _ c3 (by omega) ⟨Nat.lt_succ_self _, hv, fun i hi => ?_⟩ (M.head _ _ _ g3) h3 i3
      rcases Nat.lt_succ_iff_lt_or_eq.mp hi with z | rfl
      · exact ⟨M.asy _ _ (up i z), fun _ => up i z⟩
      · exact ⟨M.irr _, fun z => absurd z (Nat.lt_irrefl _)⟩
    rcases b with _ | ⟨i, x, z⟩
    · exact more fun i hi => absurd (show j = 0 from so) (by omega)
    · obtain ⟨hi, hx, ft⟩ := so
      refine wpAny_mono (M.cmp i j y z s2 g2) (fun a s3 ⟨ea, es⟩ => ⟨_, c, ea, es ▸ h2, ?_⟩) fun _ _ z => z
      subst es
      cases e : bt j i with
      | true => exact more fun i' hi' => M.cov _ _ _ e (ft i' hi').1
      | false =>
        refine ih (j + 1) (some (i, x, z)) _ c (by omega) ⟨by omega, hx, fun i' hi' => ?_⟩ (M.tail _ _ _ _ g2) h2 i2
        rcases Nat.lt_succ_iff_lt_or_eq.mp hi' with z | rfl
        · exact ft i' z
        · exact ⟨e, fun z => absurd z (by omega)⟩
abbrev Opens (prog : Program) (w : World) (nm lp : String) : Prop := ∀ (A : Around) (s : Shared) (Q E : Value → Shared → Prop) (kws : List (Str × Value)) (ko d : Option Value) (l : Addr) (its : Array Value),
  Builtin.Builtins.bindParams nm ["key", "default"] 0 ⟨[], kws⟩ = pure [ko, d] → argsOk nm ⟨[.ref l], kws⟩ → s.heap.IsList l its →
  codeAny (model prog w) A (.builtin lp ⟨[.ref s.heap.objs.size, ko.getD .none, .ref (s.heap.objs.size + 1)], d.toList.map fun d => ("default", d)⟩) (wants Q E)
    { s with heap := (s.heap.push { cls := .type "list_iterator", data := .fields #[.ref l, .int 0 0] }).push (lstO #[] 0) } → wpAny (model prog w) A (call (.builtin nm) [.ref l] kws) Q E s
theorem opens_min : Opens prog w "min" "min.loop" := by
  intro A s Q E kws ko d l its hb ha hl h
  refine kmb_tree F.kind_min F.plain_min F.entry_min ha ?_
  wp_walk using wpAny_of_eq hb, wpAny_pyIter_list hl
  rw [Heap.size_push]
  exact ⟨plainId_quiet F.plain_min_loop _, h⟩
theorem best_call {nm : String} (O : Opens prog w nm lp) (T : Turn prog w op lp B) (he : entryFor table lp = some B) (hp : plainId lp = true) {s : Shared} {Q E : Value → Shared → Prop} {kws : List (Str × Value)} {ko d : Option Value}
    (hh : A.handled = none) (hb : Builtin.Builtins.bindParams nm ["key", "default"] 0 ⟨[], kws⟩ = pure [ko, d]) (ha : argsOk nm ⟨[.ref l], kws⟩) (hl : s.heap.IsList l vs.toArray)
    (M : Best prog w A (ko.getD .none) op l s.heap.objs.size (s.heap.objs.size + 1) vs bt G) (g : ∀ h, (∀ b o, s.heap.get? b = some o → h.get? b = some o) → G [] { s with heap := h })
    (hD : vs = [] → ∃ x, d = some x ∧ ∀ s, G [] s → Q x s) (hR : ∀ i v k s, vs[i]? = some v → First bt vs.length i → G [(i, k)] s → Q v s) : wpAny (model prog w) A (call (.builtin nm) [.ref l] kws) Q E s := by
  obtain ⟨o, ho, _⟩ := id hl
  refine O A s Q E kws ko d l _ hb ha hl (best_loop T he hp hh M (Nat.ne_of_lt (Heap.lt_size ho)) (Nat.succ_ne_self _) (fun e => ?_) hR vs.length 0 none _ 0 (Nat.zero_add _).symm rfl (g _ fun b o e => ?_) ?_ ?_)
  · obtain ⟨x, rfl, q⟩ := hD e
    exact ⟨_, x, [], rfl, q⟩
  · exact Heap.get?_push_of_some _ (Heap.get?_push_of_some _ e)
  · exact Heap.get?_push_at (Heap.size_push ..).symm rfl
  · exact ⟨_, Heap.get?_push_of_some _ (Heap.get?_push_size _ rfl), rfl, rfl⟩
abbrev Grown (h h' : Heap) : Prop := ∀ b o, h.get? b = some o → h'.get? b = some o
theorem best_grown {nm : String} (O : Opens prog w nm lp) (T : Turn prog w op lp B) (he : entryFor table lp = some B) (hp : plainId lp = true) {s : Shared} {Q E : Value → Shared → Prop} {kws : List (Str × Value)} {ko d : Option Value}
    (hh : A.handled = none) (hb : Builtin.Builtins.bindParams nm ["key", "default"] 0 ⟨[], kws⟩ = pure [ko, d]) (ha : argsOk nm ⟨[.ref l], kws⟩) (hl : s.heap.IsList l vs.toArray)
    (bt : Nat → Nat → Bool) (irr : ∀ i, bt i i = false) (asy : ∀ i j, bt i j = true → bt j i = false) (cov : ∀ a b c, bt a b = true → bt c b = false → bt a c = true) (KK : Nat → Value → Prop)
    (keys : ∀ j v h tk, vs[j]? = some v → Grown s.heap h → KeyOf prog w A (ko.getD .none) v (fun k s' => KK j k ∧ ∃ tk, s' = { s with heap := h, toks := tk }) { s with heap := h, toks := tk })
    (cmp : ∀ i j k k' h tk, KK j k → KK i k' → Grown s.heap h → ∀ Q : Value → Shared → Prop, Q (.bool (bt j i)) { s with heap := h, toks := tk } → wpAny (model prog w) A.in1 (richCompare op k k') Q (fun _ _ => False) { s with heap := h, toks := tk })
    (hD : vs = [] → ∃ x, d = some x ∧ ∀ h tk, Grown s.heap h → Q x { s with heap := h, toks := tk }) (hR : ∀ i v h tk, vs[i]? = some v → First bt vs.length i → Grown s.heap h → Q v { s with heap := h, toks := tk }) :
    wpAny (model prog w) A (call (.builtin nm) [.ref l] kws) Q E s := by
  refine best_call (bt := bt) (G := fun L s' => (∃ h tk, s' = { s with heap := h, toks := tk } ∧ Grown s.heap h) ∧ ∀ p ∈ L, KK p.1 p.2) O T he hp hh hb ha hl ⟨irr, asy, cov, ?_, ?_, ?_, ?_, ?_, ?_⟩ (fun h k => ⟨⟨h, s.toks, rfl, k⟩, by simp⟩) (fun e => ?_) ?_
  · exact fun p q L s g => ⟨g.1, fun q hq => g.2 q (List.mem_cons_of_mem _ hq)⟩
  · exact fun p L s g => ⟨g.1, fun q hq => g.2 q (List.mem_singleton.mp hq ▸ List.mem_cons_self)⟩
  · rintro x L s' h tk hx ⟨⟨h', tk', rfl, G⟩, q⟩ k
    refine ⟨⟨h, tk, rfl, fun b o e => k b o ?_ (G b o e)⟩, q⟩
    have := Heap.lt_size e
    rcases hx with rfl | rfl
    · exact Nat.ne_of_lt this
    · exact Nat.ne_of_lt (Nat.lt_succ_of_lt this)
  · rintro L s' ⟨⟨h', tk', rfl, G⟩, q⟩
    exact hl.at fun o e => G _ _ e
  · rintro L s' j v a c m ⟨⟨h, tk, rfl, G⟩, q⟩ hv hS hI
    refine (keys j v h tk hv G).imp ?_
    rintro k s' ⟨hk, tk', rfl⟩
    refine ⟨⟨⟨h, tk', rfl, G⟩, fun p hp => ?_⟩, hS, hI⟩
    rcases List.mem_cons.mp hp with rfl | hp
    · exact hk
    · exact q p hp
  · rintro i j k k' s' ⟨⟨h, tk, rfl, G⟩, q⟩
    exact cmp i j k k' h tk (q (j, k) (by simp)) (q (i, k') (by simp)) G _ ⟨rfl, rfl⟩
  · obtain ⟨x, hx, q⟩ := hD e
    exact ⟨x, hx, fun s' ⟨⟨h, tk, e, G⟩, _⟩ => e ▸ q h tk G⟩
  · exact fun i v k s' hv ft ⟨⟨h, tk, e, G⟩, _⟩ => e ▸ hR i v h tk hv ft G
end
end GX
namespace GX
open PySem
theorem filterMap_all {α β : Type} (f : α → Option β) (g : α → β) : ∀ (l : List α), (∀ x ∈ l, f x = some (g x)) → l.filterMap f = l.map g
  | [], _ => rfl
  | x :: l, h => by
    rw [List.filterMap_cons, h x List.mem_cons_self, List.map_cons]
    exact congrArg _ (filterMap_all f g l fun y hy => h y (List.mem_cons_of_mem _ hy))
theorem pick_rev (its : List Value) : slicePick its.toArray none none (some (-1)) = its.reverse.toArray := by
  unfold slicePick
  have e : sliceBounds none none (some (-1)) its.toArray.size = ((its.length : Int) - 1, -1, -1) := by
    unfold sliceBounds
    simp
  rw [e]
  have r : sliceRange ((its.length : Int) - 1) (-1) (-1) = (List.range its.length).map fun k => its.length - 1 - k := by
    unfold sliceRange
    by_cases z : its.length = 0
    · rw [z]; rfl
    · have c : (if ((-1 : Int) > 0) then (if (its.length : Int) - 1 < -1 then (-1 - ((its.length : Int) - 1) + -1 - 1) / -1 else 0) else (if (its.length : Int) - 1 > -1 then ((its.length : Int) - 1 - -1 - -1 - 1) / (- -1) else 0)) = (its.length : Int) := by
        rw [if_neg (by decide), if_pos (by omega)]
        have : (- -1 : Int) = 1 := by decide
        rw [this, Int.ediv_one]
        omega
      simp only [c, Int.toNat_natCast]
      apply List.map_congr_left
      intro k hk
      have := List.mem_range.mp hk
      omega
  rw [r]
  congr 1
  rw [filterMap_all _ (fun j => its.getD j .none) _ (fun j hj => ?_)]
  · apply List.ext_getElem?
    intro i
    rw [List.getElem?_map, List.getElem?_map]
    by_cases hi : i < its.length
    · rw [List.getElem?_eq_getElem (by rw [List.length_range]; exact hi), List.getElem_range, List.getElem?_reverse hi]
      show some (its.getD (its.length - 1 - i) .none) = _
      rw [List.getD_eq_getElem?_getD, List.getElem?_eq_getElem (by omega)]
      rfl
    · rw [List.getElem?_eq_none (by rw [List.length_range]; omega), List.getElem?_eq_none (by rw [List.length_reverse]; omega)]
      rfl
  · obtain ⟨k, hk, e⟩ := List.mem_map.mp hj
    have hk := List.mem_range.mp hk
    have hl : j < its.length := by omega
    rw [List.getD_eq_getElem?_getD]
    simp [hl]
end GX
namespace GB
end GB
namespace GB
theorem fold_bit (h : Nat) : ∀ (l : List Nat) (a : Nat), (l.foldl (fun a h => a ||| 2 ^ h) a).testBit h = (a.testBit h || decide (h ∈ l))
  | [], a => by simp
  | x :: l, a => by
    rw [List.foldl_cons, fold_bit h l, Nat.testBit_or, Nat.testBit_two_pow, Bool.or_assoc]
    congr 1
    rw [Bool.eq_iff_iff]
    simp only [Bool.or_eq_true, decide_eq_true_iff, List.mem_cons]
    constructor
    · rintro (e | e)
      · exact .inl e.symm
      · exact .inr e
    · rintro (e | e)
      · exact .inl e.symm
      · exact .inr e
end GB
namespace L2
open PySem PySem.Spec PyProof.Rows
def capOk (N : List Str) (sc : Scope) (x : Str) : Option Nat → Bool
  | none => true
  | some j => decide (N[j]? = some x) && decide (sc.names.lookup x = some .free)
def BlkP (N N' : List Str) (src : List (Option Nat)) (esc sc : Scope) : Prop :=
  (∀ y ∈ sc.names, y.2 ≠ .cell) ∧ (∀ y ∈ sc.names, y.2 = .local → sc.names.lookup y.1 = some .local) ∧
  (∀ y ∈ sc.names, y.2 = .free → esc.names.lookup y.1 = some .cell ∨ esc.names.lookup y.1 = some .free) ∧
  N'.Nodup ∧ src.length = N'.length ∧ ∀ p ∈ N'.zip src, capOk N sc p.1 p.2 = true
instance (N N' : List Str) (src : List (Option Nat)) (esc sc : Scope) : Decidable (BlkP N N' src esc sc) := by unfold BlkP; infer_instance
def blkSt (src : List (Option Nat)) (σ : St) : St := src.map fun o => o.bind fun j => (σ[j]?).bind fun v => v
def Cx.blk (X : Cx) (N' : List Str) (sc : Scope) (cl : List (Str × Addr)) (C : Addr) (s2 : Shared) (H2 : Hp) (fp : List Addr) : Cx :=
  { X with N := N', s₀ := s2, H₀ := H2, env := compEnvC sc cl C X.env, outer := X.stack, ex := fp, fn := fun _ => false, pn := [], xe := fun _ _ => False }
def PIf (X : Cx) (ifs : List Expr) (t : TT) : Prop :=
  ∀ (pins : List (Addr × Obj)) (s : Shared) (σ : St) (H : Hp) (Q : Bool → Hp → Prop), Inv X pins σ H s → t σ H Q →
    wpAny (model X.prog X.w) X.A (forIn ifs true fun c r => if r = true then do let ok ← isTrue c X.env (eval c X.env); pure (ForInStep.yield ok) else pure (ForInStep.yield r)) (TP X pins σ Q) X.xe s
def tYes : TT := fun _ H Q => Q true H
theorem pif_nil {X : Cx} : PIf X [] tYes := fun _ _ _ H _ I h => wpAny_tests_nil ⟨H, I, h⟩
theorem pif_one {X : Cx} {c : Expr} {t : TT} (h : PT X c t) : PIf X [c] t := fun pins s σ H Q I hw => wpAny_tests_one (h pins s σ H Q I hw)
theorem Un.but {fs ex : List Addr} {H H' : Hp} {h h1 h2 : Heap} {C : Addr} (u : Un fs ex H H' h h1) (sb : Heap.SameBut C h1 h2) (hC : h.get? C = none) : Un fs ex H H' h h2 :=
  have ne : ∀ b o, h.get? b = some o → b ≠ C := fun b o e z => by rw [z, hC] at e; cases e
  ⟨fun b o e n hb hx => (sb.2 b (ne b o e)).trans (u.keep b o e n hb hx), fun b o e n hb hx => let ⟨sl, z⟩ := u.slot b o e n hb hx; ⟨sl, (sb.2 b (ne b o e)).trans z⟩, u.free,
    fun b o e hx => let ⟨o', z⟩ := u.there b o e hx; ⟨o', (sb.2 b (ne b o e)).trans z⟩, u.tups, u.frzs, u.tbls⟩
theorem HOk.but {P : Program} {w : World} {H : Hp} {h h' : Heap} {C : Addr} (x : HOk P w H h) (sb : Heap.SameBut C h h') (hC : H C = none) : HOk P w H h' := fun b ob e => by
  refine (x b ob e).stay (fun c v hc q => (sb.2 c ?_).trans q) (fun _ q => q) fun _ _ q => q
  rintro rfl
  rcases hc with rfl | hc
  · rw [hC] at e; cases e
  · rw [hC] at hc; cases hc
def cTurn (g : TG) (tt : TT) (te : TE) (D : Addr) (N : St → Hp → Prop) (x : V) (σ : St) (H : Hp) : Prop :=
  g x σ H fun σ2 H2 => tt σ2 H2 fun b H3 => if b = true then te σ2 H3 fun y H4 => ∃ ys, H4 D = some (.lst ys) ∧ ys.length < sizeLine ∧ N σ2 (upd H4 D (.lst (ys ++ [y]))) else N σ2 H3
def tComp (src : List (Option Nat)) (wi : TI) (g : TG) (tt : TT) (te : TE) : TE := fun σ H Q => wi σ H fun J H1 => ∀ D, H1 D = none → ∃ W : Nat → Nat → St → Hp → Prop, (∃ m, W 0 m (blkSt src σ) (upd H1 D (.lst []))) ∧
  ∀ i m σ' H', W i m σ' H' → (J.stop i H' ∧ Q (.ref D) H') ∨ (J.go i H' ∧ ∃ N : St → Hp → Prop, (∀ σ2 H2, N σ2 H2 → ∃ m', m' < m ∧ W (i + 1) m' σ2 H2) ∧
    ∀ x H'', J.yld i H' x H'' → cTurn g tt te D N x σ' H'')
theorem comp_core {X : Cx} {elt tg iter : Expr} {ifs : List Expr} {sc : Scope} {pos : Pos} {g : TG} {tt : TT} {te : TE} {N' : List Str} {src : List (Option Nat)} {cl : List (Str × Addr)} {pins : List (Addr × Obj)} {σ : St} {H2 : Hp} {s2 : Shared} {it : Addr} {fp : List Addr}
    {tn : Nat → Heap → Prop} {J : It} {W : Nat → Nat → St → Hp → Prop} {m0 : Nat} {Qe : Hp → Prop} {RR : Value → Addr → Result → Shared → Prop}
    (hc : X.calm = true) (hk : sc.kind = .function) (hB : BlkP X.N N' src X.env.scope sc) (hsub : ∀ x c, cl.lookup x = some c → X.env.cells.lookup x = some c) (hhas : ∀ n, (n, NameKind.free) ∈ sc.names → ∃ c, cl.lookup n = some c)
    (hg : ∀ cl C s2 H2 fp, N'.Nodup → PG (X.blk N' sc cl C s2 H2 fp) tg g)
    (ht : ∀ cl C s2 H2 fp, PIf (X.blk N' sc cl C s2 H2 fp) ifs tt)
    (he : ∀ cl C s2 H2 fp, PE (X.blk N' sc cl C s2 H2 fp) elt te)
    (I2 : Inv X pins σ H2 s2) (T : Turn X.prog X.w X.K tg J fp it tn) (st2 : tn 0 s2.heap) (f2 : ∀ b ∈ fp, FpOk X pins H2 b)
    (w0 : W 0 m0 (blkSt src σ) (upd H2 s2.heap.objs.size (.lst [])))
    (turn : ∀ i m σ' H', W i m σ' H' → (J.stop i H' ∧ Qe H') ∨ (J.go i H' ∧ ∃ N : St → Hp → Prop, (∀ σ2 H2, N σ2 H2 → ∃ m', m' < m ∧ W (i + 1) m' σ2 H2) ∧
      ∀ x H'', J.yld i H' x H'' → cTurn g tt te s2.heap.objs.size N x σ' H''))
    (fin : ∀ C s4 σ3 H3, s2.heap.objs.size ≤ C → Inv (X.blk N' sc cl C s2 H2 fp) [] σ3 H3 s4 → Qe H3 → RR (.ref s2.heap.objs.size) C (.ok .next) s4) :
    wpAny (model X.prog X.w) X.A (newList []) (fun acc s₃ => wpAny (model X.prog X.w) X.A (newFunctionEnv sc X.env.globals cl [] X.env.qual none .none (some X.env)) (fun cenv s₄ =>
      codeAny (model X.prog X.w) X.A (.compStart (.ListComp elt [⟨tg, iter, ifs, 0⟩] sc pos) 0 (.ref it) acc { cenv with scope := relabel sc X.env }) (RR acc cenv.locals) s₄) X.xe s₃) X.xe s2 := by
  obtain ⟨b1, b2, b3, b4, b5, b6⟩ := hB
  refine wpAny_newObj_type (wpAny_newFunctionEnv b1 (by intro y hy; simp at hy) (fun h₁ ns₁ sb₁ => ?_) hk)
  dsimp only at ns₁ sb₁ ⊢
  generalize hP : s2.heap.push { cls := .type "list", dict := none, data := .seq ([] : List Value).toArray } = Hl at ns₁ sb₁ ⊢
  have hC : Hl.objs.size = s2.heap.objs.size + 1 := by rw [← hP, Heap.size_push]
  have nDC : s2.heap.objs.size ≠ Hl.objs.size := by rw [hC]; exact Nat.ne_of_lt (Nat.lt_succ_self _)
  have below : ∀ {b : Addr} {o : Obj}, s2.heap.get? b = some o → b ≠ Hl.objs.size := fun {b o} z => by
    have := Heap.lt_size z
    rw [hC]
    exact Nat.ne_of_lt (Nat.lt_succ_of_lt this)
  have old : ∀ b o, s2.heap.get? b = some o → h₁.get? b = some o := fun b o z => sb₁.extBut b o (below z) (Heap.get?_push_of_some _ (hP ▸ Heap.get?_push_of_some _ z))
  have hD1 : h₁.get? s2.heap.objs.size = some { cls := .type "list", data := .seq ([] : List Value).toArray } := sb₁.extBut _ _ nDC (Heap.get?_push_of_some _ (hP ▸ Heap.get?_push_size _ rfl))
  have fD : H2 s2.heap.objs.size = none := I2.hok.fresh (Nat.le_refl _)
  have fC : H2 Hl.objs.size = none := I2.hok.fresh (by rw [hC]; exact Nat.le_succ _)
  have ok : (X.blk N' sc cl Hl.objs.size s2 H2 fp).Ok := by
    refine ⟨I2.ok.mod, hk, I2.ok.glob, I2.ok.blt, ?_, fun x y c h1 h2 => I2.ok.inj x y c (hsub x c h1) (hsub y c h2), fun x hx => ?_, fun x c z => ?_, I2.ok.hd, I2.ok.frames, .inl rfl, fun b hb => ⟨?_, fun x c z => (f2 b hb).2.2.2.2.1 x c (hsub x c z)⟩,
      I2.bs, Nat.le_trans I2.ok.bsz I2.sz, fun b o z hb => ?_, fun b hb z => ?_, I2.stack, I2.stkFree⟩
    · show s2.heap.objs.size ≤ Hl.objs.size
      rw [hC]; exact Nat.le_succ _
    · have hx' : (sc.names.map fun (n, k) => if (k == NameKind.free && X.env.scope.kind == .function && X.env.kindOf n == some .cell) then (n, NameKind.cell) else (n, k)).lookup x = some .cell ∨
          (sc.names.map fun (n, k) => if (k == NameKind.free && X.env.scope.kind == .function && X.env.kindOf n == some .cell) then (n, NameKind.cell) else (n, k)).lookup x = some .free := hx
      rw [GX.lookup_relabel] at hx'
      cases e : sc.names.lookup x with
      | none =>
        rw [e] at hx'
        simp at hx'
      | some k =>
        rw [e] at hx'
        by_cases hf : k = .free
        · subst hf
          exact hhas x (PySem.mem_of_lookup e)
        · have hb : (k == NameKind.free) = false := by simpa using hf
          have e2 : ((some k).map fun k => if (k == NameKind.free && X.env.scope.kind == .function && X.env.kindOf x == some .cell) then NameKind.cell else k) = some k := by
            show some (if (k == NameKind.free && X.env.scope.kind == .function && X.env.kindOf x == some .cell) = true then NameKind.cell else k) = some k
            rw [hb, Bool.false_and, Bool.false_and]
            rfl
          rw [e2] at hx'
          rcases hx' with z | z
          · exact absurd (Option.some.inj z) (b1 _ (PySem.mem_of_lookup e))
          · exact absurd (Option.some.inj z) hf
    · cases z
    · obtain ⟨o, z, _⟩ := T.obj 0 _ st2 b hb
      exact below z
    · rcases (f2 b hb).2.2.2.1 with f3 | f3
      · exact I2.ok.noex b o z f3
      · have l1 := Heap.lt_size z
        have l2 := I2.ok.bsz
        exact absurd (Nat.lt_of_lt_of_le l1 (Nat.le_trans l2 f3)) (Nat.lt_irrefl _)
    · rcases List.mem_cons.mp (I2.stkSub b z) with z | z
      · exact (f2 b hb).2.1 z
      · exact (f2 b hb).2.2.1 z
  have IY : Inv (X.blk N' sc cl Hl.objs.size s2 H2 fp) [] (blkSt src σ) (upd H2 s2.heap.objs.size (.lst [])) { s2 with heap := h₁, toks := s2.toks + ([] : List (Str × Value)).length } := by
    refine ⟨ok, rfl, I2.bare, Un.laid old (Nat.le_refl _) fD, ⟨_, ns₁, fun i x v e1 e2 _ => ?_⟩, fun x c z => ?_, ?_, fun x c z => ?_, fun p hp => ?_, I2.hok.laid old (Nat.le_refl _) ⟨Nat.zero_le _, [], 0, .nil, hD1⟩, ?_⟩
    · have e1' : N'[i]? = some x := e1
      unfold blkSt at e2
      rw [List.getElem?_map] at e2
      cases es : src[i]? with
      | none => rw [es] at e2; cases e2
      | some o =>
        rw [es] at e2
        cases o with
        | none => cases e2
        | some j =>
          have e3 : (σ[j]?).bind (fun v => v) = some v := Option.some.inj e2
          have e4 : σ[j]? = some (some v) := by
            cases q : σ[j]? with
            | none => rw [q] at e3; cases e3
            | some w => rw [q] at e3; exact congrArg some e3
          have hz : (x, some j) ∈ N'.zip src := List.mem_of_getElem? (i := i) (by rw [List.getElem?_zip_eq_some]; exact ⟨e1', es⟩)
          have hcap := b6 _ hz
          have hcap' : (decide (X.N[j]? = some x) && decide (sc.names.lookup x = some .free)) = true := hcap
          rw [Bool.and_eq_true] at hcap'
          have c1 : X.N[j]? = some x := of_decide_eq_true hcap'.1
          have c2 : sc.names.lookup x = some .free := of_decide_eq_true hcap'.2
          have hfree := PySem.mem_of_lookup c2
          have vis := b3 _ hfree rfl
          obtain ⟨m, hn, hl⟩ := I2.loc
          obtain ⟨u, ru, lk⟩ := hl j x v c1 e4 (.inr vis)
          rcases lk with ⟨k1, _⟩ | ⟨_, c, k2, z⟩
          · have k1' : X.env.scope.names.lookup x = some .local := k1
            rcases vis with v | v <;> (rw [k1'] at v; cases v)
          · obtain ⟨c', k3⟩ := hhas x hfree
            have k4 := hsub x c' k3
            rw [k2] at k4
            cases k4
            refine ⟨u, ru, .inr ⟨?_, c, k3, z.keeps old⟩⟩
            show (sc.names.map fun (n, k) => if (k == NameKind.free && X.env.scope.kind == .function && X.env.kindOf n == some .cell) then (n, NameKind.cell) else (n, k)).lookup x = some .cell ∨
              (sc.names.map fun (n, k) => if (k == NameKind.free && X.env.scope.kind == .function && X.env.kindOf n == some .cell) then (n, NameKind.cell) else (n, k)).lookup x = some .free
            rw [GX.lookup_relabel, c2]
            show some (if _ then NameKind.cell else NameKind.free) = _ ∨ some (if _ then NameKind.cell else NameKind.free) = _
            split
            · exact .inl rfl
            · exact .inr rfl
    · obtain ⟨v, q⟩ := I2.cell x c (hsub x c z)
      exact ⟨v, q.keeps old⟩
    · show upd H2 s2.heap.objs.size (.lst []) Hl.objs.size = none
      rw [upd_ne (Ne.symm nDC)]
      exact fC
    · obtain ⟨v, q⟩ := I2.cell x c (hsub x c z)
      rw [upd_ne (Nat.ne_of_lt q.lt)]
      exact I2.freeC x c (hsub x c z)
    · exact absurd (show p ∈ ([] : List (Addr × Obj)) from hp) (by simp)
    · show (src.map _).length = N'.length
      rw [List.length_map]
      exact b5
  have stat : ∀ {H' : Hp}, (∀ b ∈ fp, H' b = none) → ∀ b ∈ fp, FpOk (X.blk N' sc cl Hl.objs.size s2 H2 fp) [] H' b := fun hn b hb =>
    ⟨hn b hb, (ok.exf b hb).1, ok.exfs b hb, .inl hb, (ok.exf b hb).2, fun p hp => absurd (show p ∈ ([] : List (Addr × Obj)) from hp) (by simp)⟩
  have loop : codeAny (model X.prog X.w) X.A (.compLoop (.ListComp elt [⟨tg, iter, ifs, 0⟩] sc pos) 0 (.ref it) (.ref s2.heap.objs.size) (compEnvC sc cl Hl.objs.size X.env))
      (RR (.ref s2.heap.objs.size) Hl.objs.size) { s2 with heap := h₁, toks := s2.toks + ([] : List (Str × Value)).length } := by
    refine GX.compLoop_go (fun n s' => ∃ i σ' H', Inv (X.blk N' sc cl Hl.objs.size s2 H2 fp) [] σ' H' s' ∧ tn i s'.heap ∧ (∀ b ∈ fp, H' b = none) ∧ W i n σ' H') ?_ m0
      ⟨0, _, _, IY, T.keep 0 _ _ st2 (fun b _ o z => old b o z), fun b hb => ?_, w0⟩
    · rintro n s3 ⟨i, σ3, H3, I3, st3, fr3, w3⟩
      rcases turn i n σ3 H3 w3 with ⟨stop, qn⟩ | ⟨go, N, hN, step⟩
      · refine wpAny_bind (thn (T.done (X.blk N' sc cl Hl.objs.size s2 H2 fp) rfl rfl rfl hc i [] s3 σ3 H3 (fun _ _ => False) I3 (stat fr3) st3 stop) fun r s4 ⟨hr, I4⟩ => ?_)
        subst hr
        exact wpAny_pure <| fin _ s4 σ3 H3 (by rw [hC]; exact Nat.le_succ _) I4 qn
      · refine wpAny_bind (thn (T.item (X.blk N' sc cl Hl.objs.size s2 H2 fp) rfl rfl rfl hc i [] s3 σ3 H3 (fun _ _ => False) I3 (stat fr3) st3 go) fun r s4 ⟨u, hr, h4⟩ => ?_)
        subst hr
        refine wpAny_bind (thn h4 fun _ s5 ⟨x, H5, I5, r5, y5, st5, fr5⟩ => ?_)
        have I5' := I5.pinned (stat fr5) (T.obj _ _ st5)
        have again : ∀ {σ7 : St} {H7 : Hp} {s7 : Shared}, Inv (X.blk N' sc cl Hl.objs.size s2 H2 fp) ([] ++ pinsAt fp s5.heap) σ7 H7 s7 → N σ7 H7 →
            ∃ m, m < n ∧ ∃ i σ' H', Inv (X.blk N' sc cl Hl.objs.size s2 H2 fp) [] σ' H' s7 ∧ tn i s7.heap ∧ (∀ b ∈ fp, H' b = none) ∧ W i m σ' H' := fun {σ7 H7 s7} I7 n7 => by
          obtain ⟨m', hm, w7⟩ := hN σ7 H7 n7
          refine ⟨m', hm, i + 1, σ7, H7, I7.unpinned, T.keep _ _ _ st5 fun b hb o z => (I7.pin (b, o) (List.mem_append_right _ (List.mem_append_right _ (mem_pinsAt hb z)))).1, fun b hb => ?_, w7⟩
          obtain ⟨o, z, _⟩ := T.obj _ _ st5 b hb
          exact (I7.pin (b, o) (List.mem_append_right _ (List.mem_append_right _ (mem_pinsAt hb z)))).2.1
        refine wpAny_bind (thn (hg cl Hl.objs.size s2 H2 fp b4 _ s5 σ3 H5 x u _ I5' r5 (step x H5 y5)) fun _ s6 ⟨σ6, H6, I6, q6⟩ => ?_)
        refine wpAny_bind (thn (ht cl Hl.objs.size s2 H2 fp _ s6 σ6 H6 _ I6 q6) fun ok s7 ⟨H7, I7, q7⟩ => ?_)
        cases ok with
        | true =>
          rw [if_pos rfl] at q7 ⊢
          refine wpAny_bind (thn (he cl Hl.objs.size s2 H2 fp _ s7 σ6 H7 _ I7 q7) fun yv s8 ⟨y, H8, I8, r8, ys, hD, hz, n8⟩ => ?_)
          exact wpAny_bind <| thn (mt_append (X := X.blk N' sc cl Hl.objs.size s2 H2 fp) _ s8 σ6 H8 (.ref s2.heap.objs.size) [y] (.ref s2.heap.objs.size) [yv] (fun _ H' => N σ6 H') I8 rfl (.cons r8 .nil) ⟨_, ys, y, rfl, rfl, hD, hz, n8⟩)
            fun _ s9 ⟨_, H9, I9, _, n9⟩ => wpAny_pure (again I9 n9)
        | false =>
          rw [if_neg Bool.false_ne_true] at q7 ⊢
          exact wpAny_pure (again I7 q7)
    · obtain ⟨o, z, _⟩ := T.obj 0 _ st2 b hb
      rw [upd_ne (Nat.ne_of_lt (Heap.lt_size z))]
      exact (f2 b hb).1
  exact codeAny_compStart_list loop (T.self X.A 0 _ _ _ (T.keep 0 _ _ st2 (fun b _ o z => old b o z)) loop)
theorem pe_comp {X : Cx} {elt tg iter : Expr} {ifs : List Expr} {sc : Scope} {pos : Pos} {wi : TI} {g : TG} {tt : TT} {te : TE} (N' : List Str) (src : List (Option Nat))
    (hc : X.calm = true) (hk : sc.kind = .function) (hB : decide (BlkP X.N N' src X.env.scope sc) = true) (hi : PI X tg iter wi)
    (hg : ∀ cl C s2 H2 fp, N'.Nodup → PG (X.blk N' sc cl C s2 H2 fp) tg g)
    (ht : ∀ cl C s2 H2 fp, PIf (X.blk N' sc cl C s2 H2 fp) ifs tt)
    (he : ∀ cl C s2 H2 fp, PE (X.blk N' sc cl C s2 H2 fp) elt te)
    (hs : ∀ x, foldedSetIterable iter X.env x = pure x := by intro _; rfl) :
    PE X (.ListComp elt [⟨tg, iter, ifs, 0⟩] sc pos) (tComp src wi g tt te) := by
  intro pins s σ H Q I h
  have B := of_decide_eq_true hB
  obtain ⟨cl, hclos, hsub, hhas⟩ := GX.closure_ok (env := X.env) (sc := sc) fun y hy hf => I.ok.has y.1 (B.2.2.1 y hy hf)
  rw [eval_ListComp]
  refine wpAny_comprehension_free (use := none) rfl hs hclos hk B.2.1 (thn (hi pins s σ H _ I h) fun v s1 h1 => thn h1 fun itv s2 h2 => ?_)
  obtain ⟨it, fp, tn, J, H2, e, I2, T, st2, f2, q⟩ := h2
  subst e
  obtain ⟨W, ⟨m0, w0⟩, turn⟩ := q s2.heap.objs.size (I2.hok.fresh (Nat.le_refl _))
  refine comp_core (RR := fun acc C => compPost (model X.prog X.w) X.A X.xe none (EP X pins σ Q) acc C) (Qe := fun H' => Q (.ref s2.heap.objs.size) H') hc hk B hsub hhas hg ht he I2 T st2 f2 w0 turn fun C s4 σ3 H3 hC I4 qn => ?_
  obtain ⟨m, hn, _⟩ := I4.loc
  refine ⟨m, hn, fun h' sb => ⟨.ref s2.heap.objs.size, H3, ?_, rfl, qn⟩⟩
  exact I2.call' (s' := { s4 with heap := h' }) (ch := fp) I4.os (I4.base.but sb (Heap.get?_none_of_le hC)) (I4.hok.but sb I4.free) I4.bare fun b hb => ⟨(f2 b hb).2.2.2.1, (f2 b hb).2.1, (f2 b hb).2.2.2.2.1, (f2 b hb).2.2.2.2.2⟩
theorem ps_comp {X : Cx} {elt tg iter : Expr} {ifs : List Expr} {sc : Scope} {pos py spos : Pos} {y : Str} {i : Nat} {wi : TI} {g : TG} {tt : TT} {te : TE} (N' : List Str) (src : List (Option Nat))
    (hN : X.N.Nodup) (hy : X.N[i]? = some y) (hl : Loc X.env.scope y) (hc : X.calm = true) (hk : sc.kind = .function) (hB : decide (BlkP X.N N' src X.env.scope sc) = true) (hi : PI X tg iter wi)
    (hg : ∀ cl C s2 H2 fp, N'.Nodup → PG (X.blk N' sc cl C s2 H2 fp) tg g)
    (ht : ∀ cl C s2 H2 fp, PIf (X.blk N' sc cl C s2 H2 fp) ifs tt)
    (he : ∀ cl C s2 H2 fp, PE (X.blk N' sc cl C s2 H2 fp) elt te)
    (hsw : swapsWith (.ListComp elt [⟨tg, iter, ifs, 0⟩] sc pos) (some (.Name y py)) spos.line X.env = pure true := by rfl)
    (hs : ∀ x, foldedSetIterable iter X.env x = pure x := by intro _; rfl) (hf : X.fn y = true ∨ X.env.scope.names.lookup y = some .local := by first | exact .inl rfl | exact .inr rfl) :
    PS X (.Assign [.Name y py] (.ListComp elt [⟨tg, iter, ifs, 0⟩] sc pos) spos) (tAsg (tComp src wi g tt te) (gName i)) := by
  intro pins s σ H D I h
  have B := of_decide_eq_true hB
  obtain ⟨cl, hclos, hsub, hhas⟩ := GX.closure_ok (env := X.env) (sc := sc) fun y hy hf => I.ok.has y.1 (B.2.2.1 y hy hf)
  rw [exec_Assign_Name_used _ _ _ _ hsw]
  refine wpAny_bind (wpAny_standAt (wpAny_bind ?_))
  show wpAny _ X.A (do let _ ← comprehension (.ListComp elt [⟨tg, iter, ifs, 0⟩] sc pos) sc X.env _ (newList []) false (eval iter X.env) (some (assign (.Name y py) X.env))) _ _ s
  refine wpAny_bind (wpAny_mono (wpAny_comprehension_free (use := some (assign (.Name y py) X.env)) (Q := fun _ s' => SP X pins D .next s') rfl hs hclos hk B.2.1
    (thn (hi pins s σ H _ I h) fun v s1 h1 => thn h1 fun itv s2 h2 => ?_)) (fun _ s' hq => wpAny_pure (wpAny_pure hq)) fun _ _ e => e)
  obtain ⟨it, fp, tn, J, H2, e, I2, T, st2, f2, q⟩ := h2
  subst e
  obtain ⟨W, ⟨m0, w0⟩, turn⟩ := q s2.heap.objs.size (I2.hok.fresh (Nat.le_refl _))
  refine comp_core (RR := fun acc C => compPost (model X.prog X.w) X.A X.xe (some (assign (.Name y py) X.env)) (fun _ s' => SP X pins D .next s') acc C) (Qe := fun H' => D.nx (σ.set i (some (.ref s2.heap.objs.size))) H') hc hk B hsub hhas hg ht he I2 T st2 f2 w0 turn
    fun C s4 σ3 H3 hC I4 qn => ?_
  have IX : Inv X pins σ H3 s4 := I2.call' (ch := fp) I4.os I4.base I4.hok I4.bare fun b hb => ⟨(f2 b hb).2.2.2.1, (f2 b hb).2.1, (f2 b hb).2.2.2.2.1, (f2 b hb).2.2.2.2.2⟩
  have nC : ∀ {b : Addr} {o : Obj}, s2.heap.get? b = some o → C ≠ b := fun {b o} z => Nat.ne_of_gt (Nat.lt_of_lt_of_le (Heap.lt_size z) hC)
  have nL : C ≠ X.env.locals := Nat.ne_of_gt (Nat.lt_of_lt_of_le I2.lt hC)
  have nK : ∀ x c, X.env.cells.lookup x = some c → c ≠ C := fun x c z => by
    obtain ⟨v, o, ho, _⟩ := I2.cell x c z
    exact Ne.symm (nC ho)
  obtain ⟨m, hn, _⟩ := I4.loc
  show wpAny _ X.A (assign (.Name y py) X.env (.ref s2.heap.objs.size)) _ _ s4
  refine wpAny_assign_Name (store_ok2 IX hN hy hl (v := .ref s2.heap.objs.size) rfl (fun s5 I5 h5 => ?_) hf)
  obtain ⟨a, sb, ha⟩ := h5
  have na : C ≠ a := by
    rcases ha with z | z
    · rw [z]; exact nL
    · exact Ne.symm (nK _ _ z)
  refine ⟨m, hn.sameBut sb na, fun h' sb' => ⟨_, H3, ?_, qn⟩⟩
  exact I5.turned (it := C) (t' := s5.toks) (fun b o hb z => (sb'.2 b hb).trans z) I4.free nL (.inr (Nat.le_trans I2.sz hC)) nK fun p hp => Ne.symm (nC (I2.pin p hp).1)
theorem cT_yes {i : Nat} {te : TE} {D : Addr} {N : St → Hp → Prop} {x : V} {σ : St} {H : Hp} (h : te (σ.set i (some x)) H fun y H4 => ∃ ys, H4 D = some (.lst ys) ∧ ys.length < sizeLine ∧ N (σ.set i (some x)) (upd H4 D (.lst (ys ++ [y])))) : cTurn (gName i) tYes te D N x σ H := by
  show (if true = true then te (σ.set i (some x)) H (fun y H4 => ∃ ys, H4 D = some (.lst ys) ∧ ys.length < sizeLine ∧ N (σ.set i (some x)) (upd H4 D (.lst (ys ++ [y])))) else N (σ.set i (some x)) H)
  rw [if_pos rfl]
  exact h
theorem comp_list {K : PySem.W.Frag} {a : Addr} {xs : List V} {g : TG} {tt : TT} {te : TE} {σ : St} {H : Hp} {D : Addr} {Qe : Hp → Prop} (Pv : Nat → St → Hp → Prop) (h0 : Pv 0 σ H) (hl : ∀ i σ H, i ≤ xs.length → Pv i σ H → SqL K H a xs)
    (hs : ∀ i x σ H, xs[i]? = some x → Pv i σ H → cTurn g tt te D (Pv (i + 1)) x σ H) (hd : ∀ σ H, Pv xs.length σ H → Qe H) :
    ∃ W : Nat → Nat → St → Hp → Prop, (∃ m, W 0 m σ H) ∧ ∀ i m σ' H', W i m σ' H' → ((Itl K a).stop i H' ∧ Qe H') ∨ ((Itl K a).go i H' ∧ ∃ N : St → Hp → Prop, (∀ σ2 H2, N σ2 H2 → ∃ m', m' < m ∧ W (i + 1) m' σ2 H2) ∧
      ∀ x H'', (Itl K a).yld i H' x H'' → cTurn g tt te D N x σ' H'') := by
  refine ⟨fun i m σ H => m = xs.length - i ∧ i ≤ xs.length ∧ Pv i σ H, ⟨xs.length, by simp, Nat.zero_le _, h0⟩, ?_⟩
  rintro i m σ H ⟨rfl, hi, p⟩
  have q := hl i σ H hi p
  by_cases hlt : i < xs.length
  · refine .inr ⟨⟨xs, xs[i], q, by simp [hlt]⟩, Pv (i + 1), fun σ' H' p' => ⟨xs.length - (i + 1), by omega, rfl, hlt, p'⟩, fun x H' y => ?_⟩
    obtain ⟨e, y⟩ := y
    subst e
    exact hs i x σ _ (y xs q) p
  · have e : i = xs.length := by omega
    subst e
    exact .inl ⟨⟨xs, q, Nat.le_refl _⟩, hd σ H p⟩
end L2
namespace L2
open PySem PySem.Spec PyProof.Rows
section
variable {X : Cx}
def CDivB (_ j : Int) : Prop := 0 < j ∧ j < 18446744073709551616
theorem op_fdivB : OpR X (binaryOp .FloorDiv) (rI CDivB fun i j => .int (i / j)) := opI fun i j _ _ _ _ _ hc q => by
  have h1 : (0 : Int) < j := hc.1
  have h2 : j < 18446744073709551616 := hc.2
  refine floordiv_int (by omega) (by rw [Int.fdiv_eq_ediv_of_nonneg i (by omega)]; exact q) (.inl (PyProof.noPylong_of_log2 ?_))
  have h3 : j.natAbs.log2 < 64 := (Nat.log2_lt (by omega)).mpr (by omega)
  omega
theorem call_isinst : CallR X (.builtin "isinstance") (fun xs H Q => ∃ (x : V) (t : Value) (T : String) (b : Bool), xs = [x, .ty T] ∧ TyOf X.K H x t ∧ PySem.W.kitOne X.K t (.type T) = some b ∧ Q (.bl b) H) := by
  intro pins s σ H xs us Q I r h
  obtain ⟨x, t, T, b, rfl, ty, e, q⟩ := h
  obtain ⟨u, w', rfl, r1, r2⟩ := vals2 r
  obtain rfl : w' = Value.type T := r2
  exact isinst_ok I r1 ty e fun tk => ⟨.bl b, H, I.tok tk, rfl, q⟩
theorem all_range (bs : List Bool) : (List.range bs.length).all (fun i => bs.getD i false) = bs.all fun b => b := by
  have e : (List.range bs.length).map (fun i => bs.getD i false) = bs := List.ext_getElem (by simp) fun i h1 h2 => by simp [h2]
  conv => rhs; rw [← e, List.all_map]
  rfl
theorem call_all (hc : X.calm = true) : CallR X (.builtin "all") (fun xs H Q => ∃ (p : Addr) (bs : List Bool), xs = [.ref p] ∧ SqL X.K H p (bs.map V.bl) ∧ Q (.bl (bs.all fun b => b)) H) := by
  intro pins s σ H xs us Q I r h
  obtain ⟨p, bs, rfl, hq, q⟩ := h
  obtain ⟨u, rfl, rx⟩ := vals1 r
  cases rx
  obtain ⟨its, rv, pl, hz⟩ := I.list hq
  have hl : its.toArray.size = bs.length := by rw [List.size_toArray, ← rv.length, List.length_map]
  have hp : p < s.heap.objs.size := let ⟨_, z, _⟩ := pl.isList; Heap.lt_size z
  refine call_all_walk (wpAny_pyIter_list pl.isList ?_)
  refine ⟨s.heap.objs.size, [s.heap.objs.size, p], [s.heap.objs.size], its.toArray.size, _, _, fun i => bs.getD i false, rfl, Walks.list (A := X.A.in1) (I.ok.hd hc) _ p (Nat.ne_of_lt hp) its.toArray,
    ⟨⟨_, Heap.get?_push_size _ rfl, rfl, rfl⟩, pl.isList.push _⟩, fun i v s' Q' E' hP hQ => ?_, fun h' tk kp => ?_⟩
  · have hv : its[i]? = some v := by simpa using hP
    have hb : i < bs.length := by
      have := (List.getElem?_eq_some_iff.mp hv).1
      rw [← hl, List.size_toArray]
      exact this
    obtain ⟨u, hu, ru⟩ := rv.get (i := i) (x := V.bl bs[i]) (by rw [List.getElem?_map, List.getElem?_eq_getElem hb]; rfl)
    rw [hv] at hu
    cases hu
    obtain rfl : v = Value.bool bs[i] := ru
    refine wpAny_truthy_bool ?_
    have e : bs.getD i false = bs[i] := by rw [List.getD_eq_getElem?_getD, List.getElem?_eq_getElem hb, Option.getD_some]
    rw [← e]
    exact hQ
  · refine ⟨.bl (bs.all fun b => b), H, I.kept (t' := tk) fun b o e => kp b o ?_ (Heap.get?_push_of_some _ e), ?_, q⟩
    · intro z
      have z' : b = s.heap.objs.size := by simpa using z
      exact absurd (Heap.lt_size e) (by rw [z']; exact Nat.lt_irrefl _)
    · show Value.bool _ = Value.bool _
      rw [hl, all_range]
end
structure Cal (K : PySem.W.Frag) (mg : Str → Option Value) (x : Str) (f : Addr) (fd : FuncData) (ps : List Str) : Prop where
  mg : mg x = some (.ref f)
  kp : PySem.W.keepIn K (.ref f) = true
  bd : Binds K fd ps []
theorem pcall {X : Cx} {k : Nat} {f : Addr} {fd : FuncData} {ps : List Str} {sp : Sp} {x : Str} {e : Expr} {es : List Expr} {t : TA} {p pos : Pos} (F : FnOk X.prog X.w X.K X.mg X.base CX0 k f fd ps sp) (c : Cal X.K X.mg x f fd ps) (hr : Room k X.A) (ha : PA X (e :: es) t)
    (hg : Gl X x := by rfl) (hdb : (x == ("__debug__" : Str)) = false := by decide) (he : starEach (e :: es) X.env = (false, eval e X.env) :: starEach es X.env := by rfl) (hpl : (backTo pos (starEach es X.env)).any (·.1) = false := by rfl) :
    PE X (.Call (.Name x p) (e :: es) [] pos) (tCall sp [] E0 t) := pe_call F hr hg c.mg c.kp c.bd .nil pass0 ha hdb he hpl
theorem pe_type {X : Cx} {x : Str} {T : String} {pos : Pos} (hm : X.mg x = none) (hv : bootBuiltins x = some (.type T)) (hg : Gl X x := by rfl) (hn : x ≠ "__name__" := by decide) (hdb : (x == ("__debug__" : Str)) = false := by decide) : PE X (.Name x pos) (tC (.ty T)) :=
  pe_bltn hg hm hv rfl hn hdb
def tTru (K : PySem.W.Frag) (t : TE) : TT := fun σ H Q => t σ H fun x H' => ∃ k, TruV K x H' k ∧ Q k H'
theorem pt_callK {X : Cx} (K : PySem.W.Frag) {f : Expr} {es : List Expr} {kws : List Keyword} {pos : Pos} {t : TE} (hK : X.K = K) (h : PE X (.Call f es kws pos) t) : PT X (.Call f es kws pos) (tTru K t) := by
  subst hK
  exact pt_truth h fun _ => rfl
end L2
namespace L2
open PySem PySem.Spec PyProof.Rows
section
variable {X : Cx}
def SlR3 (X : Cx) (r : V → Option Int → Option Int → Option Int → Hp → VK → Prop) : Prop :=
  ∀ (pins : List (Addr × Obj)) (s : Shared) (σ : St) (H : Hp) (x : V) (v vl vu vt : Value) (lo hi st : Option Int) (sl : Addr) (Q : VK), Inv X pins σ H s → RelV x v → s.heap.IsSliceOf sl vl vu vt → IsPart vl lo → IsPart vu hi → IsPart vt st → r x lo hi st H Q →
    ∃ T id, typeLookup (.type T) "__getitem__" = pure (some (.builtin id)) ∧ s.TypeIs v T ∧ wpAny (model X.prog X.w) X.A (getItem v (.ref sl)) (EP X pins σ Q) X.xe s
def tSl3 (r : V → Option Int → Option Int → Option Int → Hp → VK → Prop) (te : TE) (tl th tk : TO) : TE := fun σ H Q => te σ H fun x H1 => tl σ H1 fun l H2 => th σ H2 fun u H3 => tk σ H3 fun k H4 => r x l u k H4 Q
theorem pe_slice3 {e est : Expr} {lo hi : Option Expr} {te : TE} {tl th tk : TO} {pos p2 : Pos} {r : V → Option Int → Option Int → Option Int → Hp → VK → Prop} (hr : SlR3 X r) (he : PE X e te) (hl : PO X lo tl) (hu : PO X hi th) (hk : PO X (some est) tk) :
    PE X (.Subscript e (.Slice lo hi (some est) p2) pos) (tSl3 r te tl th tk) := by
  intro pins s σ H Q I h
  refine Subscript_ (thn (he pins s σ H _ I h) fun v s1 ⟨x, H1, I1, r1, q1⟩ => ?_)
  refine wpAny_Slice (thn (hl pins s1 σ H1 _ I1 q1) fun vl s2 ⟨l, H2, I2, pl, q2⟩ => thn (hu pins s2 σ H2 _ I2 q2) fun vu s3 ⟨u, H3, I3, pu, q3⟩ => thn (hk pins s3 σ H3 _ I3 q3) fun vt s4 ⟨k, H4, I4, pt, q4⟩ => ?_)
  have I5 : Inv X pins σ H4 { s4 with heap := s4.heap.push { cls := .type "slice", data := .fields #[vl, vu, vt] } } := I4.kept (t' := s4.toks) fun b ob q => Heap.get?_push_of_some _ q
  obtain ⟨T, id, hT, ht, hg⟩ := hr pins { s4 with heap := s4.heap.push { cls := .type "slice", data := .fields #[vl, vu, vt] } } σ H4 x v vl vu vt l u k s4.heap.objs.size Q I5 r1 (Heap.IsSliceOf.new ..) pl pu pt q4
  show wpAny (model X.prog X.w) X.A (subscriptTail e (.Slice lo hi (some est) p2) v (.ref s4.heap.objs.size)) (EP X pins σ Q) X.xe { s4 with heap := s4.heap.push { cls := .type "slice", data := .fields #[vl, vu, vt] } }
  exact tail_any (ops := [v, .ref s4.heap.objs.size]) ht hT hg (by with_unfolding_all rfl)
theorem sl3_rev : SlR3 X (fun x lo hi st H Q => lo = none ∧ hi = none ∧ st = some (-1) ∧ ∃ a xs, x = .ref a ∧ SqL X.K H a xs ∧ ∀ p, H p = none → Q (.ref p) (upd H p (.lst xs.reverse))) := by
  intro pins s σ H x v vl vu vt lo hi st sl Q I rx hs pl pu pt h
  obtain ⟨rfl, rfl, rfl, a, xs, rfl, hx, q⟩ := h
  cases rx
  obtain ⟨its, r, ht, hz⟩ := I.list hx
  have hlen := r.length
  refine ⟨"list", _, slot_list_getitem.lookup, ht.isList.typeIs, ?_⟩
  refine wpAny_getItem_list_slice ht.isList hs pl pu pt (by decide) ?_ (by rw [List.size_toArray] <;> omega)
  rw [GX.pick_rev]
  refine ⟨.ref s.heap.objs.size, _, I.laid (t' := s.toks) (o := .lst xs.reverse) (fun b ob q => Heap.get?_push_of_some _ q) (Nat.le_refl _) ?_, rfl, q _ (I.hok.fresh (Nat.le_refl _))⟩
  exact ⟨by rw [List.length_reverse]; exact hz, its.reverse, 0, r.reverse, Heap.get?_push_size _ rfl⟩
end
end L2
set_option Elab.async false
set_option linter.all false
set_option maxRecDepth 100000
namespace GX
open PySem
theorem keys_list : typeLookup (.type "list") (Str.ofString "keys") = pure none := am_miss_of_fast (by kernel_rfl)
section
variable {prog : Program} {w : World} {A : Around} {E : Value → Shared → Prop} {s : Shared} {l : Addr} {items : Array Value} {n : Nat} {Q : Option Value → Shared → Prop}
theorem run_slot {T id : String} {nm : Str} {B : Builtin} {x : Value} {R : Result → Shared → Prop} {S : PySem.Spec} (slot : Slot T nm id) (en : entryFor table id = some B) (hT : s.TypeIs (.ref l) T) (ar : argsOk id ⟨[.ref l, x], []⟩) (m : Meets (B ⟨[.ref l, x], []⟩) S) (h : S A R s) :
    codeAny (model prog w) A (.call (.builtin id) ⟨[.ref l, x], []⟩) R s := codeAny_call_builtin slot.plain en (slot.check _ _ _ _ _ _ _ _ hT ar (m prog w A R s h))
theorem no_attr {T id : String} {nm : Str} {o : Obj} (slot : Slot T "__getattribute__" id) (ga : typeLookup (.type T) "__getattr__" = pure none) (en : entryFor table id = some Builtin.«object.__getattribute__») (ar : ∀ a b, argsOk id ⟨[a, b], []⟩)
    (hl : s.heap.get? l = some o) (hc : o.cls = .type T) (m : ∀ u, Meets (Builtin.«object.__getattribute__» ⟨[.ref l, .str nm u], []⟩) (fun A R s => s.heap.get? l = some o ∧ raisesAttr (.ref l) nm A R s))
    (hA : A.handled = none) (h : ∀ h' tk, Grown s.heap h' → Q none { s with heap := h', toks := tk }) : wpAny (model prog w) A (getAttr? (.ref l) nm) Q E s := by
  obtain ⟨c, dd, dt, sl⟩ := o
  cases hc
  obtain ⟨hp, g, d, tk, os⟩ := s
  have hT : ∀ tk, Shared.TypeIs ⟨hp, g, d, tk, os⟩ (.ref l) T := fun _ => ⟨_, hl, rfl⟩
  have := slot.lookup
  have := slot.bind (.ref l)
  have := sub_AttributeError
  unfold getAttr? getAttrBy? getAttrBy
  repeat' first | assumption | exact hT _ | wp_step
  refine run_slot slot en (hT _) (ar _ _) (m _) ⟨hl, hA, fun h' tk' e x => ?_⟩
  obtain ⟨t', u', _⟩ := x.there
  have q := h h' tk' x.keeps
  unfold getattributeRaised
  repeat' first | assumption | wp_step
theorem no_keys (hA : A.handled = none) (hl : s.heap.get? l = some (lstO items n)) (h : ∀ h' tk, Grown s.heap h' → Q none { s with heap := h', toks := tk }) : wpAny (model prog w) A (getAttr? (.ref l) (Str.ofString "keys")) Q E s :=
  no_attr F.slot_list_getattribute am_list_getattr_none am_entry_list_getattribute F.args_list_getattribute_2 hl rfl (fun u => meets_getattribute_miss_list l items n _ _ u keys_list (by decide)) hA h
end
end GX
set_option Elab.async false
set_option linter.all false
set_option maxRecDepth 100000
namespace GX
open PySem
theorem entry_upd_loop : entryFor table "dict.update.loop" = some Builtin.«dict.update.loop» := entryFor_of_tree (by kernel_rfl)
theorem plain_upd_loop : plainId "dict.update.loop" = true := by decide +kernel
section
variable {prog : Program} {w : World} {A : Around} {R : Result → Shared → Prop} {I d : Addr} {fp wr : List Addr} {n : Nat} {P : Nat → Value → Prop} {St : Nat → Heap → Prop} {K : Type} [DecidableEq K] {knd : KeyKind prog w K}
theorem merged_len (kx : List (K × Value)) : (merged [] kx).length ≤ kx.length := by
  have := merged_length_le [] kx
  simpa using this
theorem turn_upd (I d : Addr) (i : Int) (t : Tok) : MeetsIn prog w (Builtin.«dict.update.loop» ⟨[.ref d, .ref I, .int i t, .none], []⟩) fun A R s => wpAny (model prog w) A.in1 (pyNext (.ref I)) (fun r s => match r with
    | none => R (.ok (.ret .none)) s
    | some v => ∃ a o k x c, v = .ref a ∧ s.heap.get? a = some o ∧ o.cls = .type "tuple" ∧ o.data = .seq #[k, x] c ∧
      wpAny (model prog w) A.in1 (dictSet d k x) (fun _ s => codeAny (model prog w) A (.builtin "dict.update.loop" ⟨[.ref d, .ref I, .int (i + 1) 0, .none], []⟩) R s) (fun _ _ => False) s) (fun _ _ => False) s := by
  intro A R s nx
  show wpAny _ _ (pyNext (.ref I) >>= _) _ _ s
  apply wpAny_bind
  refine wpAny_mono nx (fun r s1 h => ?_) fun _ _ z => z.elim
  rcases r with _ | v
  · wp_walk
    exact h
  · obtain ⟨a, o, k, x, c, rfl, ha, hc, hd, q⟩ := h
    have ty : s1.TypeIs (.ref a) "tuple" := ⟨o, ha, hc⟩
    apply wpAny_bind
    apply wpAny_holding
    apply wpAny_bind
    apply wpAny_tryCatch
    wp_walk using wpAny_seqItems ha hd, wpAny_mono q
    · exact fun _ _ e => wpAny_pure ⟨plainId_quiet plain_upd_loop _, e⟩
    · exact fun _ _ z => z.elim
theorem upd_go {D : Nat → Heap → Prop} (W : Walks prog w A.in1 I fp wr n P St) (nd : d ∉ fp) (calm : ∀ i h h', D i h → (∀ b o, b ∉ wr → h.get? b = some o → h'.get? b = some o) → D i h')
    (turn : ∀ i v s, P i v → D i s.heap → ∃ a o k x c, v = .ref a ∧ s.heap.get? a = some o ∧ o.cls = .type "tuple" ∧ o.data = .seq #[k, x] c ∧
      ∀ Q : Unit → Shared → Prop, (∀ h, D (i + 1) h → (∀ b, b ≠ d → h.get? b = s.heap.get? b) → ∀ tk, Q () { s with heap := h, toks := tk }) → wpAny (model prog w) A.in1 (dictSet d k x) Q (fun _ _ => False) s) :
    ∀ (k i : Nat) (s : Shared) (t : Tok), n = i + k → St i s.heap → D i s.heap → (∀ h tk, D n h → R (.ok (.ret .none)) { s with heap := h, toks := tk }) →
      codeAny (model prog w) A (.builtin "dict.update.loop" ⟨[.ref d, .ref I, .int i t, .none], []⟩) R s := by
  intro k
  induction k with
  | zero =>
    intro i s t e st di fin
    obtain rfl : n = i := e
    exact enter entry_upd_loop plain_upd_loop (turn_upd I d _ t) (W.done s _ _ st fun h tk q => fin h tk (calm _ _ _ di q))
  | succ k ih =>
    intro i s t e st di fin
    refine enter entry_upd_loop plain_upd_loop (turn_upd I d _ t) (W.item i s _ _ (by omega) st fun v h tk pv st1 q => ?_)
    obtain ⟨a, o, y, x, c, e1, e2, e3, e4, set⟩ := turn i v { s with heap := h, toks := tk } pv (calm _ _ _ di q)
    refine ⟨a, o, y, x, c, e1, e2, e3, e4, set _ fun h2 d2 sb tk => ?_⟩
    exact ih (i + 1) { s with heap := h2, toks := tk } 0 (by omega) (W.frame _ _ _ st1 fun b hb o e => (sb b fun z => nd (z ▸ hb)).trans e) d2 fin
theorem upd_loop (W : Walks prog w A.in1 I fp wr n P St) (nd : d ∉ fp) (h₀ : Heap) (kx : List (K × Value)) (hn : kx.length = n) (hz : n ≤ sizeLine)
    (hP : ∀ i v, P i v → ∃ a key k x o c, v = .ref a ∧ kx[i]? = some (k, x) ∧ knd.is k key = true ∧ h₀.get? a = some o ∧ o.cls = .type "tuple" ∧ o.data = .seq #[key, x] c ∧ a ≠ d ∧ a ∉ wr) :
    ∀ (k i : Nat) (s : Shared) (t : Tok), n = i + k → St i s.heap → (∀ b o, b ∉ wr → b ≠ d → h₀.get? b = some o → s.heap.get? b = some o) → s.heap.DictOf knd d (merged [] (kx.take i)) →
    (∀ h' tk, (∀ b o, b ∉ wr → b ≠ d → h₀.get? b = some o → h'.get? b = some o) → h'.DictOf knd d (merged [] kx) → R (.ok (.ret .none)) { s with heap := h', toks := tk }) →
    codeAny (model prog w) A (.builtin "dict.update.loop" ⟨[.ref d, .ref I, .int i t, .none], []⟩) R s := by
  have nw : d ∉ wr := fun z => nd (W.sub _ z)
  intro k i s t en st kp dd fin
  refine upd_go (D := fun i h => (∀ b o, b ∉ wr → b ≠ d → h₀.get? b = some o → h.get? b = some o) ∧ h.DictOf knd d (merged [] (kx.take i))) W nd ?_ ?_ k i s t en st ⟨kp, dd⟩ fun h tk q => fin h tk q.1 ?_
  · rintro i h h' ⟨kp, od, es, ep, ho, r⟩ q
    exact ⟨fun b o nb nb' e => q b o nb (kp b o nb nb' e), od, es, ep, q d od nw ho, r⟩
  · rintro i v s pv ⟨kp, dd⟩
    obtain ⟨a, key, k, x, o, c, rfl, hx, hk, ha, hc, hd, na, naw⟩ := hP i v pv
    refine ⟨a, o, key, x, c, rfl, kp a o naw na ha, hc, hd, fun Q q => wpAny_dictSet_pairs hk dd (fun h2 d2 sb => q h2 ⟨fun b o nb nb' e => (sb.2 b nb').trans (kp b o nb nb' e), ?_⟩ sb.2 _) (Nat.le_trans (merged_len _) (by rw [List.length_take]; omega))⟩
    rw [merged_take_succ [] kx i (k, x) hx]
    exact d2
  · have z := q.2
    rwa [← hn, List.take_length] at z
end
section
variable {prog : Program} {w : World} {A : Around} {E : Value → Shared → Prop} {s : Shared} {K : Type} [DecidableEq K] {knd : KeyKind prog w K}
abbrev newD (h : Heap) : Heap := h.push { cls := .type "dict", data := .dict #[] }
theorem dict_opens {T : String} {l : Addr} {Q : Value → Shared → Prop} (ty : Shared.TypeIs { s with heap := newD s.heap } (.ref l) T) (nT : (Value.type T != .type "dict") = true)
    (h : wpAny (model prog w) A.in1.in1 (getAttr? (.ref l) (Str.ofString "keys")) (fun r s1 => r = none ∧ wpAny (model prog w) A.in1.in1 (pyIter (.ref l))
      (fun it s2 => codeAny (model prog w) A.in1 (.builtin "dict.update.loop" ⟨[.ref s.heap.objs.size, it, .int 0 0, .none], []⟩) (wants (fun r s3 => r = .none ∧ Q (.ref s.heap.objs.size) s3) E) s2) E s1) E { s with heap := newD s.heap }) :
    wpAny (model prog w) A (call (.type "dict") [.ref l]) Q E s := by
  apply callType_codes F.kt_called_dict (F.kt_typeCall_dict_1 _) F.entry_dict_init (kt_code_dict_new (Q₁ := fun v s1 => v = .ref s.heap.objs.size ∧ s1 = { s with heap := newD s.heap }) _ ⟨rfl, rfl⟩)
  rintro _ _ ⟨rfl, rfl⟩
  have td : Shared.TypeIs { s with heap := newD s.heap } (.ref s.heap.objs.size) "dict" := ⟨_, Heap.get?_push_size _ rfl, rfl⟩
  refine ⟨td, F.args_dict_init_2 _ _, ?_⟩
  show wpAny _ _ (Builtin.Dict.selfAndRest _ _ >>= _) _ _ _
  wp_walk using wpAny_notOrdered_dict td, wpAny_ite_true nT, wpAny_mono h
  · rintro _ s1 ⟨rfl, q⟩
    wp_walk using wpAny_mono q
    · exact fun _ _ e => wpAny_pure ⟨plainId_quiet plain_upd_loop _, e⟩
    · exact fun _ _ e => e
  · exact fun _ _ e => e
theorem dict_of_list {l : Addr} {vs : List Value} {n : Nat} {kx : List (K × Value)} {Q : Value → Shared → Prop} (hA : A.handled = none)
    (hl : s.heap.get? l = some { cls := .type "list", dict := none, data := .seq vs.toArray n, slots := #[] }) (hz : vs.length ≤ sizeLine) (hlen : kx.length = vs.length)
    (hP : ∀ (i : Nat) v, vs[i]? = some v → ∃ a key k x o c, v = .ref a ∧ kx[i]? = some (k, x) ∧ knd.is k key = true ∧ s.heap.get? a = some o ∧ o.cls = .type "tuple" ∧ o.data = .seq #[key, x] c)
    (h : ∀ h' tk, (∀ b o, s.heap.get? b = some o → h'.get? b = some o) → h'.DictOf knd s.heap.objs.size (merged [] kx) → Q (.ref s.heap.objs.size) { s with heap := h', toks := tk }) :
    wpAny (model prog w) A (call (.type "dict") [.ref l]) Q E s := by
  have hl' : (newD s.heap).get? l = some { cls := .type "list", dict := none, data := .seq vs.toArray n, slots := #[] } := Heap.get?_push_of_some _ hl
  refine dict_opens (T := "list") ⟨_, hl', rfl⟩ (by decide) (no_keys hA hl' fun h1 tk1 k1 => ⟨rfl, ?_⟩)
  have hl1 := k1 l _ hl'
  have lt1 : l < h1.objs.size := Heap.lt_size hl1
  have ld : l < s.heap.objs.size := Heap.lt_size hl
  have il : h1.IsList l vs.toArray := ⟨_, hl1, rfl, n, rfl⟩
  have d1 : h1.DictOf knd s.heap.objs.size [] := by
    obtain ⟨od, es, ep, ho, r⟩ := Heap.DictOf.new (knd := knd) s.heap
    exact ⟨od, es, ep, k1 _ _ ho, r⟩
  have dlt : s.heap.objs.size < h1.objs.size := by
    obtain ⟨od, es, ep, ho, r⟩ := d1
    exact Heap.lt_size ho
  have hI : ∀ {b : Addr}, b < h1.objs.size → b ≠ h1.objs.size := fun z => Nat.ne_of_lt z
  refine wpAny_pyIter_list (s := { s with heap := h1, toks := tk1 }) il ?_
  have W := Walks.list (prog := prog) (w := w) (A := A.in1.in1) hA h1.objs.size l (hI lt1) vs.toArray
  refine upd_loop (A := A.in1) (knd := knd) W (d := s.heap.objs.size) ?_ s.heap kx (by rw [hlen, List.size_toArray]) (by rw [List.size_toArray]; exact hz) (fun i v hv => ?_) vs.toArray.size 0 _ 0 (by omega)
    ⟨⟨_, Heap.get?_push_size _ rfl, rfl, rfl⟩, il.push _⟩ (fun b o _ nb e => Heap.get?_push_of_some _ (k1 b o (Heap.get?_push_of_some _ e))) ?_ fun h2 tk2 k2 d2 => ?_
  · intro z
    have z' : s.heap.objs.size = h1.objs.size ∨ s.heap.objs.size = l := by simpa using z
    rcases z' with z' | z'
    · exact absurd dlt (by rw [z']; exact Nat.lt_irrefl _)
    · exact absurd ld (by rw [z']; exact Nat.lt_irrefl _)
  · obtain ⟨a, key, k, x, o, c, e1, e2, e3, e4, e5, e6⟩ := hP i v (by simpa using hv)
    refine ⟨a, key, k, x, o, c, e1, e2, e3, e4, e5, e6, Nat.ne_of_lt (Heap.lt_size e4), fun z => ?_⟩
    have z' : a = h1.objs.size := by simpa using z
    exact absurd (Nat.lt_trans (Heap.lt_size e4) dlt) (by rw [z']; exact Nat.lt_irrefl _)
  · exact d1.push _
  · exact ⟨rfl, h h2 tk2 (fun b o e => k2 b o (fun z => by
      have z' : b = h1.objs.size := by simpa using z
      exact absurd (Nat.lt_trans (Heap.lt_size e) dlt) (by rw [z']; exact Nat.lt_irrefl _)) (Nat.ne_of_lt (Heap.lt_size e)) e) d2⟩
end
end GX
namespace GX
open PySem PyProof.Rows
section
variable {prog : Program} {w : World} {A : Around} {E : Value → Shared → Prop} {s : Shared}
theorem sorted_in {x : Value} {kw : List (Str × Value)} {Q : Value → Shared → Prop} (ok : argsOk "sorted" ⟨[x], kw⟩)
    (h : wpAny (model prog w) A.in1 (collect x) (fun vs s1 => wpAny (model prog w) A.in1 (newList vs >>= fun l => holding [l] (call (.builtin "list.sort") [l] kw) >>= fun _ => ret l) (fun f s2 => ∃ v, f = .done (.ret v) ∧ Q v s2) E s1) E s) :
    wpAny (model prog w) A (call (.builtin "sorted") [x] kw) Q E s :=
  call_function_entry_kw kind_sorted plain_sorted entry_sorted ok (wpAny_bind (m := checkCount _ _ _ _) (wpAny_pure (wpAny_bind (wpAny_mono h (fun _ _ q => q) fun _ _ e => e))))
end
end GX
namespace L2
open PySem PySem.Spec PyProof.Rows
def dI (m : List (Int × Int)) : List (Key × V) := m.map fun p => (Sum.inl p.1, V.int p.2)
theorem dI_len (m : List (Int × Int)) : (dI m).length = m.length := List.length_map ..
def lkI : List (Int × Int) → Int → Option Int
  | [], _ => none
  | p :: m, k => if p.1 = k then some p.2 else lkI m k
theorem dI_val : ∀ (m : List (Int × Int)) (k : Int), valV (dI m) (Sum.inl k : Key) = (lkI m k).map V.int
  | [], _ => rfl
  | p :: m, k => by
    show valV ((Sum.inl p.1, V.int p.2) :: dI m) (Sum.inl k) = _
    unfold lkI
    by_cases e : p.1 = k
    · rw [if_pos e, valV_pos (by rw [e])]
      rfl
    · rw [if_neg e, valV_neg (fun z => e (Sum.inl.inj z)), dI_val m k]
def putI : List (Int × Int) → Int → Int → List (Int × Int)
  | [], k, v => [(k, v)]
  | p :: m, k, v => if p.1 = k then (p.1, v) :: m else p :: putI m k v
theorem lk_put : ∀ (m : List (Int × Int)) (k v j : Int), lkI (putI m k v) j = if j = k then some v else lkI m j
  | [], k, v, j => by
    show (if k = j then some v else none) = _
    by_cases e : j = k
    · rw [if_pos e, if_pos e.symm]
    · rw [if_neg e, if_neg (fun z => e z.symm)]
      rfl
  | p :: m, k, v, j => by
    show lkI (if p.1 = k then (p.1, v) :: m else p :: putI m k v) j = if j = k then some v else (if p.1 = j then some p.2 else lkI m j)
    by_cases e : p.1 = k
    · rw [if_pos e]
      show (if p.1 = j then some v else lkI m j) = _
      by_cases e2 : j = k
      · rw [if_pos e2, if_pos (e.trans e2.symm)]
      · rw [if_neg e2, if_neg (fun z => e2 (z.symm.trans e)), if_neg (fun z => e2 (z.symm.trans e))]
    · rw [if_neg e]
      show (if p.1 = j then some p.2 else lkI (putI m k v) j) = _
      rw [lk_put m k v j]
      by_cases e2 : j = k
      · rw [if_pos e2, if_neg (fun z => e (z.trans e2)), if_pos e2]
      · rw [if_neg e2, if_neg e2]
theorem put_keys : ∀ (m : List (Int × Int)) (k v x : Int), x ∈ (putI m k v).map (·.1) ↔ x = k ∨ x ∈ m.map (·.1)
  | [], k, v, x => by simp [putI]
  | p :: m, k, v, x => by
    show x ∈ (if p.1 = k then (p.1, v) :: m else p :: putI m k v).map (·.1) ↔ _
    by_cases e : p.1 = k
    · rw [if_pos e]
      simp only [List.map_cons, List.mem_cons]
      constructor
      · exact fun h => .inr h
      · rintro (h | h)
        · exact .inl (h.trans e.symm)
        · exact h
    · rw [if_neg e]
      simp only [List.map_cons, List.mem_cons]
      have := put_keys m k v x
      constructor
      · rintro (h | h)
        · exact .inr (.inl h)
        · rcases this.mp h with h | h
          · exact .inl h
          · exact .inr (.inr h)
      · rintro (h | h | h)
        · exact .inr (this.mpr (.inl h))
        · exact .inl h
        · exact .inr (this.mpr (.inr h))
theorem put_nd : ∀ (m : List (Int × Int)) (k v : Int), (m.map (·.1)).Nodup → ((putI m k v).map (·.1)).Nodup
  | [], k, v, _ => by simp [putI]
  | p :: m, k, v, h => by
    show ((if p.1 = k then (p.1, v) :: m else p :: putI m k v).map (·.1)).Nodup
    rw [List.map_cons, List.nodup_cons] at h
    by_cases e : p.1 = k
    · rw [if_pos e, List.map_cons, List.nodup_cons]
      exact h
    · rw [if_neg e, List.map_cons, List.nodup_cons]
      refine ⟨fun z => ?_, put_nd m k v h.2⟩
      rcases (put_keys m k v p.1).mp z with z | z
      · exact e z
      · exact h.1 z
theorem put_vals : ∀ (m : List (Int × Int)) (k v : Int) (p : Int × Int), p ∈ putI m k v → p = (k, v) ∨ p ∈ m
  | [], k, v, p, h => .inl (by simpa [putI] using h)
  | q :: m, k, v, p, h => by
    have h' : p ∈ (if q.1 = k then (q.1, v) :: m else q :: putI m k v) := h
    by_cases e : q.1 = k
    · rw [if_pos e] at h'
      rcases List.mem_cons.mp h' with z | z
      · exact .inl (by rw [z, e])
      · exact .inr (List.mem_cons_of_mem _ z)
    · rw [if_neg e] at h'
      rcases List.mem_cons.mp h' with z | z
      · exact .inr (by rw [z]; exact List.mem_cons_self)
      · rcases put_vals m k v p z with z | z
        · exact .inl z
        · exact .inr (List.mem_cons_of_mem _ z)
theorem dI_any (k : Int) : ∀ m : List (Int × Int), ((dI m).any fun kv => decide (kv.1 = (Sum.inl k : Key))) = m.any fun p => decide (p.1 = k)
  | [] => rfl
  | p :: m => by
    show (decide ((Sum.inl p.1 : Key) = Sum.inl k) || (dI m).any _) = (decide (p.1 = k) || m.any _)
    rw [dI_any k m]
    congr 1
    rw [decide_eq_decide]
    exact ⟨fun h => Sum.inl.inj h, fun h => congrArg _ h⟩
theorem put_new : ∀ (m : List (Int × Int)) (k v : Int), (m.any fun p => decide (p.1 = k)) = false → putI m k v = m ++ [(k, v)]
  | [], _, _, _ => rfl
  | p :: m, k, v, h => by
    rw [List.any_cons, Bool.or_eq_false_iff] at h
    show (if p.1 = k then (p.1, v) :: m else p :: putI m k v) = _
    rw [if_neg (of_decide_eq_false h.1), put_new m k v h.2]
    rfl
theorem put_old : ∀ (m : List (Int × Int)) (k v : Int), (m.map (·.1)).Nodup → (m.any fun p => decide (p.1 = k)) = true → putI m k v = m.map fun p => if p.1 = k then (p.1, v) else p
  | [], _, _, _, h => by cases h
  | p :: m, k, v, nd, h => by
    rw [List.map_cons, List.nodup_cons] at nd
    show (if p.1 = k then (p.1, v) :: m else p :: putI m k v) = (if p.1 = k then (p.1, v) else p) :: m.map _
    by_cases e : p.1 = k
    · rw [if_pos e, if_pos e]
      congr 1
      have : m.map (fun p => if p.1 = k then (p.1, v) else p) = m.map id := List.map_congr_left fun q hq => by
        rw [if_neg (fun z => nd.1 (by rw [e, ← z]; exact List.mem_map_of_mem hq))]
        rfl
      rw [this, List.map_id]
    · rw [if_neg e, if_neg e, put_old m k v nd.2 (by
        rw [List.any_cons, decide_eq_false e, Bool.false_or] at h
        exact h)]
theorem dI_put (m : List (Int × Int)) (k v : Int) (nd : (m.map (·.1)).Nodup) : putK (dI m) (Sum.inl k : Key) (V.int v) = dI (putI m k v) := by
  unfold putK
  rw [dI_any]
  cases e : m.any fun p => decide (p.1 = k) with
  | false =>
    rw [put_new m k v e]
    unfold dI
    rw [List.map_append]
    rfl
  | true =>
    rw [put_old m k v nd e]
    unfold dI
    rw [List.map_map, if_pos rfl, List.map_map]
    apply List.map_congr_left
    intro p _
    show (if (Sum.inl p.1 : Key) = Sum.inl k then ((Sum.inl p.1 : Key), V.int v) else (Sum.inl p.1, V.int p.2)) = ((Sum.inl (if p.1 = k then (p.1, v) else p).1 : Key), V.int (if p.1 = k then (p.1, v) else p).2)
    by_cases z : p.1 = k
    · rw [if_pos (congrArg _ z), if_pos z]
    · rw [if_neg (fun q => z (Sum.inl.inj q)), if_neg z]
theorem lk_mem : ∀ {m : List (Int × Int)} {k v : Int}, lkI m k = some v → (k, v) ∈ m
  | [], _, _, h => by cases h
  | p :: m, k, v, h => by
    have h' : (if p.1 = k then some p.2 else lkI m k) = some v := h
    by_cases e : p.1 = k
    · rw [if_pos e] at h'
      have : p = (k, v) := by rw [← e, ← Option.some.inj h']
      rw [this]
      exact List.mem_cons_self
    · rw [if_neg e] at h'
      exact List.mem_cons_of_mem _ (lk_mem h')
theorem lk_of : ∀ {m : List (Int × Int)} {k v : Int}, (m.map (·.1)).Nodup → (k, v) ∈ m → lkI m k = some v
  | [], _, _, _, h => by cases h
  | p :: m, k, v, nd, h => by
    rw [List.map_cons, List.nodup_cons] at nd
    show (if p.1 = k then some p.2 else lkI m k) = some v
    rcases List.mem_cons.mp h with z | z
    · rw [← z, if_pos rfl]
    · rw [if_neg (fun e => nd.1 (by rw [e]; exact List.mem_map_of_mem (f := (·.1)) z)), lk_of nd.2 z]
theorem lk_none {m : List (Int × Int)} {k : Int} (h : k ∉ m.map (·.1)) : lkI m k = none := by
  cases e : lkI m k with
  | none => rfl
  | some v => exact absurd (List.mem_map_of_mem (f := (·.1)) (lk_mem e)) h
def ct (m : List (Int × Int)) (k : Int) : Int := (lkI m k).getD 0
section
variable {X : Cx}
theorem keys_ints {P : Program} {w : World} : ∀ {m : List (Int × Int)} {vs : List (Key × Value)} {us : List Value}, KV (dI m) vs → us.length = vs.length → (∀ (j : Nat) v, us[j]? = some v → ∃ k x, vs[j]? = some (k, x) ∧ (mixKind P w).is k v = true) → IntsAre us (m.map (·.1))
  | [], _, us, r, hl, h => by
    have r' : KV [] _ := r
    cases r'
    cases us with
    | nil => exact .nil
    | cons _ _ => cases hl
  | p :: m, vs, us, r, hl, h => by
    have r' : KV ((Sum.inl p.1, V.int p.2) :: dI m) vs := r
    cases r' with
    | cons r1 r2 =>
      rename_i q qs
      cases us with
      | nil => cases hl
      | cons u us =>
        obtain ⟨k, x, e1, e2⟩ := h 0 u rfl
        have e1' : q = (k, x) := Option.some.inj e1
        subst e1'
        have ek : (Sum.inl p.1 : Key) = k := r1.1
        subst ek
        rcases keyIs_shape (show keyIs (Sum.inl p.1) u = true from e2) with ⟨i, t, z1, z2⟩ | ⟨_, _, z, _⟩
        · have z1' : p.1 = i := Sum.inl.inj z1
          rw [z2, ← z1']
          exact .cons _ t (keys_ints (P := P) (w := w) r2 (Nat.succ.inj hl) fun j v e => h (j + 1) v e)
        · cases z
theorem sort_tail {A : Around} {E : Value → Shared → Prop} {prog : Program} {w : World} {s : Shared} {vs : List Value} {ns : List Int} {Q : Value → Shared → Prop} (hi : IntsAre vs ns) (h64 : vs.length < 64) (hz : vs.length ≤ sizeLine)
    (h : ∀ h' out ns' e, (∀ b o, s.heap.get? b = some o → h'.get? b = some o) → h'.get? s.heap.objs.size = some (seqObj "list" out e) → IntsAre out.toList ns' → ns'.Perm ns → ns'.Pairwise (· ≤ ·) → Q (.ref s.heap.objs.size) { s with heap := h' }) :
    wpAny (model prog w) A (do let l ← newList vs; let _ ← holding [l] (call (.builtin "list.sort") [l] []); ret l) (fun fin s' => ∃ v, fin = .done (.ret v) ∧ Q v s') E s := by
  refine wpAny_bind (wpAny_newList ?_ hz)
  have ho : (s.heap.push (seqObj "list" vs.toArray 0)).get? s.heap.objs.size = some (seqObj "list" vs.toArray 0) := Heap.get?_push_size _ rfl
  refine wpAny_bind (wpAny_holding (wpAny_call_entry slot_list_sort ⟨_, ho, rfl⟩ entry_list_sort (list_sort_tree ho hi h64 fun out ns' a1 a2 a3 => ⟨_, rfl, ?_⟩) (args_list_sort _)))
  obtain ⟨e, he⟩ := sortedHeap_at (out := out) ho
  refine wpAny_pure ⟨_, rfl, h _ out ns' e (fun b o q => ?_) he a1 a2 a3⟩
  have l := Heap.lt_size q
  rw [sortedHeap_old (Nat.ne_of_lt l) (by rw [size_push']; exact Nat.lt_succ_of_lt l)]
  exact Heap.get?_push_of_some _ q
theorem Inv.lay_ints {pins : List (Addr × Obj)} {σ : St} {H : Hp} {s : Shared} {h' : Heap} {out : Array Value} {ns : List Int} {e tk : Nat} (I : Inv X pins σ H s) (k : ∀ b o, s.heap.get? b = some o → h'.get? b = some o) (he : h'.get? s.heap.objs.size = some (seqObj "list" out e)) (hi : IntsAre out.toList ns) (hz : ns.length ≤ sizeLine) :
    Inv X pins σ (upd H s.heap.objs.size (.lst (ns.map V.int))) { s with heap := h', toks := tk } :=
  I.laid k (Nat.le_refl _) ⟨by rw [List.length_map]; exact hz, out.toList, e, vals_ints hi, he⟩
theorem call_dictD : CallR X (.type "dict") (fun xs H Q => ∃ (d : Addr) (kvs : List (Key × V)), xs = [.ref d] ∧ Rd H d (.dK kvs) ∧ ∀ p, H p = none → Q (.ref p) (upd H p (.dK kvs))) := by
  intro pins s σ H xs us Q I r h
  obtain ⟨d, kvs, rfl, hd, q⟩ := h
  obtain ⟨u, rfl, rx⟩ := vals1 r
  cases rx
  exact d_copyOf I hd fun p s' hp I' => ⟨.ref p, _, I', rfl, q p hp⟩
def Pr (H : Hp) (x : V) (p : Int × Int) : Prop := ∃ a, x = .ref a ∧ H a = some (.tup [.int p.1, .int p.2])
abbrev Prs (H : Hp) : List V → List (Int × Int) → Prop := Paired (Pr H)
theorem Prs.mono {H H' : Hp} (h : ∀ a xs, H a = some (.tup xs) → H' a = some (.tup xs)) {xs : List V} {ps : List (Int × Int)} (r : Prs H xs ps) : Prs H' xs ps := Paired.mapP r fun _ _ ⟨a, e1, e2⟩ => ⟨a, e1, h a _ e2⟩
theorem Prs.snoc {H : Hp} {x : V} {p : Int × Int} : ∀ {xs : List V} {ps : List (Int × Int)}, Prs H xs ps → Pr H x p → Prs H (xs ++ [x]) (ps ++ [p])
  | _, _, .nil, h => .cons h .nil
  | _, _, .cons r t, h => .cons r (Prs.snoc t h)
theorem Prs.get {H : Hp} : ∀ {xs : List V} {ps : List (Int × Int)} {i : Nat} {x : V}, Prs H xs ps → xs[i]? = some x → ∃ p, ps[i]? = some p ∧ Pr H x p
  | _, _, _, _, .nil, e => by simp at e
  | _, _, 0, _, .cons r _, e => by simp at e; subst e; exact ⟨_, rfl, r⟩
  | _, _, i + 1, x, .cons _ t, e => by
    obtain ⟨p, h1, h2⟩ := Prs.get (i := i) (x := x) t (by simpa using e)
    exact ⟨p, by simpa using h1, h2⟩
theorem Prs.len {H : Hp} {xs : List V} {ps : List (Int × Int)} (r : Prs H xs ps) : xs.length = ps.length := Paired.length r
end
end L2
namespace L2
open PySem PySem.Spec PyProof.Rows
section
variable {X : Cx}
theorem hits_of {A : Around} {s : Shared} {n : List (Int × Int)} {ws : List (Key × Value)} (rn : KV (dI n) ws) : ∀ {m : List (Int × Int)} {vs : List (Key × Value)}, KV (dI m) vs → (∀ p ∈ m, lkI n p.1 = some p.2) → PySem.W.KeqHits A s ws vs true
  | [], _, r, _ => by
    have r' : KV [] _ := r
    cases r'
    exact .nil
  | p :: m, vs, r, h => by
    have r' : KV ((Sum.inl p.1, V.int p.2) :: dI m) vs := r
    cases r' with
    | cons r1 r2 =>
      rename_i q qs
      obtain ⟨k, v⟩ := q
      have ek : (Sum.inl p.1 : Key) = k := r1.1
      subst ek
      obtain ⟨t, ev⟩ := (show ∃ t, v = Value.int p.2 t from r1.2)
      subst ev
      have z := rn.val (Sum.inl p.1)
      rw [dI_val, h p List.mem_cons_self] at z
      obtain ⟨y, hy, ry⟩ := RelO.some_of z
      obtain ⟨t', ey⟩ := (show ∃ t, y = Value.int p.2 t from ry)
      subst ey
      have e := SeqAt.EqAt.int_int (A := A) (s := s) p.2 t p.2 t'
      have rest := hits_of (A := A) (s := s) rn r2 fun q hq => h q (List.mem_cons_of_mem _ hq)
      have := PySem.W.KeqHits.hit hy e rest
      rw [beq_self_eq_true, Bool.true_and] at this
      exact this
def rSameD (b : Bool) : R2 := fun x y H Q => ∃ (a c : Addr) (m n : List (Int × Int)), x = .ref a ∧ y = .ref c ∧ Rd H a (.dK (dI m)) ∧ Rd H c (.dK (dI n)) ∧ m.length = n.length ∧ (∀ p ∈ m, lkI n p.1 = some p.2) ∧ Q (.bl b) H
theorem op_neD (hu : X.A.units < cLine) : OpR X (compareOp .NotEq) (rSameD false) := by
  intro pins s σ H x y v u Q I rx ry h
  obtain ⟨a, c, m, n, rfl, rfl, ha, hb, hl, hp, q⟩ := h
  cases rx
  cases ry
  obtain ⟨_, s1, vs, r1, d1⟩ := dk_rd I.hok ha
  obtain ⟨_, s2, ws, r2, d2⟩ := dk_rd I.hok hb
  have e1 : vs.length = ws.length := by rw [← r1.length, ← r2.length, dI_len, dI_len, hl]
  refine PySem.W.keq_ne s1 s2 d1 d2 hu (r := true) (fun _ => hits_of r2 r1 hp) ⟨.bl false, H, I, ?_, q⟩
  rw [e1, beq_self_eq_true]
  rfl
theorem merge_nd : ∀ (ps acc : List (Int × Int)), ((acc ++ ps).map (·.1)).Nodup → mergeK (dI acc) (dI ps) = dI (acc ++ ps)
  | [], acc, _ => by rw [List.append_nil]; rfl
  | p :: ps, acc, h => by
    show mergeK (putK (dI acc) (Sum.inl p.1) (V.int p.2)) (dI ps) = _
    have h1 : (acc.map (·.1)).Nodup := by
      rw [List.map_append] at h
      exact (List.nodup_append.mp h).1
    have h2 : (acc.any fun q => decide (q.1 = p.1)) = false := by
      rw [List.any_eq_false]
      intro q hq z
      have z' := of_decide_eq_true z
      rw [List.map_append, List.map_cons] at h
      exact (List.nodup_append.mp h).2.2 q.1 (List.mem_map_of_mem (f := (·.1)) hq) p.1 List.mem_cons_self z'
    rw [dI_put acc p.1 p.2 h1, put_new acc p.1 p.2 h2, merge_nd ps (acc ++ [(p.1, p.2)]) (by rw [List.append_assoc]; exact h), List.append_assoc]
    rfl
theorem pairs_kx {pins : List (Addr × Obj)} {σ : St} {H : Hp} {s : Shared} (I : Inv X pins σ H s) : ∀ {xs : List V} {us : List Value} {ps : List (Int × Int)}, Prs H xs ps → Vals xs us →
    ∃ kx : List (Key × Value), KV (dI ps) kx ∧ kx.length = us.length ∧ ∀ (i : Nat) v, us[i]? = some v → ∃ a key k x o c, v = .ref a ∧ kx[i]? = some (k, x) ∧ (mixKind X.prog X.w).is k key = true ∧ s.heap.get? a = some o ∧ o.cls = .type "tuple" ∧ o.data = .seq #[key, x] c
  | _, _, _, .nil, .nil => ⟨[], .nil, rfl, fun i v e => by simp at e⟩
  | x :: xs, u :: us, p :: ps, .cons h t, .cons r q => by
    obtain ⟨kx, k1, k2, k3⟩ := pairs_kx I t q
    obtain ⟨a, rfl, ha⟩ := h
    obtain rfl : u = Value.ref a := r
    obtain ⟨_, its, rv, o, ho, hc, n, hd, _⟩ : [V.int p.1, V.int p.2].length ≤ sizeLine ∧ ∃ its : List Value, Vals [V.int p.1, V.int p.2] its ∧ IsTpl s.heap a its.toArray := I.hok a _ ha
    obtain ⟨u1, u2, rfl, r1, r2⟩ := vals2 rv
    obtain ⟨t1, rfl⟩ := r1
    refine ⟨(Sum.inl p.1, u2) :: kx, .cons ⟨rfl, r2⟩ k1, congrArg (· + 1) k2, fun i v e => ?_⟩
    cases i with
    | zero =>
      have e' : Value.ref a = v := Option.some.inj e
      subst e'
      exact ⟨a, _, _, u2, o, n, rfl, rfl, mixKind_int X.prog X.w p.1 t1, ho, hc, hd⟩
    | succ i => exact k3 i v e
theorem call_dictP (hc : X.calm = true) : CallR X (.type "dict") (fun xs H Q => ∃ (a : Addr) (ys : List V) (ps : List (Int × Int)), xs = [.ref a] ∧ H a = some (.lst ys) ∧ Prs H ys ps ∧ (ps.map (·.1)).Nodup ∧ ps.length ≤ 1000 ∧ ∀ p, H p = none → Q (.ref p) (upd H p (.dK (dI ps)))) := by
  intro pins s σ H xs us Q I r h
  obtain ⟨a, ys, ps, rfl, ha, hp, nd, hl, q⟩ := h
  obtain ⟨u, rfl, rx⟩ := vals1 r
  cases rx
  obtain ⟨z, its, n, rv, hlen, e⟩ := I.lstM ha
  obtain ⟨kx, k1, k2, k3⟩ := pairs_kx I hp rv
  refine GX.dict_of_list (knd := mixKind X.prog X.w) (I.ok.hd hc) e (by rw [← hlen]; exact z) k2 k3 fun h' tk kp dd => ?_
  have rel : KV (dI ps) (merged [] kx) := by
    have := KV.merge k1 (show KV (dI []) [] from .nil)
    rw [merge_nd ps [] (by simpa using nd)] at this
    exact this
  refine ⟨.ref s.heap.objs.size, _, I.laid (t' := tk) kp (Nat.le_refl _) (dk_new ?_ (beq_eq_false_iff_ne.mpr (Ne.symm (Nat.ne_of_lt I.big))) rel dd), rfl, q _ (I.hok.fresh (Nat.le_refl _))⟩
  rw [dI_len]
  exact Nat.le_of_lt (small1000 hl)
def iSeq (K : PySem.W.Frag) (tl : TE) : TI := fun σ H R => tl σ H fun x H1 => ∃ a, x = .ref a ∧ (((∃ xs, SqL K H1 a xs) ∧ R (Itl K a) H1) ∨ ((∃ xs, SqT K H1 a xs) ∧ R (Itt K a) H1))
theorem pi_seq {tg l : Expr} {tl : TE} (hl : PE X l tl) : PI X tg l (iSeq X.K tl) := by
  intro pins s σ H R I h
  refine thn (hl pins s σ H _ I h) fun v s1 ⟨x, H1, I1, r1, q1⟩ => ?_
  obtain ⟨a, e, q1⟩ := q1
  subst e
  cases r1
  have fp : ∀ b ∈ [s1.heap.objs.size], FpOk X pins H1 b := fun b hb => by
    have e : b = s1.heap.objs.size := by simpa using hb
    subst e
    exact I1.fpOk (Nat.le_refl _) (I1.hok.fresh (Nat.le_refl _))
  rcases q1 with ⟨⟨xs, hq⟩, q⟩ | ⟨⟨xs, hq⟩, q⟩
  · obtain ⟨its, rv, p, hz⟩ := I1.list hq
    refine wpAny_pyIter_list p.isList ?_
    exact ⟨s1.heap.objs.size, [s1.heap.objs.size], _, _, H1, rfl, I1.kept (t' := s1.toks) fun b o e => Heap.get?_push_of_some _ e, turn_list a _, ⟨_, Heap.get?_push_size _ rfl, rfl, rfl⟩, fp, q⟩
  · obtain ⟨its, rv, p, hz⟩ := I1.tuple hq
    refine wpAny_pyIter_tuple (show s1.heap.IsTuple a its.toArray from p) ?_
    exact ⟨s1.heap.objs.size, [s1.heap.objs.size], _, _, H1, rfl, I1.kept (t' := s1.toks) fun b o e => Heap.get?_push_of_some _ e, turn_tuple a _, ⟨_, Heap.get?_push_size _ rfl, rfl, rfl⟩, fp, q⟩
end
theorem comp_tup {K : PySem.W.Frag} {a : Addr} {xs : List V} {g : TG} {tt : TT} {te : TE} {σ : St} {H : Hp} {D : Addr} {Qe : Hp → Prop} (Pv : Nat → St → Hp → Prop) (h0 : Pv 0 σ H) (hl : ∀ i σ H, i ≤ xs.length → Pv i σ H → SqT K H a xs)
    (hs : ∀ i x σ H, xs[i]? = some x → Pv i σ H → cTurn g tt te D (Pv (i + 1)) x σ H) (hd : ∀ σ H, Pv xs.length σ H → Qe H) :
    ∃ W : Nat → Nat → St → Hp → Prop, (∃ m, W 0 m σ H) ∧ ∀ i m σ' H', W i m σ' H' → ((Itt K a).stop i H' ∧ Qe H') ∨ ((Itt K a).go i H' ∧ ∃ N : St → Hp → Prop, (∀ σ2 H2, N σ2 H2 → ∃ m', m' < m ∧ W (i + 1) m' σ2 H2) ∧
      ∀ x H'', (Itt K a).yld i H' x H'' → cTurn g tt te D N x σ' H'') := by
  refine ⟨fun i m σ H => m = xs.length - i ∧ i ≤ xs.length ∧ Pv i σ H, ⟨xs.length, by simp, Nat.zero_le _, h0⟩, ?_⟩
  rintro i m σ H ⟨rfl, hi, p⟩
  have q := hl i σ H hi p
  by_cases hlt : i < xs.length
  · refine .inr ⟨⟨xs, xs[i], q, by simp [hlt]⟩, Pv (i + 1), fun σ' H' p' => ⟨xs.length - (i + 1), by omega, rfl, hlt, p'⟩, fun x H' y => ?_⟩
    obtain ⟨e, y⟩ := y
    subst e
    exact hs i x σ _ (y xs q) p
  · have e : i = xs.length := by omega
    subst e
    exact .inl ⟨⟨xs, q, Nat.le_refl _⟩, hd σ H p⟩
section
variable {X : Cx}
end
end L2
set_option Elab.async false
set_option linter.all false
set_option maxRecDepth 100000
namespace GX
open PySem PyProof.Rows
def Ris (xs : Array Nat) : Prop := xs.toList.Pairwise (· < ·)
theorem Ris.at {xs : Array Nat} (h : Ris xs) {i j : Nat} (hi : i < j) (hj : j < xs.size) : xs.getD i 0 < xs.getD j 0 := by
  have := List.pairwise_iff_getElem.mp h i j (by simp; omega) (by simpa using hj) hi
  simp only [Array.getElem_toList] at this
  rw [Array.getD_eq_getD_getElem?, Array.getD_eq_getD_getElem?, Array.getElem?_eq_getElem (by omega), Array.getElem?_eq_getElem hj]
  exact this
theorem getD_any {xs : Array Nat} {i : Nat} (h : i < xs.size) (a b : Nat) : xs.getD i a = xs.getD i b := by
  rw [Array.getD_eq_getD_getElem?, Array.getD_eq_getD_getElem?, Array.getElem?_eq_getElem h]
  rfl
theorem below_go {xs : Array Nat} (hr : Ris xs) (j : Nat) : ∀ (fuel lo hi : Nat), lo ≤ hi → hi ≤ xs.size → hi - lo ≤ fuel → (∀ i, i < lo → xs.getD i 0 < j) → (∀ i, hi ≤ i → i < xs.size → j ≤ xs.getD i 0) →
    SetTable.below.go xs j fuel lo hi ≤ xs.size ∧ (∀ i, i < SetTable.below.go xs j fuel lo hi → xs.getD i 0 < j) ∧ (∀ i, SetTable.below.go xs j fuel lo hi ≤ i → i < xs.size → j ≤ xs.getD i 0)
  | 0, lo, hi, h1, h2, h3, h4, h5 => by
    have e : lo = hi := by omega
    subst e
    unfold SetTable.below.go
    exact ⟨h2, h4, h5⟩
  | fuel + 1, lo, hi, h1, h2, h3, h4, h5 => by
    unfold SetTable.below.go
    by_cases h : lo < hi
    · rw [if_pos h]
      have hm : (lo + hi) / 2 < xs.size := by omega
      show (if xs.getD ((lo + hi) / 2) j < j then SetTable.below.go xs j fuel ((lo + hi) / 2 + 1) hi else SetTable.below.go xs j fuel lo ((lo + hi) / 2)) ≤ _ ∧ _
      by_cases hc : xs.getD ((lo + hi) / 2) j < j
      · simp only [if_pos hc]
        rw [getD_any hm j 0] at hc
        refine below_go hr j fuel _ hi (by omega) h2 (by omega) (fun i hi' => ?_) h5
        rcases Nat.lt_or_ge i ((lo + hi) / 2) with z | z
        · have := hr.at z hm
          omega
        · have : i = (lo + hi) / 2 := by omega
          rw [this]
          exact hc
      · simp only [if_neg hc]
        rw [getD_any hm j 0] at hc
        refine below_go hr j fuel lo _ (by omega) (by omega) (by omega) h4 (fun i hi' hs => ?_)
        rcases Nat.lt_or_ge ((lo + hi) / 2) i with z | z
        · have := hr.at z hs
          omega
        · have : i = (lo + hi) / 2 := by omega
          rw [this]
          omega
    · rw [if_neg h]
      have e : lo = hi := by omega
      subst e
      exact ⟨h2, h4, h5⟩
theorem below_ok {xs : Array Nat} (hr : Ris xs) (j : Nat) : SetTable.below xs j ≤ xs.size ∧ (∀ i, i < SetTable.below xs j → xs.getD i 0 < j) ∧ (∀ i, SetTable.below xs j ≤ i → i < xs.size → j ≤ xs.getD i 0) := by
  unfold SetTable.below
  exact below_go hr j _ 0 _ (Nat.zero_le _) (Nat.le_refl _) (by omega) (fun i h => by omega) (fun i h1 h2 => by omega)
theorem below_next {xs : Array Nat} (hr : Ris xs) {i : Nat} (hi : i < xs.size) : SetTable.below xs (xs.getD i 0 + 1) = i + 1 := by
  obtain ⟨h1, h2, h3⟩ := below_ok hr (xs.getD i 0 + 1)
  rcases Nat.lt_trichotomy (SetTable.below xs (xs.getD i 0 + 1)) (i + 1) with z | z | z
  · have := h3 i (by omega) hi
    omega
  · exact z
  · have q := h2 (i + 1) z
    have := hr.at (i := i) (j := i + 1) (by omega) (by omega)
    omega
theorem below_zero {xs : Array Nat} (hr : Ris xs) : SetTable.below xs 0 = 0 := by
  obtain ⟨h1, h2, h3⟩ := below_ok hr 0
  rcases Nat.eq_zero_or_pos (SetTable.below xs 0) with z | z
  · exact z
  · have := h2 0 z
    omega
def Off (xs : Array Nat) (d : Nat) : Prop := xs[SetTable.below xs d]? ≠ some d
theorem Off.no {xs : Array Nat} (hr : Ris xs) {d : Nat} (h : Off xs d) : ∀ i, i < xs.size → xs.getD i 0 ≠ d := by
  intro i hi e
  obtain ⟨h1, h2, h3⟩ := below_ok hr d
  have b1 : SetTable.below xs d ≤ i := by
    rcases Nat.lt_or_ge i (SetTable.below xs d) with z | z
    · have := h2 i z
      omega
    · exact z
  have b2 : SetTable.below xs d = i := by
    rcases Nat.lt_or_ge (SetTable.below xs d) i with z | z
    · have := hr.at z hi
      have := h3 (SetTable.below xs d) (Nat.le_refl _) (by omega)
      omega
    · omega
  apply h
  rw [b2, Array.getElem?_eq_getElem hi]
  rw [Array.getD_eq_getD_getElem?, Array.getElem?_eq_getElem hi] at e
  exact congrArg some e
theorem slot_off {t : SetTable} {j : Nat} (h : ∀ i, t.slot j ≠ .live i) : Off t.place j := by
  intro z
  apply h (SetTable.below t.place j)
  unfold SetTable.slot
  simp only [z, beq_self_eq_true, if_true]
theorem adv_dummy (t : SetTable) (p : SetTable.Probe) : (t.advance p).dummy = p.dummy := by
  unfold SetTable.advance
  split <;> rfl
theorem probe_off {t : SetTable} {f : Nat → Int} {h : Int} : ∀ (fuel : Nat) (p : SetTable.Probe) (j : Nat) (dm : Option Nat), (∀ d, p.dummy = some d → Off t.place d) → SetTable.probe.go t f h fuel p = some (.empty j dm) → Off t.place j ∧ ∀ d, dm = some d → Off t.place d
  | 0, p, j, dm, hp, e => by
    unfold SetTable.probe.go at e
    cases e
  | fuel + 1, p, j, dm, hp, e => by
    unfold SetTable.probe.go at e
    cases hs : t.slot p.j with
    | empty =>
      rw [hs] at e
      dsimp only at e
      cases e
      exact ⟨slot_off (fun i z => by rw [hs] at z; cases z), hp⟩
    | dummy =>
      rw [hs] at e
      dsimp only at e
      refine probe_off fuel _ j dm (fun d hd => ?_) e
      rw [adv_dummy] at hd
      cases hd
      exact slot_off (fun i z => by rw [hs] at z; cases z)
    | live i =>
      rw [hs] at e
      dsimp only at e
      split at e
      · cases e
      · exact probe_off fuel _ j dm (fun d hd => hp d (by rw [adv_dummy] at hd; exact hd)) e
theorem free_off {t : SetTable} {h : Int} {sl : Nat} {b : Bool} (e : t.freeSlot h = some (sl, b)) : Off t.place sl := by
  unfold SetTable.freeSlot SetTable.probe at e
  generalize hg : SetTable.probe.go t (fun _ => h + 1) h (10 * SetTable.turns t.mask) (t.probeStart h) = g at e
  cases g with
  | none => cases e
  | some m =>
    cases m with
    | candidate j i n => cases e
    | empty j dm =>
      obtain ⟨h1, h2⟩ := probe_off _ _ j dm (fun d hd => by cases hd) hg
      dsimp only at e
      have e' := Option.some.inj e
      cases dm with
      | none =>
        have : j = sl := congrArg Prod.fst e'
        rw [← this]
        exact h1
      | some d =>
        have : d = sl := congrArg Prod.fst e'
        rw [← this]
        exact h2 d rfl
theorem mem_getD {xs : Array Nat} {x : Nat} {p : Nat} (h : x ∈ xs.toList.take p) : ∃ i, i < p ∧ i < xs.size ∧ xs.getD i 0 = x := by
  obtain ⟨i, hi, e⟩ := List.getElem_of_mem h
  rw [List.length_take, Array.length_toList] at hi
  refine ⟨i, by omega, by omega, ?_⟩
  rw [List.getElem_take, Array.getElem_toList] at e
  rw [Array.getD_eq_getD_getElem?, Array.getElem?_eq_getElem (by omega)]
  exact e
theorem mem_getD' {xs : Array Nat} {x : Nat} {p : Nat} (h : x ∈ xs.toList.drop p) : ∃ i, p ≤ i ∧ i < xs.size ∧ xs.getD i 0 = x := by
  obtain ⟨i, hi, e⟩ := List.getElem_of_mem h
  rw [List.length_drop, Array.length_toList] at hi
  refine ⟨p + i, by omega, by omega, ?_⟩
  rw [List.getElem_drop, Array.getElem_toList] at e
  rw [Array.getD_eq_getD_getElem?, Array.getElem?_eq_getElem (by omega)]
  exact e
theorem put_ris {t : SetTable} {sl : Nat} (hr : Ris t.place) (ho : Off t.place sl) : Ris (t.put sl).1.place := by
  obtain ⟨h1, h2, h3⟩ := below_ok hr sl
  show (SetTable.insertAt t.place (SetTable.below t.place sl) sl).toList.Pairwise (· < ·)
  rw [SetTable.toList_insertAt, List.pairwise_append]
  refine ⟨hr.sublist (List.take_sublist _ _), ?_, ?_⟩
  · rw [List.pairwise_cons]
    refine ⟨fun x hx => ?_, hr.sublist (List.drop_sublist _ _)⟩
    obtain ⟨i, a, b, c⟩ := mem_getD' hx
    have q1 := h3 i a b
    have q2 := ho.no hr i b
    omega
  · intro x hx y hy
    obtain ⟨i, a, b, c⟩ := mem_getD hx
    have q1 := h2 i a
    rcases List.mem_cons.mp hy with z | z
    · omega
    · obtain ⟨i', a', b', c'⟩ := mem_getD' z
      have q2 := h3 i' a' b'
      omega
theorem stand_ris (t : SetTable) (n : Nat) : Ris (t.standIn n).place := by
  show (Array.range n).toList.Pairwise (· < ·)
  rw [Array.toList_range]
  exact List.pairwise_lt_range
def Tb (b : Bool) (t : SetTable) : Prop := Ris t.place ∧ t.led = b
theorem lay_tb {b : Bool} {t : SetTable} (h : Tb b t) (es : Array (Int × Value)) (k : Int) (x : Value) : Tb b (layNew t es k x).2.1 := by
  unfold layNew
  split
  · rename_i sl wd e
    dsimp only
    unfold SetTable.orStandIn
    split
    · exact ⟨put_ris h.1 (free_off e), h.2⟩
    · exact ⟨stand_ris _ _, h.2⟩
  · exact ⟨stand_ris _ _, h.2⟩
theorem relaid_tb {b : Bool} {t t' : SetTable} {hs : Array Int} {n : Nat} {o : Array Nat} (h : Tb b t) (e : t.relaid hs n = some (t', o)) : Tb b t' := by
  unfold SetTable.relaid SetTable.laid at e
  cases hc : SetTable.layClean (SetTable.sizeAbove n - 1) hs with
  | none => rw [hc] at e; cases e
  | some ow =>
    rw [hc] at e
    have e' := Option.some.inj e
    have e1 := congrArg Prod.fst e'
    dsimp only at e1
    rw [← e1]
    refine ⟨?_, h.2⟩
    show List.Pairwise _ (Array.toList (List.toArray _))
    rw [List.toList_toArray, List.map_filterMap]
    refine List.Pairwise.filterMap (R := (· < ·)) _ (fun x y hxy a ha c hc => ?_) List.pairwise_lt_range
    simp only [Option.map_map, Option.mem_def, Option.map_eq_some_iff] at ha hc
    obtain ⟨_, _, rfl⟩ := ha
    obtain ⟨_, _, rfl⟩ := hc
    exact hxy
theorem relay_tb {b : Bool} {t : SetTable} (h : Tb b t) (es : Array (Int × Value)) (n : Nat) : Tb b (relayAll t es n).2.1 := by
  unfold relayAll
  split
  · rename_i t' o e
    dsimp only
    split
    · exact relaid_tb h e
    · exact ⟨stand_ris _ _, h.2⟩
  · exact ⟨stand_ris _ _, h.2⟩
end GX
set_option Elab.async false
set_option linter.all false
set_option maxRecDepth 100000
namespace GX
open PySem PyProof.Rows
abbrev byT (w : World) : Bool := w.params.followText "set-order"
section
variable {prog : Program} {w : World} {A : Around} {E : Value → Shared → Prop} {s : Shared}
def SetI (prog : Program) (w : World) (h : Heap) (a : Addr) (S : Int → Bool) (n : Nat) : Prop :=
  ∃ o es ep t, h.get? a = some o ∧ o.ExactSet ∧ o.data = .set es ep t ∧ ElemsOf (intKind prog w) es.toList ∧ (∀ k, S k = true ↔ ∃ e ∈ es.toList, (intKind prog w).is k e.2 = true) ∧ es.size < scanBound ∧ t.fits es.size = true ∧ es.size = n ∧ Tb (!byT w) t
theorem SetI.at {h h' : Heap} {a : Addr} {S : Int → Bool} {n : Nat} (x : SetI prog w h a S n) (k : ∀ o, h.get? a = some o → h'.get? a = some o) : SetI prog w h' a S n := by
  obtain ⟨o, es, ep, t, ho, r⟩ := x
  exact ⟨o, es, ep, t, k o ho, r⟩
theorem SetI.congr {h : Heap} {a : Addr} {S S' : Int → Bool} {n n' : Nat} (x : SetI prog w h a S n) (e : ∀ k, S k = S' k) (en : n = n') : SetI prog w h a S' n' := by
  have z : S = S' := funext e
  rw [← z, ← en]
  exact x
def GoodS (prog : Program) (w : World) (es : Array (Int × Value)) (t : SetTable) (S : Int → Bool) (n : Nat) : Prop :=
  ElemsOf (intKind prog w) es.toList ∧ (∀ k, S k = true ↔ ∃ e ∈ es.toList, (intKind prog w).is k e.2 = true) ∧ es.size < scanBound ∧ t.fits es.size = true ∧ es.size = n ∧ Tb (!byT w) t
def RawS (h : Heap) (a : Addr) (es : Array (Int × Value)) (t : SetTable) : Prop := ∃ o ep, h.get? a = some o ∧ o.ExactSet ∧ o.data = .set es ep t
theorem RawS.good {h : Heap} {a : Addr} {es : Array (Int × Value)} {t : SetTable} {S : Int → Bool} {n : Nat} (r : RawS h a es t) (g : GoodS prog w es t S n) : SetI prog w h a S n := by
  obtain ⟨o, ep, r1, r2, r3⟩ := r
  exact ⟨o, es, ep, t, r1, r2, r3, g⟩
theorem RawS.put {a : Addr} {es es' : Array (Int × Value)} {t t' : SetTable} {Q : Unit → Shared → Prop} (r : RawS s.heap a es t) (hz : es'.size < scanBound) (h : ∀ h', Heap.SameBut a s.heap h' → RawS h' a es' t' → Q () { s with heap := h' }) :
    wpAny (model prog w) A (storeSet a es' t') Q E s := by
  obtain ⟨⟨c, d, b, sl⟩, ep, ho, hx, hd⟩ := r
  cases hd
  exact wpAny_storeSet_of ho rfl (h _ (Heap.SameBut.update ..) ⟨_, ep + 1, Heap.get?_update_self _ ho rfl, hx, rfl⟩) (fits_of_scanBound hz)
theorem GoodS.mix {es es' : Array (Int × Value)} {t t' : SetTable} {S : Int → Bool} {n : Nat} (g : GoodS prog w es t S n) (p : List.Perm es'.toList es.toList) (f : t'.fits es'.size = true) (b : Tb (!byT w) t') : GoodS prog w es' t' S n := by
  obtain ⟨g1, g2, g3, _, g5, _⟩ := g
  have z : es'.size = es.size := by simpa using p.length_eq
  exact ⟨g1.perm p, fun k => (g2 k).trans ⟨fun ⟨e, u, v⟩ => ⟨e, p.mem_iff.mpr u, v⟩, fun ⟨e, u, v⟩ => ⟨e, p.mem_iff.mp u, v⟩⟩, z ▸ g3, f, z.trans g5, b⟩
theorem GoodS.relaid {es : Array (Int × Value)} {t : SetTable} {S : Int → Bool} {n : Nat} (g : GoodS prog w es t S n) (m : Nat) : GoodS prog w (relayAll t es m).1 (relayAll t es m).2.1 S n :=
  g.mix (relayAll_perm t es m) (relayAll_fits t es m) (relay_tb g.2.2.2.2.2 es m)
theorem GoodS.more {es : Array (Int × Value)} {t : SetTable} {S : Int → Bool} {n : Nat} {k : Int} {x : Value} (g : GoodS prog w es t S n) (hk : (intKind prog w).is k x = true) (hx : x.scannable = true) (room : n + 1 < scanBound) :
    GoodS prog w (layNew t es ((intKind prog w).hash k) x).1 (layNew t es ((intKind prog w).hash k) x).2.1 (fun k' => S k' || decide (k' = k)) (n + 1) := by
  obtain ⟨g1, g2, g3, _, g5, g6⟩ := g
  have p : List.Perm _ (es.push ((intKind prog w).hash k, x)).toList := layNew_perm t es ((intKind prog w).hash k) x
  rw [Array.toList_push] at p
  have z : (layNew t es ((intKind prog w).hash k) x).1.size = n + 1 := by simpa [g5] using p.length_eq
  exact ⟨(g1.push hk hx).perm p, mem_push_iff hk g2 p, z ▸ room, layNew_fits t es _ x, z, lay_tb g6 es _ x⟩
theorem gave_way {b : Bool} {Q : Unit → Shared → Prop} (q : Q () s) : wpAny (model prog w) A (match b with | true => rule "set.scan.the-table-gave-way" | false => pure ()) Q E s := by
  cases b
  · exact wpAny_pure q
  · exact wpAny_rule q
theorem set_add {a : Addr} {S : Int → Bool} {n : Nat} {k : Int} {u : Tok} {Q : Bool → Shared → Prop} (x : SetI prog w s.heap a S n) (room : n + 1 < scanBound)
    (h : ∀ h' b, Heap.SameBut a s.heap h' → SetI prog w h' a (fun k' => S k' || decide (k' = k)) (if S k then n else n + 1) → Q b { s with heap := h' }) :
    wpAny (model prog w) A (setAddHashed a (.int k u) ((intKind prog w).hash k)) Q E s := by
  obtain ⟨o, es, ep, t, ho, hx, hd, g⟩ := x
  have g0 : GoodS prog w es t S n := g
  obtain ⟨he, hm, hb, hf, hn, tb⟩ := g
  have hk : (intKind prog w).is k (.int k u) = true := intKind_is _ _ _ _
  rw [setAddHashed, setAddHashedIn]
  apply wpAny_holding
  apply wpAny_bind
  apply wpAny_setState_of ho hd hf
  dsimp only
  rw [byScan_of rfl hb he, if_pos rfl]
  wp_walk using wpAny_setScan_of hk ho hd hf he
  cases hr : List.findIdx? (fun e => (intKind prog w).is k e.2) es.toList with
  | some j =>
    obtain ⟨lt, is, _⟩ := List.findIdx?_eq_some_iff_getElem.mp hr
    have sk : S k = true := (hm k).mpr ⟨_, List.getElem_mem lt, is⟩
    wp_walk
    refine h s.heap false (.refl a _) (RawS.good ⟨o, ep, ho, hx, hd⟩ ?_)
    rw [if_pos sk, show (fun k' => S k' || decide (k' = k)) = S from funext fun k' => ?_]
    · exact g0
    · by_cases e : k' = k
      · rw [e, sk]; rfl
      · rw [decide_eq_false e, Bool.or_false]
  | none =>
    have sk : ¬ S k = true := fun z => by
      obtain ⟨e, u, v⟩ := (hm k).mp z
      exact absurd v (by simpa using List.findIdx?_eq_none_iff.mp hr e u)
    have g1 := g0.more hk rfl room
    rw [if_neg sk] at h
    dsimp only
    generalize layNew t es ((intKind prog w).hash k) (.int k u) = L at g1 ⊢
    obtain ⟨es1, t1, wd, gv⟩ := L
    refine wpAny_bind (gave_way ?_)
    dsimp only
    rw [hashByValue_scannable 8 (x := .int k u) rfl]
    split
    all_goals
      refine wpAny_bind (wpAny_pure ?_)
      rw [if_pos (by rfl)]
      refine wpAny_bind (RawS.put ⟨o, ep, ho, hx, hd⟩ g1.2.2.1 fun h1 s1 r1 => ?_)
      split
      · have g2 := g1.relaid (SetTable.grown es1.size)
        refine wpAny_bind (gave_way (wpAny_bind (RawS.put (s := { s with heap := h1 }) r1 g2.2.2.1 fun h2 s2 r2 => ?_)))
        wp_walk
        exact h h2 true (s1.trans s2) (r2.good g2)
      · wp_walk
        exact h h1 true s1 (r1.good g1)
theorem turn_set (S I : Addr) : MeetsIn prog w (Builtin.«set.update.loop» ⟨[.ref S, .ref I], []⟩) fun A R s => wpAny (model prog w) A.in1 (pyNext (.ref I)) (fun r s => match r with
    | none => R (.ok (.ret .none)) s
    | some v => wpAny (model prog w) A.in1 (setAdd S v) (fun _ s => codeAny (model prog w) A (.builtin "set.update.loop" ⟨[.ref S, .ref I], []⟩) R s) (fun _ _ => False) s) (fun _ _ => False) s := by
  intro A R s nx
  show wpAny _ _ (pyNext (.ref I) >>= _) _ _ s
  apply wpAny_bind
  refine wpAny_mono nx (fun r s1 h => ?_) fun _ _ z => z.elim
  rcases r with _ | v
  · wp_walk
    exact h
  · wp_walk using wpAny_mono h
    · exact fun _ _ e => wpAny_pure ⟨plainId_quiet PyProof.Rows.F.plain_set_update_loop _, e⟩
    · exact fun _ _ z => z.elim
theorem set_loop {R : Result → Shared → Prop} {I S : Addr} {fp wr : List Addr} {n : Nat} {P : Nat → Value → Prop} {St : Nat → Heap → Prop} (W : Walks prog w A.in1 I fp wr n P St) (nS : S ∉ fp) (val : Nat → Int) (hv : ∀ i v, P i v → ∃ t, v = .int (val i) t) (hb : n + 1 < scanBound) :
    ∀ (k i : Nat) (s : Shared), n = i + k → St i s.heap → SetI prog w s.heap S (fun k' => (firstMet val i).any (· == k')) (firstMet val i).length →
      (∀ h' tk, (∀ b o, b ∉ wr → b ≠ S → s.heap.get? b = some o → h'.get? b = some o) → SetI prog w h' S (fun k' => (firstMet val n).any (· == k')) (firstMet val n).length → R (.ok (.ret .none)) { s with heap := h', toks := tk }) →
      codeAny (model prog w) A (.builtin "set.update.loop" ⟨[.ref S, .ref I], []⟩) R s := by
  have nW : S ∉ wr := fun z => nS (W.sub _ z)
  intro k
  induction k with
  | zero =>
    intro i s en st x fin
    obtain rfl : n = i := en
    exact enter PyProof.Rows.F.entry_set_update_loop PyProof.Rows.F.plain_set_update_loop (turn_set S I) (W.done s _ _ st fun h tk kp => fin h tk (fun b o nb _ e => kp b o nb e) (x.at fun o e => kp S o nW e))
  | succ k ih =>
    intro i s en st x fin
    refine enter PyProof.Rows.F.entry_set_update_loop PyProof.Rows.F.plain_set_update_loop (turn_set S I) (W.item i s _ _ (by omega) st fun v h tk pv st1 kp => ?_)
    obtain ⟨t, rfl⟩ := hv i v pv
    have len := firstMet_length_le val i
    show wpAny _ _ (setAdd S (.int (val i) t)) _ _ _
    unfold setAdd
    refine wpAny_holding (wpAny_bind ((intKind prog w).pyHash (k := val i) (intKind_is _ _ _ _) (set_add (s := { s with heap := h, toks := tk + 1 }) (x.at fun o e => kp S o nW e) (by omega) fun h2 b sb x2 => ?_)))
    refine ih (i + 1) { s with heap := h2, toks := tk + 1 } (by omega) (W.frame _ _ _ st1 fun b hb o e => (sb.2 b fun z => nS (z ▸ hb)).trans e) (x2.congr (fun k' => ?_) ?_) fun h3 tk3 k3 x3 => fin h3 tk3 (fun b o nb nb' e => k3 b o nb nb' ((sb.2 b nb').trans (kp b o nb e))) x3
    · rw [firstMet_succ, step_any]
    · rw [firstMet_succ, step_length]
theorem set_new (a : Value) {Q1 : Value → Shared → Prop} (h : Q1 (.ref s.heap.objs.size) { s with heap := s.heap.push { cls := .type "set", dict := none, data := .set #[] 0 (.fresh 0 0 (!byT w)) } }) :
    codeAny (model prog w) A (.call (.builtin "set.__new__") ⟨[.type "set", a], []⟩) (wants Q1 E) s := by
  refine codeAny_call_builtin PySem.F.plain_set_new PySem.F.entry_set_new (wpAny_of_eq (PySem.F.newCall_set_1 a) ?_)
  have sub := sub_set_self
  obtain ⟨hp, g, d, tk, os⟩ := s
  wp_walk using wpAny_askSetting
  exact h
theorem type_called {T newId initId : String} {args : List Value} {Q Q1 : Value → Shared → Prop} (ft : TypeCalled T newId initId) (ct : checkTypeCall T ⟨args, []⟩ = pure ())
    (new : codeAny (model prog w) A.in1 (.call (.builtin newId) ⟨.type T :: args, []⟩) (wants Q1 E) s)
    (init : ∀ v s1, Q1 v s1 → s1.TypeIs v T ∧ codeAny (model prog w) A.in1 (.call (.builtin initId) ⟨v :: args, []⟩) (wants (fun r s2 => r = .none ∧ Q v s2) E) s1) : wpAny (model prog w) A (call (.type T) args) Q E s := by
  obtain ⟨_, _, _⟩ := ft.mro
  have := ft.notType
  have := ft.canCreate
  have := ft.made
  have := ft.sub
  refine wpAny_call (codeAny_of_tree (wpAny_pure ⟨Code.quiet_builtin _ (by decide +kernel), codeAny_builtin PySem.F.entry_type_call ?_⟩))
  rw [Around.under_plain (weight_type_call_type T args []) rfl]
  repeat' first | assumption | wp_step
  refine codeAny_mono new fun r s1 h => ?_
  match r, h with
  | .error _, h => exact h
  | .ok (.ret v), h =>
    obtain ⟨ty, c⟩ := init v s1 h
    have := ft.init.lookup
    have := ft.init.bind v
    repeat' first | assumption | wp_step
    refine codeAny_mono c fun r s2 h => ?_
    match r, h with
    | .error _, h => exact h
    | .ok (.ret _), h =>
      obtain ⟨rfl, _⟩ := h
      repeat' first | assumption | wp_step
end
end GX
set_option Elab.async false
set_option linter.all false
set_option maxRecDepth 100000
namespace GX
open PySem PyProof.Rows
theorem sl_sit_next : Slot "set_iterator" "__next__" "set_iterator.__next__" :=
  .of (owner := "set_iterator") (n := "__next__") (by rw [typeLookup_type, builtinLookup_eq_fast]; kernel_rfl) (by decide +kernel) (by decide +kernel) (by decide +kernel) (by first | exact .inl (by decide +kernel) | exact .inr (by decide +kernel)) (by rw [isSubtype_type]; kernel_rfl)
theorem en_sit_next : entryFor table "set_iterator.__next__" = some Builtin.«set_iterator.__next__» := entryFor_of_tree (by kernel_rfl)
theorem ar_sit_next (a : Value) : argsOk "set_iterator.__next__" ⟨[a], []⟩ := by unfold argsOk; kernel_rfl
theorem sl_sit_iter : Slot "set_iterator" "__iter__" "set_iterator.__iter__" :=
  .of (owner := "set_iterator") (n := "__iter__") (by rw [typeLookup_type, builtinLookup_eq_fast]; kernel_rfl) (by decide +kernel) (by decide +kernel) (by decide +kernel) (by first | exact .inl (by decide +kernel) | exact .inr (by decide +kernel)) (by rw [isSubtype_type]; kernel_rfl)
theorem en_sit_iter : entryFor table "set_iterator.__iter__" = some Builtin.«dict_keyiterator.__iter__» := entryFor_alias (id' := "dict_keyiterator.__iter__") (by kernel_rfl) rfl (by decide +kernel) (by kernel_rfl)
theorem ar_sit_iter (a : Value) : argsOk "set_iterator.__iter__" ⟨[a], []⟩ := by unfold argsOk; kernel_rfl
theorem en_set_iter : entryFor table "set.__iter__" = some Builtin.«frozenset.__iter__» := entryFor_alias (id' := "frozenset.__iter__") (by kernel_rfl) rfl (by decide +kernel) (by kernel_rfl)
abbrev newS (w : World) (h : Heap) : Heap := h.push { cls := .type "set", dict := none, data := .set #[] 0 (.fresh 0 0 (!byT w)) }
section
variable {prog : Program} {w : World} {A : Around} {E : Value → Shared → Prop} {s : Shared}
set_option maxHeartbeats 4000000 in
theorem set_of_list {l : Addr} {items : Array Value} {ns : List Int} {Q : Value → Shared → Prop} (hh : A.handled = none) (hl : s.heap.IsList l items) (hi : IntsAre items.toList ns) (hb : items.size + 1 < scanBound)
    (h : ∀ h' tk, SetI prog w h' s.heap.objs.size (fun k' => (firstMet (fun i => ns.getD i 0) items.size).any (· == k')) (firstMet (fun i => ns.getD i 0) items.size).length → (∀ b o, s.heap.get? b = some o → h'.get? b = some o) → Q (.ref s.heap.objs.size) { s with heap := h', toks := tk }) :
    wpAny (model prog w) A (call (.type "set") [.ref l]) Q E s := by
  obtain ⟨⟨oc, od, odt, osl⟩, hol, hcl, nl, hdl⟩ := id hl
  cases hcl
  cases hdl
  have lS : l < s.heap.objs.size := Heap.lt_size hol
  refine type_called PySem.F.called_set (PySem.F.typeCall_set_1 _) (set_new (.ref l) (Q1 := fun v s1 => v = .ref s.heap.objs.size ∧ s1 = { s with heap := newS w s.heap }) ⟨rfl, rfl⟩) ?_
  rintro _ _ ⟨rfl, rfl⟩
  have new : (newS w s.heap).get? s.heap.objs.size = some { cls := .type "set", dict := none, data := .set #[] 0 (.fresh 0 0 (!byT w)) } := Heap.get?_push_size _ rfl
  have old : (newS w s.heap).get? l = some { cls := .type "list", dict := od, data := .seq items nl, slots := osl } := Heap.get?_push_of_some _ hol
  have size : (newS w s.heap).objs.size = s.heap.objs.size + 1 := Heap.size_push ..
  have ty : Shared.TypeIs { s with heap := newS w s.heap } (.ref s.heap.objs.size) "set" := ⟨_, new, rfl⟩
  refine ⟨ty, codeAny_call_builtin PySem.F.called_set.init.plain PySem.F.entry_set_init (check_set_init_1 ty ?_)⟩
  have := PySem.F.sub_list_set
  have := PySem.F.sub_list_frozenset
  have nd : (Value.type "list" == Value.type "dict") = false := by decide
  have grown : ∀ b o, s.heap.get? b = some o → (newS w s.heap).get? b = some o := fun b o e => Heap.get?_push_of_some _ e
  generalize newS w s.heap = h1 at new old size ty grown ⊢
  have il : h1.IsList l items := ⟨_, old, rfl, nl, rfl⟩
  wp_walk using wpAny_pyIter_list il
  have nf : s.heap.objs.size ∉ [h1.objs.size, l] := by
    rw [size]
    intro z
    rcases List.mem_cons.mp z with z | z
    · exact absurd z (Nat.ne_of_lt (Nat.lt_succ_self _))
    · exact Nat.ne_of_gt lS (List.mem_singleton.mp z)
  refine set_loop (Walks.list (by simpa using hh) _ l (by rw [size]; exact Nat.ne_of_lt (Nat.lt_succ_of_lt lS)) items) nf (fun i => ns.getD i 0) (fun i v hv => IntsAre.int_at hi i v (by rw [Array.getElem?_toList]; exact hv)) hb items.size 0 _ (by omega)
    ⟨⟨_, Heap.get?_push_size _ rfl, rfl, rfl⟩, il.push _⟩ ⟨_, #[], 0, _, Heap.get?_push_of_some _ new, ⟨rfl, rfl, rfl⟩, rfl, fun e he => by simp at he, fun k => by simp [firstMet_zero], by decide, by rfl, rfl, ⟨List.Pairwise.nil, rfl⟩⟩ fun h2 tk kp x => ?_
  wp_walk
  refine ⟨rfl, h h2 tk x fun b o e => ?_⟩
  have lb := Heap.lt_size e
  refine kp b o (fun z => ?_) (Nat.ne_of_lt lb) (Heap.get?_push_of_some _ (grown b o e))
  rw [List.mem_singleton.mp z, size] at lb
  exact absurd lb (Nat.not_lt.mpr (Nat.le_succ _))
end
end GX
set_option Elab.async false
set_option linter.all false
set_option maxRecDepth 100000
namespace GX
open PySem PyProof.Rows
section
variable {prog : Program} {w : World} {A : Around} {E : Value → Shared → Prop} {s : Shared}
theorem erase_perm {α : Type} : ∀ {xs : List α} {i : Nat} (h : i < xs.length), (xs[i] :: xs.eraseIdx i).Perm xs
  | x :: xs, 0, _ => .refl _
  | x :: xs, i + 1, h => (List.Perm.swap x (xs[i]'(Nat.lt_of_succ_lt_succ h)) _).trans ((erase_perm (xs := xs) (i := i) (Nat.lt_of_succ_lt_succ h)).cons x)
theorem choose_ok {src : Source} {n : Nat} {M : Model} {Q : Nat → Shared → Prop} (hn : n ≠ 0) (h : ∀ i d, i < n → Q i { s with drawn := d }) : wpAny M A (choose src n) Q E s := fun Γ p _ => by
  unfold choose
  rw [Sem.wp_choose]
  exact ⟨hn, h _ _ (Nat.mod_lt _ (Nat.pos_of_ne_zero hn))⟩
theorem draw_ok {α : Type} {M : Model} : ∀ (n : Nat) (xs : List α) (s : Shared) (Q : List α → Shared → Prop), xs.length = n → (∀ ys d, ys.Perm xs → Q ys { s with drawn := d }) → wpAny M A (drawOrder n xs) Q E s
  | 0, xs, s, Q, hl, h => by
    have e : xs = [] := List.eq_nil_of_length_eq_zero hl
    subst e
    unfold drawOrder
    exact wpAny_pure (h [] s.drawn .nil)
  | n + 1, [], s, Q, hl, h => by cases hl
  | n + 1, x :: xs, s, Q, hl, h => by
    unfold drawOrder
    refine wpAny_bind (choose_ok (by simp) fun i d hi => ?_)
    rw [List.getElem?_eq_getElem hi]
    dsimp only
    refine wpAny_bind (draw_ok n _ _ _ (by rw [List.length_eraseIdx_of_lt hi, hl]; rfl) fun ys d' pm => ?_)
    exact wpAny_pure (h _ d' ((pm.cons _).trans (erase_perm hi)))
theorem pick_go {α : Type} (f : Nat → Nat) : ∀ (n k : Nat) (xs : List α) (out : Array α), xs.length = n → (pickOrder.go f n k xs out).toList.Perm (out.toList ++ xs)
  | 0, k, xs, out, hl => by
    have e : xs = [] := List.eq_nil_of_length_eq_zero hl
    subst e
    unfold pickOrder.go
    rw [List.append_nil]
  | n + 1, k, xs, out, hl => by
    unfold pickOrder.go
    have hi : f k % xs.length < xs.length := Nat.mod_lt _ (by omega)
    rw [List.getElem?_eq_getElem hi]
    dsimp only
    refine (pick_go f n (k + 1) _ _ (by rw [List.length_eraseIdx_of_lt hi, hl]; rfl)).trans ?_
    rw [Array.toList_push, List.append_assoc]
    exact List.Perm.append_left _ (erase_perm hi)
theorem pick_perm {α : Type} (f : Nat → Nat) (xs : Array α) : (pickOrder f xs).toList.Perm xs.toList := by
  have := pick_go f xs.size 0 xs.toList #[] (by simp)
  simpa [pickOrder] using this
end
end GX
namespace GX
open PySem PyProof.Rows
section
variable {prog : Program} {w : World} {A : Around} {E : Value → Shared → Prop} {s : Shared}
def sitO (first : Value) (i : Nat) (a : Addr) (n ep : Nat) : Obj := { cls := .type "set_iterator", dict := none, data := .fields #[first, .int i 0, .ref a, .int n 0, .int ep 0], slots := #[] }
theorem upd_fields {I : Addr} {first : Value} {i n ep : Nat} {a : Addr} (h : Heap) (hI : h.get? I = some (sitO first i a n ep)) (k : Nat) (x : Value) : (h.update I (Obj.mapFields (·.setIfInBounds k x))).get? I = some { cls := .type "set_iterator", dict := none, data := .fields ((#[first, .int i 0, .ref a, .int n 0, .int ep 0] : Array Value).setIfInBounds k x), slots := #[] } :=
  Heap.get?_update_self _ hI rfl
variable {I a : Addr} {o : Obj} {es : Array (Int × Value)} {ep : Nat} {t : SetTable} {i : Nat}
theorem sit_type {first : Value} (hI : s.heap.get? I = some (sitO first i a es.size ep)) : s.TypeIs (.ref I) "set_iterator" := ⟨_, hI, rfl⟩
theorem sit_item_int {sl : Int} {nx : Nat} {x : Value} {Q : Option Value → Shared → Prop} (hI : s.heap.get? I = some (sitO (.int sl 0) i a es.size ep)) (ho : s.heap.get? a = some o) (hd : o.data = .set es ep t) (hf : t.fits es.size = true)
    (hn : ∀ (A : Around) (E : Value → Shared → Prop) (Q' : Option (Value × Nat) → Shared → Prop), Q' (some (x, nx)) s → wpAny (model prog w) A (setNext a sl.toNat i ep) Q' E s)
    (h : ∀ h', h'.get? I = some (sitO (.int nx 0) (i + 1) a es.size ep) → Heap.SameBut I s.heap h' → Q (some x) { s with heap := h' }) : wpAny (model prog w) A (pyNext (.ref I)) Q E s := by
  unfold pyNext
  refine wpAny_bind (wpAny_attempt (wpAny_callSpecial?_slot (name := Str.ofString "__next__") (sit_type hI) sl_sit_next (wpAny_call_entry sl_sit_next (sit_type hI) en_sit_next ?_ (ar_sit_next _))))
  unfold Builtin.«set_iterator.__next__»
  refine wpAny_bind (wpAny_pure (wpAny_bind (wpAny_fieldsOf hI rfl ?_)))
  show wpAny _ _ (setEntries a >>= _) _ _ _
  refine wpAny_bind (wpAny_setEntries_of ho hd hf ?_)
  show wpAny _ _ (if (((es.size : Nat) : Int) != ((es.size : Nat) : Int)) = true then _ else _) _ _ _
  rw [if_neg (by simp)]
  show wpAny _ _ (setNext a sl.toNat ((i : Int)).toNat ((ep : Int)).toNat >>= _) _ _ _
  rw [Int.toNat_natCast, Int.toNat_natCast]
  refine wpAny_bind (hn _ _ _ ?_)
  show wpAny _ _ (setField (.ref I) 0 (rawInt nx) >>= _) _ _ _
  refine wpAny_bind (wpAny_setField hI rfl (by simp) ?_)
  have h1 := upd_fields s.heap hI 0 (rawInt nx)
  refine wpAny_bind (wpAny_setField (s := { s with heap := s.heap.update I (Obj.mapFields (·.setIfInBounds 0 (rawInt nx))) }) h1 rfl (by simp) ?_)
  refine wpAny_pure ⟨_, rfl, wpAny_pure (h _ ?_ ((Heap.SameBut.update ..).trans (Heap.SameBut.update ..)))⟩
  exact Heap.get?_update_self _ h1 rfl
theorem stop_now {M : Model} {Q : Fin → Shared → Prop} {E : Value → Shared → Prop} (hh : A.handled = none) (h : ∀ h' e, (∀ b o, s.heap.get? b = some o → h'.get? b = some o) → (∃ o, h'.get? e = some o ∧ o.cls = .type "StopIteration") → E (.ref e) { s with heap := h' }) :
    wpAny M A (newExc (.type "StopIteration") [] >>= fun e => raiseNew e) Q E s := by
  refine wpAny_bind ?_
  simp only [newExc, newTuple]
  refine wpAny_bind (wpAny_newObj_type ?_ (by size_fits))
  refine wpAny_bind (m := firstArgMember _ _) (wpAny_of_eq (a := Value.none) (by first | rfl | (simp only [firstArgMember]; rfl)) ?_)
  refine wpAny_newObj_type ?_ (by size_fits)
  refine wpAny_raiseNew_none hh (h _ _ (fun b o e => Heap.get?_push_of_some _ (Heap.get?_push_of_some _ e)) ⟨_, Heap.get?_push_size _ rfl, rfl⟩)
theorem sit_done_int {sl : Int} {Q : Option Value → Shared → Prop} (hh : A.handled = none) (hI : s.heap.get? I = some (sitO (.int sl 0) i a es.size ep)) (ho : s.heap.get? a = some o) (hd : o.data = .set es ep t) (hf : t.fits es.size = true)
    (hn : ∀ (A : Around) (E : Value → Shared → Prop) (Q' : Option (Value × Nat) → Shared → Prop), Q' none s → wpAny (model prog w) A (setNext a sl.toNat i ep) Q' E s)
    (h : ∀ h', (∀ b o, b ≠ I → s.heap.get? b = some o → h'.get? b = some o) → Q none { s with heap := h' }) : wpAny (model prog w) A (pyNext (.ref I)) Q E s := by
  unfold pyNext
  refine wpAny_bind (wpAny_attempt (wpAny_callSpecial?_slot (name := Str.ofString "__next__") (sit_type hI) sl_sit_next (wpAny_call_entry sl_sit_next (sit_type hI) en_sit_next ?_ (ar_sit_next _))))
  unfold Builtin.«set_iterator.__next__»
  refine wpAny_bind (wpAny_pure (wpAny_bind (wpAny_fieldsOf hI rfl ?_)))
  show wpAny _ _ (setEntries a >>= _) _ _ _
  refine wpAny_bind (wpAny_setEntries_of ho hd hf ?_)
  show wpAny _ _ (if (((es.size : Nat) : Int) != ((es.size : Nat) : Int)) = true then _ else _) _ _ _
  rw [if_neg (by simp)]
  show wpAny _ _ (setNext a sl.toNat ((i : Int)).toNat ((ep : Int)).toNat >>= _) _ _ _
  rw [Int.toNat_natCast, Int.toNat_natCast]
  refine wpAny_bind (hn _ _ _ ?_)
  show wpAny _ _ (setField (.ref I) 2 .none >>= _) _ _ _
  refine wpAny_bind (wpAny_setField hI rfl (by simp) ?_)
  refine stop_now (A := A.in1) hh fun h' e kp ⟨oe, q1, q2⟩ => ?_
  refine wpAny_bind (wpAny_isInstance (T := "StopIteration") (b := true) ⟨oe, q1, q2⟩ isSubtype_stop ?_)
  exact wpAny_pure (h h' fun b ob nb e => kp b ob ((Heap.get?_update_other _ _ (Ne.symm nb)).trans e))
theorem sit_item_tup {tp : Addr} {c : Nat} {ps : List Nat} {x : Value} {k : Nat} {hk : Int} {Q : Option Value → Shared → Prop} (hI : s.heap.get? I = some (sitO (.ref tp) i a es.size ep)) (ho : s.heap.get? a = some o) (hd : o.data = .set es ep t) (hf : t.fits es.size = true)
    (ht : s.heap.get? tp = some { cls := .type "tuple", dict := none, data := .seq (ps.map fun (i : Nat) => rawInt i).toArray c, slots := #[] }) (hp : ps[i]? = some k) (hx : es[k]? = some (hk, x))
    (h : ∀ h', h'.get? I = some (sitO (.ref tp) (i + 1) a es.size ep) → Heap.SameBut I s.heap h' → Q (some x) { s with heap := h' }) : wpAny (model prog w) A (pyNext (.ref I)) Q E s := by
  unfold pyNext
  refine wpAny_bind (wpAny_attempt (wpAny_callSpecial?_slot (name := Str.ofString "__next__") (sit_type hI) sl_sit_next (wpAny_call_entry sl_sit_next (sit_type hI) en_sit_next ?_ (ar_sit_next _))))
  unfold Builtin.«set_iterator.__next__»
  refine wpAny_bind (wpAny_pure (wpAny_bind (wpAny_fieldsOf hI rfl ?_)))
  show wpAny _ _ (setEntries a >>= _) _ _ _
  refine wpAny_bind (wpAny_setEntries_of ho hd hf ?_)
  show wpAny _ _ (if (((es.size : Nat) : Int) != ((es.size : Nat) : Int)) = true then _ else _) _ _ _
  rw [if_neg (by simp)]
  show wpAny _ _ (seqItems? (.ref tp) >>= _) _ _ _
  refine wpAny_bind (wpAny_seqItems ht rfl ?_)
  have e1 : ((ps.map fun (i : Nat) => rawInt i).toArray)[((i : Nat) : Int).toNat]? = some (.int k 0) := by
    rw [Int.toNat_natCast, List.getElem?_toArray, List.getElem?_map, hp]
    rfl
  dsimp only
  rw [e1]
  show wpAny _ _ (setNextDrawn a ((k : Nat) : Int).toNat ((ep : Nat) : Int).toNat >>= _) _ _ _
  rw [Int.toNat_natCast, Int.toNat_natCast]
  unfold setNextDrawn
  refine wpAny_bind (wpAny_bind (wpAny_setState_of ho hd hf ?_))
  show wpAny _ _ (if (ep != ep) = true then _ else _) _ _ _
  rw [if_neg (by simp)]
  refine wpAny_bind (wpAny_pure ?_)
  rw [hx]
  refine wpAny_pure ?_
  show wpAny _ _ (setField (.ref I) 1 (rawInt ((i : Int) + 1)) >>= _) _ _ _
  refine wpAny_bind (wpAny_setField hI rfl (by simp) (wpAny_pure ⟨_, rfl, wpAny_pure (h _ ?_ (Heap.SameBut.update ..))⟩))
  exact upd_fields s.heap hI 1 (rawInt ((i : Int) + 1))
theorem sit_done_tup {tp : Addr} {c : Nat} {ps : List Nat} {Q : Option Value → Shared → Prop} (hh : A.handled = none) (hI : s.heap.get? I = some (sitO (.ref tp) i a es.size ep)) (ho : s.heap.get? a = some o) (hd : o.data = .set es ep t) (hf : t.fits es.size = true)
    (ht : s.heap.get? tp = some { cls := .type "tuple", dict := none, data := .seq (ps.map fun (i : Nat) => rawInt i).toArray c, slots := #[] }) (hp : ps[i]? = none)
    (h : ∀ h', (∀ b o, b ≠ I → s.heap.get? b = some o → h'.get? b = some o) → Q none { s with heap := h' }) : wpAny (model prog w) A (pyNext (.ref I)) Q E s := by
  unfold pyNext
  refine wpAny_bind (wpAny_attempt (wpAny_callSpecial?_slot (name := Str.ofString "__next__") (sit_type hI) sl_sit_next (wpAny_call_entry sl_sit_next (sit_type hI) en_sit_next ?_ (ar_sit_next _))))
  unfold Builtin.«set_iterator.__next__»
  refine wpAny_bind (wpAny_pure (wpAny_bind (wpAny_fieldsOf hI rfl ?_)))
  show wpAny _ _ (setEntries a >>= _) _ _ _
  refine wpAny_bind (wpAny_setEntries_of ho hd hf ?_)
  show wpAny _ _ (if (((es.size : Nat) : Int) != ((es.size : Nat) : Int)) = true then _ else _) _ _ _
  rw [if_neg (by simp)]
  show wpAny _ _ (seqItems? (.ref tp) >>= _) _ _ _
  refine wpAny_bind (wpAny_seqItems ht rfl ?_)
  have e1 : ((ps.map fun (i : Nat) => rawInt i).toArray)[((i : Nat) : Int).toNat]? = none := by
    rw [Int.toNat_natCast, List.getElem?_toArray, List.getElem?_map, hp]
    rfl
  dsimp only
  rw [e1]
  show wpAny _ _ (setField (.ref I) 0 (rawInt 0) >>= _) _ _ _
  refine wpAny_bind (wpAny_setField hI rfl (by simp) ?_)
  have h1 := upd_fields s.heap hI 0 (rawInt 0)
  refine wpAny_bind (wpAny_setField (s := { s with heap := s.heap.update I (Obj.mapFields (·.setIfInBounds 0 (rawInt 0))) }) h1 rfl (by simp) ?_)
  refine stop_now (A := A.in1) hh fun h' e kp ⟨oe, q1, q2⟩ => ?_
  refine wpAny_bind (wpAny_isInstance (T := "StopIteration") (b := true) ⟨oe, q1, q2⟩ isSubtype_stop ?_)
  exact wpAny_pure (h h' fun b ob nb e => kp b ob ((Heap.get?_update_other _ _ (Ne.symm nb)).trans ((Heap.get?_update_other _ _ (Ne.symm nb)).trans e)))
theorem next_text {sl : Nat} {Q : Option (Value × Nat) → Shared → Prop} (b : byT w = true) (ho : s.heap.get? a = some o) (hd : o.data = .set es ep t) (hf : t.fits es.size = true)
    (h : Q (((pickOrder (w.params.setOrder a ep) es)[i]?).map fun e => (e.2, sl)) s) : wpAny (model prog w) A (setNext a sl i ep) Q E s := by
  have hb : w.params.followText "set-order" = true := b
  unfold setNext
  refine wpAny_bind (wpAny_setState_of ho hd hf (wpAny_bind (wpAny_bind (wpAny_askSetting (wpAny_pure ?_)))))
  show wpAny _ _ (if w.params.followText "set-order" = true then _ else _) _ _ _
  rw [hb, if_pos rfl]
  show wpAny _ _ (if (ep != ep) = true then _ else _) _ _ _
  rw [if_neg (by simp)]
  refine wpAny_bind ?_
  unfold setWalk
  refine wpAny_bind (wpAny_setState_of ho hd hf (wpAny_bind (wpAny_bind (wpAny_askSetting (wpAny_pure ?_)))))
  show wpAny _ _ (if w.params.followText "set-order" = true then _ else _) _ _ _
  rw [hb, if_pos rfl]
  exact wpAny_bind (wpAny_askSetting (wpAny_pure (wpAny_pure h)))
theorem next_led {sl : Nat} {Q : Option (Value × Nat) → Shared → Prop} (b : byT w = false) (d : (!t.plain && decide (es.size > 1)) = false) (hl : t.led = true) (ho : s.heap.get? a = some o) (hd : o.data = .set es ep t) (hf : t.fits es.size = true)
    (h : Q (match es[SetTable.below t.place sl]?, t.place[SetTable.below t.place sl]? with | some (_, x), some j => some (x, j + 1) | _, _ => none) s) : wpAny (model prog w) A (setNext a sl i ep) Q E s := by
  have hb : w.params.followText "set-order" = false := b
  unfold setNext
  refine wpAny_bind (wpAny_setState_of ho hd hf (wpAny_bind (wpAny_bind (wpAny_askSetting (wpAny_pure ?_)))))
  show wpAny _ _ (if w.params.followText "set-order" = true then _ else _) _ _ _
  rw [hb, if_neg Bool.false_ne_true]
  refine wpAny_bind (wpAny_pure ?_)
  show wpAny _ _ (if (!t.plain && decide (es.size > 1)) = true then _ else _) _ _ _
  rw [d, if_neg Bool.false_ne_true]
  refine wpAny_bind ?_
  show wpAny _ _ (if (!t.led && !es.isEmpty) = true then _ else _) _ _ _
  rw [hl]
  show wpAny _ _ (if (false && !es.isEmpty) = true then _ else _) _ _ _
  rw [Bool.false_and, if_neg Bool.false_ne_true]
  exact wpAny_pure (wpAny_pure h)
end
end GX
set_option Elab.async false
set_option linter.all false
set_option maxRecDepth 100000
namespace GX
open PySem PyProof.Rows
section
variable {prog : Program} {w : World} {A : Around} {E : Value → Shared → Prop} {s : Shared} {I a : Addr} {o : Obj} {es : Array (Int × Value)} {ep : Nat} {t : SetTable}
theorem sit_self {i : Nat} {first : Value} {Q : Value → Shared → Prop} (hI : s.heap.get? I = some (sitO first i a es.size ep)) (h : Q (.ref I) s) : wpAny (model prog w) A (pyIter (.ref I)) Q E s := by
  refine wpAny_pyIter_slot (sit_type hI) sl_sit_iter (wpAny_call_entry sl_sit_iter (sit_type hI) en_sit_iter ?_ (ar_sit_iter _))
  show wpAny _ _ (ret (.ref I)) _ _ s
  exact wpAny_pure ⟨_, rfl, "set_iterator", _, sit_type hI, sl_sit_next.lookup, h⟩
theorem walk_text (hh : A.handled = none) (b : byT w = true) (hd : o.data = .set es ep t) (hf : t.fits es.size = true) (ne : a ≠ I) :
    Walks prog w A I [I, a] [I] ((pickOrder (w.params.setOrder a ep) es).toList.map (·.2)).length (fun i v => ((pickOrder (w.params.setOrder a ep) es).toList.map (·.2))[i]? = some v)
      (fun i h => (∃ sl : Nat, h.get? I = some (sitO (.int sl 0) i a es.size ep)) ∧ h.get? a = some o) where
  sub := fun b hb => List.mem_singleton.mp hb ▸ List.mem_cons_self
  frame := fun i h h' st hk => ⟨let ⟨sl, e⟩ := st.1; ⟨sl, hk I (by simp) _ e⟩, hk a (by simp) _ st.2⟩
  item := fun i s _ _ hi st hQ => by
    obtain ⟨⟨sl, hI⟩, ho⟩ := st
    have hi' : i < (pickOrder (w.params.setOrder a ep) es).size := by simpa using hi
    refine sit_item_int (x := ((pickOrder (w.params.setOrder a ep) es)[i]).2) (nx := sl) hI ho hd hf (fun A E Q' q => next_text b ho hd hf ?_) fun h' e sb => hQ _ h' s.toks ?_ ⟨⟨sl, e⟩, (sb.2 a ne).trans ho⟩ fun c oc nc ec => (sb.2 c (fun z => nc (by simp [z]))).trans ec
    · rw [Array.getElem?_eq_getElem hi']
      exact q
    · rw [List.getElem?_map, Array.getElem?_toList, Array.getElem?_eq_getElem hi']
      rfl
  done := fun s Q E st hQ => by
    obtain ⟨⟨sl, hI⟩, ho⟩ := st
    refine sit_done_int hh hI ho hd hf (fun A E Q' q => next_text b ho hd hf ?_) fun h' kp => hQ h' s.toks fun c oc nc ec => kp c oc (fun z => nc (by simp [z])) ec
    rw [Array.getElem?_eq_none (by simp)]
    exact q
  self := fun i s Q E st hQ => let ⟨⟨_, hI⟩, _⟩ := st; sit_self hI hQ
theorem walk_led (hh : A.handled = none) (b : byT w = false) (d : (!t.plain && decide (es.size > 1)) = false) (tb : Tb (!byT w) t) (hd : o.data = .set es ep t) (hf : t.fits es.size = true) (ne : a ≠ I) :
    Walks prog w A I [I, a] [I] (es.toList.map (·.2)).length (fun i v => (es.toList.map (·.2))[i]? = some v)
      (fun i h => (∃ sl : Nat, SetTable.below t.place sl = i ∧ h.get? I = some (sitO (.int sl 0) i a es.size ep)) ∧ h.get? a = some o) where
  sub := fun b hb => List.mem_singleton.mp hb ▸ List.mem_cons_self
  frame := fun i h h' st hk => ⟨let ⟨sl, e1, e⟩ := st.1; ⟨sl, e1, hk I (by simp) _ e⟩, hk a (by simp) _ st.2⟩
  item := fun i s _ _ hi st hQ => by
    obtain ⟨⟨sl, e1, hI⟩, ho⟩ := st
    have hi' : i < es.size := by simpa using hi
    have hl : t.led = true := by rw [tb.2, b]; rfl
    have hp : t.place.size = es.size := by
      simp only [SetTable.fits, Bool.and_eq_true, beq_iff_eq, decide_eq_true_eq] at hf
      exact hf.1
    have hip : i < t.place.size := by omega
    refine sit_item_int (x := (es[i]).2) (nx := t.place.getD i 0 + 1) hI ho hd hf (fun A E Q' q => next_led b d hl ho hd hf ?_) fun h' e sb => hQ _ h' s.toks ?_ ⟨⟨t.place.getD i 0 + 1, below_next tb.1 hip, e⟩, (sb.2 a ne).trans ho⟩ fun c oc nc ec => (sb.2 c (fun z => nc (by simp [z]))).trans ec
    · rw [Int.toNat_natCast, e1, Array.getElem?_eq_getElem hi', Array.getElem?_eq_getElem hip]
      rw [Array.getD_eq_getD_getElem?, Array.getElem?_eq_getElem hip] at q
      exact q
    · rw [List.getElem?_map, Array.getElem?_toList, Array.getElem?_eq_getElem hi']
      rfl
  done := fun s Q E st hQ => by
    obtain ⟨⟨sl, e1, hI⟩, ho⟩ := st
    have hl : t.led = true := by rw [tb.2, b]; rfl
    refine sit_done_int hh hI ho hd hf (fun A E Q' q => next_led b d hl ho hd hf ?_) fun h' kp => hQ h' s.toks fun c oc nc ec => kp c oc (fun z => nc (by simp [z])) ec
    rw [Int.toNat_natCast, e1, Array.getElem?_eq_none (by simp)]
    exact q
  self := fun i s Q E st hQ => let ⟨⟨_, _, hI⟩, _⟩ := st; sit_self hI hQ
theorem walk_drawn {tp : Addr} {c : Nat} {ps : List Nat} (hh : A.handled = none) (pm : ps.Perm (List.range es.size)) (hd : o.data = .set es ep t) (hf : t.fits es.size = true) (ne : a ≠ I) (nt : tp ≠ I) :
    Walks prog w A I [I, a, tp] [I] (ps.map fun i => (es.getD i (0, .none)).2).length (fun i v => (ps.map fun i => (es.getD i (0, .none)).2)[i]? = some v)
      (fun i h => h.get? I = some (sitO (.ref tp) i a es.size ep) ∧ h.get? a = some o ∧ h.get? tp = some { cls := .type "tuple", dict := none, data := .seq (ps.map fun (i : Nat) => rawInt i).toArray c, slots := #[] }) where
  sub := fun b hb => List.mem_singleton.mp hb ▸ List.mem_cons_self
  frame := fun i h h' st hk => ⟨hk I (by simp) _ st.1, hk a (by simp) _ st.2.1, hk tp (by simp) _ st.2.2⟩
  item := fun i s _ _ hi st hQ => by
    obtain ⟨hI, ho, ht⟩ := st
    rw [List.length_map] at hi
    have hm : ps[i] < es.size := List.mem_range.mp (pm.mem_iff.mp (List.getElem_mem hi))
    refine sit_item_tup (x := (es[ps[i]]).2) (hk := (es[ps[i]]).1) hI ho hd hf ht (List.getElem?_eq_getElem hi) (Array.getElem?_eq_getElem hm) fun h' e sb => hQ _ h' s.toks ?_ ⟨e, (sb.2 a ne).trans ho, (sb.2 tp nt).trans ht⟩ fun c oc nc ec => (sb.2 c (fun z => nc (by simp [z]))).trans ec
    rw [List.getElem?_map, List.getElem?_eq_getElem hi, Option.map_some, Array.getD_eq_getD_getElem?, Array.getElem?_eq_getElem hm]
    rfl
  done := fun s Q E st hQ => by
    obtain ⟨hI, ho, ht⟩ := st
    exact sit_done_tup hh hI ho hd hf ht (List.getElem?_eq_none (by rw [List.length_map]; exact Nat.le_refl _)) fun h' kp => hQ h' s.toks fun c oc nc ec => kp c oc (fun z => nc (by simp [z])) ec
  self := fun i s Q E st hQ => sit_self st.1 hQ
theorem getD_range (es : Array (Int × Value)) : (List.range es.size).map (fun i => (es.getD i (0, Value.none)).2) = es.toList.map (·.2) := by
  apply List.ext_getElem?
  intro i
  rw [List.getElem?_map, List.getElem?_map, Array.getElem?_toList (xs := es)]
  by_cases h : i < es.size
  · rw [List.getElem?_eq_getElem (by rw [List.length_range]; exact h), List.getElem_range, Option.map_some, Array.getD_eq_getD_getElem?, Array.getElem?_eq_getElem h]
    rfl
  · rw [List.getElem?_eq_none (by rw [List.length_range]; omega), Array.getElem?_eq_none (by omega)]
    rfl
theorem set_iter (hh : A.handled = none) (ho : s.heap.get? a = some o) (hx : o.ExactSet) (hd : o.data = .set es ep t) (hf : t.fits es.size = true) (hb : es.size < scanBound) (tb : Tb (!byT w) t) {Q : Value → Shared → Prop}
    (h : ∀ (h' : Heap) (d' : Drawn) (I : Addr) (fp : List Addr) (vs : List Value) (St : Nat → Heap → Prop), (∀ b o, s.heap.get? b = some o → h'.get? b = some o) → s.heap.objs.size ≤ I → (∀ b ∈ fp, b = a ∨ s.heap.objs.size ≤ b) → vs.Perm (es.toList.map (·.2)) →
      (∀ A : Around, A.handled = none → Walks prog w A I fp [I] vs.length (fun i v => vs[i]? = some v) St) → St 0 h' → Q (.ref I) { s with heap := h', drawn := d' }) : wpAny (model prog w) A (pyIter (.ref a)) Q E s := by
  have hT : s.TypeIs (.ref a) "set" := ⟨o, ho, hx.1⟩
  have la := Heap.lt_size ho
  refine wpAny_pyIter_slot hT PySem.F.slot_set_iter (wpAny_call_entry PySem.F.slot_set_iter hT en_set_iter ?_ (PySem.F.args_set_iter_1 _))
  unfold Builtin.«frozenset.__iter__» Builtin.Frozenset.slot0 Builtin.Frozenset.addrOf Builtin.Frozenset.sizeOf
  refine wpAny_bind (wpAny_bind (wpAny_pure (wpAny_pure (wpAny_bind (wpAny_bind (wpAny_setEntries_of ho hd hf (wpAny_pure ?_)))))))
  refine wpAny_bind ?_
  unfold setDrawn
  refine wpAny_bind (wpAny_setState_of ho hd hf (wpAny_bind (wpAny_bind (wpAny_askSetting (wpAny_pure (wpAny_pure ?_))))))
  show wpAny _ _ (if (!byT w && (!t.plain && decide (es.size > 1))) = true then _ else _) _ _ _
  cases hc : (!byT w && (!t.plain && decide (es.size > 1))) with
  | false =>
    rw [if_neg Bool.false_ne_true]
    refine wpAny_bind (wpAny_pure (wpAny_bind ?_))
    unfold setEpoch
    refine wpAny_bind (wpAny_setState_of ho hd hf (wpAny_pure ?_))
    refine wpAny_bind (wpAny_newObj_type (wpAny_pure ⟨_, rfl, "set_iterator", _, ⟨_, Heap.get?_push_size _ rfl, rfl⟩, sl_sit_next.lookup, ?_⟩))
    have nI : a ≠ s.heap.objs.size := Nat.ne_of_lt la
    have fpok : ∀ b ∈ [s.heap.objs.size, a], b = a ∨ s.heap.objs.size ≤ b := fun b hb => by
      simp only [List.mem_cons, List.not_mem_nil, or_false] at hb
      rcases hb with z | z
      · exact .inr (Nat.le_of_eq z.symm)
      · exact .inl z
    cases hT : byT w with
    | true =>
      refine h _ s.drawn s.heap.objs.size [s.heap.objs.size, a] _ _ (fun b o e => Heap.get?_push_of_some _ e) (Nat.le_refl _) fpok ((pick_perm (w.params.setOrder a ep) es).map _) (fun A hA => walk_text hA hT hd hf nI) ⟨⟨0, Heap.get?_push_size _ rfl⟩, Heap.get?_push_of_some _ ho⟩
    | false =>
      have hc' : (!t.plain && decide (es.size > 1)) = false := by rw [hT] at hc; exact hc
      refine h _ s.drawn s.heap.objs.size [s.heap.objs.size, a] _ _ (fun b o e => Heap.get?_push_of_some _ e) (Nat.le_refl _) fpok (.refl _) (fun A hA => walk_led hA hT hc' tb hd hf nI) ⟨⟨0, below_zero tb.1, Heap.get?_push_size _ rfl⟩, Heap.get?_push_of_some _ ho⟩
  | true =>
    rw [if_pos rfl]
    refine wpAny_bind (draw_ok es.size (List.range es.size) s _ (by rw [List.length_range]) fun ps d' pm => wpAny_bind ?_)
    refine wpAny_newTuple (wpAny_bind ?_) ?_
    · unfold setEpoch
      have ho' : (s.heap.push { cls := .type "tuple", data := .seq (ps.map fun (i : Nat) => rawInt i).toArray }).get? a = some o := Heap.get?_push_of_some _ ho
      refine wpAny_bind (wpAny_setState_of ho' hd hf (wpAny_pure ?_))
      refine wpAny_bind (wpAny_newObj_type (wpAny_pure ⟨_, rfl, "set_iterator", _, ⟨_, Heap.get?_push_size _ rfl, rfl⟩, sl_sit_next.lookup, ?_⟩))
      have sz : (s.heap.push { cls := .type "tuple", data := .seq (ps.map fun (i : Nat) => rawInt i).toArray }).objs.size = s.heap.objs.size + 1 := Heap.size_push ..
      refine h _ d' (s.heap.push { cls := .type "tuple", data := .seq (ps.map fun (i : Nat) => rawInt i).toArray }).objs.size [(s.heap.push { cls := .type "tuple", data := .seq (ps.map fun (i : Nat) => rawInt i).toArray }).objs.size, a, s.heap.objs.size] (ps.map fun i => (es.getD i (0, .none)).2) _
        (fun b o e => Heap.get?_push_of_some _ (Heap.get?_push_of_some _ e)) (by rw [sz]; exact Nat.le_succ _) (fun b hb => ?_) ?_ (fun A hA => walk_drawn (c := 0) hA pm hd hf (by rw [sz]; exact Nat.ne_of_lt (Nat.lt_succ_of_lt la)) (by rw [sz]; exact Nat.ne_of_lt (Nat.lt_succ_self _)))
        ⟨Heap.get?_push_size _ rfl, Heap.get?_push_of_some _ ho', Heap.get?_push_of_some _ (Heap.get?_push_size _ rfl)⟩
      · simp only [List.mem_cons, List.not_mem_nil, or_false] at hb
        rcases hb with z | z | z
        · exact .inr (by rw [z, sz]; exact Nat.le_succ _)
        · exact .inl z
        · exact .inr (Nat.le_of_eq z.symm)
      · exact (pm.map _).trans (by rw [getD_range])
    · rw [List.length_map, pm.length_eq, List.length_range]
      exact fits_of_scanBound hb
end
end GX
set_option Elab.async false
set_option linter.all false
set_option maxRecDepth 100000
namespace GX
open PySem PyProof.Rows
theorem perm_of_nd {α : Type} [DecidableEq α] : ∀ {l m : List α}, l.Nodup → (∀ x ∈ l, x ∈ m) → m.length ≤ l.length → m.Perm l
  | [], m, _, _, h => by
    have e : m = [] := List.eq_nil_of_length_eq_zero (Nat.le_zero.mp h)
    rw [e]
  | x :: l, m, nd, sub, h => by
    rw [List.nodup_cons] at nd
    have hx := sub x List.mem_cons_self
    have pm := List.perm_cons_erase hx
    refine pm.trans (List.Perm.cons x (perm_of_nd nd.2 (fun y hy => ?_) ?_))
    · have hy' := sub y (List.mem_cons_of_mem _ hy)
      exact (List.mem_erase_of_ne (show y ≠ x from fun z => nd.1 (z ▸ hy))).mpr hy'
    · have := pm.length_eq
      rw [List.length_cons] at this h
      omega
theorem firstMet_nd (val : Nat → Int) : ∀ i, (firstMet val i).Nodup
  | 0 => List.nodup_nil
  | i + 1 => by
    rw [firstMet_succ]
    unfold step_dedup
    have ih := firstMet_nd val i
    by_cases h : List.any (firstMet val i) (· == val i)
    · rw [if_pos h]
      exact ih
    · rw [if_neg h, List.nodup_append]
      refine ⟨ih, by simp, fun x hx y hy e => h ?_⟩
      rw [List.any_eq_true]
      refine ⟨x, hx, ?_⟩
      have e2 := List.mem_singleton.mp hy
      rw [e, e2, beq_self_eq_true]
theorem firstMet_mem (val : Nat → Int) (i : Nat) (k : Int) : k ∈ firstMet val i ↔ ∃ j, j < i ∧ val j = k := by
  have h := firstMet_any val i k
  rw [Bool.eq_iff_iff, List.any_eq_true, List.any_eq_true] at h
  constructor
  · intro z
    obtain ⟨x, hx, e⟩ := h.mp ⟨k, z, by simp⟩
    obtain ⟨j, hj, ej⟩ := List.mem_map.mp hx
    exact ⟨j, List.mem_range.mp hj, by rw [ej]; simpa using e⟩
  · rintro ⟨j, hj, e⟩
    obtain ⟨x, hx, e2⟩ := h.mpr ⟨val j, List.mem_map.mpr ⟨j, List.mem_range.mpr hj, rfl⟩, by simp [e]⟩
    have : x = k := by simpa using e2
    rw [← this]
    exact hx
section
variable {prog : Program} {w : World} {A : Around} {E : Value → Shared → Prop} {s : Shared} {a : Addr} {o : Obj} {es : Array (Int × Value)} {ep : Nat} {t : SetTable}
theorem elems_ints : ∀ {l : List (Int × Value)}, ElemsOf (intKind prog w) l → ∃ ns, IntsAre (l.map (·.2)) ns ∧ ∀ k, k ∈ ns ↔ ∃ e ∈ l, (intKind prog w).is k e.2 = true
  | [], _ => ⟨[], .nil, fun k => by simp⟩
  | e :: l, h => by
    obtain ⟨ns, h1, h2⟩ := elems_ints h.tail
    obtain ⟨⟨k, hk, _⟩, _⟩ := h.head
    obtain ⟨t, et⟩ := Value.isInt_shape (k := k) (v := e.2) hk
    refine ⟨k :: ns, ?_, fun j => ?_⟩
    · rw [List.map_cons, et]
      exact .cons k t h1
    · rw [List.mem_cons, h2 j]
      constructor
      · rintro (z | ⟨e', he, q⟩)
        · exact ⟨e, List.mem_cons_self, by rw [z]; exact hk⟩
        · exact ⟨e', List.mem_cons_of_mem _ he, q⟩
      · rintro ⟨e', he, q⟩
        rcases List.mem_cons.mp he with z | z
        · rw [z] at q
          exact .inl ((intKind prog w).inj e.2 j k q hk)
        · exact .inr ⟨e', z, q⟩
theorem ints_perm {vs us : List Value} {ns : List Int} (pm : vs.Perm us) (h : IntsAre us ns) : ∃ ms, IntsAre vs ms ∧ ms.Perm ns := by
  induction pm generalizing ns with
  | nil => exact ⟨ns, h, .refl _⟩
  | cons x p ih =>
    cases h with
    | cons n t hr =>
      obtain ⟨ms, h1, h2⟩ := ih hr
      exact ⟨n :: ms, .cons n t h1, h2.cons n⟩
  | swap x y l =>
    cases h with
    | cons n t hr =>
      cases hr with
      | cons m u hr => exact ⟨_, .cons m u (.cons n t hr), List.Perm.swap ..⟩
  | trans p q ih1 ih2 =>
    obtain ⟨ms, h1, h2⟩ := ih2 h
    obtain ⟨ks, h3, h4⟩ := ih1 h1
    exact ⟨ks, h3, h4.trans h2⟩
theorem hint_set {Q : Bool → Shared → Prop} (hT : s.TypeIs (.ref a) "set") (h : Q false s) : wpAny (model prog w) A (Builtin.List.listLengthHint (.ref a)) Q E s := by
  show wpAny _ _ (specialOf (.ref a) "__len__" >>= _) _ _ s
  refine wpAny_bind (wpAny_specialOf hT PySem.F.slot_set_len.lookup ?_)
  generalize hid : ("set.__len__" : String) = id0
  wp_delta
  rw [show splitId id0 = some ("set", "__len__") from by subst hid; decide +kernel]
  subst hid
  refine wpAny_bind (wpAny_isInstance (T := "set") (b := true) hT (by rw [isSubtype_type]; kernel_rfl) ?_)
  refine wpAny_ite_split (fun z => absurd z (by decide)) (fun _ => ?_)
  refine wpAny_ite_split (fun _ => ?_) (fun z => absurd (by decide +kernel) z)
  exact wpAny_bind (wpAny_typeOf hT (wpAny_pure h))
theorem enters {id : String} {B : Builtin} {args : Args} {R : Result → Shared → Prop} (he : entryFor table id = some B) (hp : plainId id = true)
    (h : wpAny (model prog w) A.in1 (B args) (fun f s1 => match f with | .done f => R (.ok f) s1 | .again c => c.quiet = true ∧ codeAny (model prog w) A c R s1) (fun e s1 => R (.error e) s1) s) : codeAny (model prog w) A (.builtin id args) R s :=
  codeAny_builtin he (by rw [Around.under_plainId hp]; exact h)
theorem set_collect {S : Int → Bool} {n : Nat} {R : List Value → Shared → Prop} (hh : A.handled = none) (x : SetI prog w s.heap a S n)
    (h : ∀ (h' : Heap) (d' : Drawn) (tk : Nat) (vs : List Value) (ns : List Int), (∀ b o, s.heap.get? b = some o → h'.get? b = some o) → IntsAre vs ns → ns.length = n → (∀ k, k ∈ ns ↔ S k = true) → R vs { s with heap := h', drawn := d', toks := tk }) :
    wpAny (model prog w) A (collect (.ref a)) R E s := by
  obtain ⟨o, es, ep, t, ho, hx, hd, he, hm, hb, hf, hn, tb⟩ := x
  have la := Heap.lt_size ho
  unfold collect
  refine wpAny_bind (wpAny_runValue (enters entry_proto_collect' PySem.F.plain_proto_collect (wpAny_bind (wpAny_newObj_type (wpAny_pure ⟨plainId_quiet PySem.F.plain_list_iadd _, enters entry_list_iadd' PySem.F.plain_list_iadd ?_⟩)))))
  have hS1 : (s.heap.push { cls := .type "list", data := .seq ([] : List Value).toArray }).get? s.heap.objs.size = some { cls := .type "list", data := .seq #[] } := Heap.get?_push_size _ rfl
  have ho1 : (s.heap.push { cls := .type "list", data := .seq ([] : List Value).toArray }).get? a = some o := Heap.get?_push_of_some _ ho
  have sz1 : (s.heap.push { cls := .type "list", data := .seq ([] : List Value).toArray }).objs.size = s.heap.objs.size + 1 := Heap.size_push ..
  have kp1 : ∀ b ob, s.heap.get? b = some ob → (s.heap.push { cls := .type "list", data := .seq ([] : List Value).toArray }).get? b = some ob := fun b ob e => Heap.get?_push_of_some _ e
  show wpAny _ A.in1 (Builtin.List.listExtendWith (.ref s.heap.objs.size) (.ref a) (.ref s.heap.objs.size)) _ _ _
  generalize s.heap.push { cls := .type "list", data := .seq ([] : List Value).toArray } = H1 at hS1 ho1 sz1 kp1 ⊢
  show wpAny _ _ (typeOf (.ref a) >>= _) _ _ _
  refine wpAny_bind (wpAny_typeOf (T := "set") ⟨o, ho1, hx.1⟩ ?_)
  have n1 : Builtin.List.listSameRef (.ref s.heap.objs.size) (.ref a) = false := by simp [Builtin.List.listSameRef, Nat.ne_of_gt la]
  have n2 : (Value.type "set" == Value.type "list") = false := by decide
  have n3 : (Value.type "set" == Value.type "tuple") = false := by decide
  simp only [n1, n2, n3, Bool.or_false, Bool.false_eq_true, if_false]
  refine wpAny_bind (set_iter (s := { s with heap := H1 }) (A := A.in1) hh ho1 hx hd hf hb tb fun h2 d2 I fp vs St k2 lI fpk pm W st => ?_)
  refine wpAny_bind (wpAny_holding (hint_set (s := { s with heap := h2, drawn := d2 }) ⟨o, k2 _ _ ho1, hx.1⟩ ?_))
  have hS2 := k2 _ _ hS1
  have nf : s.heap.objs.size ∉ fp := fun z => by
    rcases fpk _ z with q | q
    · exact absurd la (by rw [← q]; exact Nat.lt_irrefl _)
    · rw [sz1] at q
      exact absurd q (Nat.not_succ_le_self _)
  have hlen : vs.length = n := by rw [pm.length_eq, List.length_map, Array.length_toList, hn]
  have nz : vs.length ≤ sizeLine := by rw [hlen, ← hn]; exact fits_of_scanBound hb
  refine wpAny_ite_split (fun _ => ?_) (fun z => absurd (by decide) z)
  refine wpAny_bind (wpAny_rule (wpAny_bind ?_))
  show wpAny _ _ (updateSeq s.heap.objs.size (·.push .none) >>= fun _ => updateSeq s.heap.objs.size (·.pop)) _ _ _
  refine wpAny_bind (wpAny_updateSeq hS2 rfl ?_)
  have hS3 := Heap.get?_update_self (Obj.mapSeq (·.push Value.none)) hS2 rfl
  refine wpAny_updateSeq (hz := by seq_fits) hS3 rfl ?_
  have hS4 := Heap.get?_update_self (Obj.mapSeq (·.pop)) hS3 rfl
  have oth : ∀ b ob, b ≠ s.heap.objs.size → h2.get? b = some ob → ((h2.update s.heap.objs.size (Obj.mapSeq (·.push Value.none))).update s.heap.objs.size (Obj.mapSeq (·.pop))).get? b = some ob := fun b ob nb e => (Heap.get?_update_other _ _ (Ne.symm nb)).trans ((Heap.get?_update_other _ _ (Ne.symm nb)).trans e)
  refine wpAny_pure ⟨plainId_quiet PySem.F.plain_extend_loop _, codeAny_extend_loopS (W A.in1 hh).toS nz _ nf _ vs.length 0 _ #[] _ rfl (Nat.zero_le _) ((W A.in1 hh).frame 0 _ _ st fun b hb ob e => oth b ob (fun z => nf (z ▸ hb)) e) hS4 (ItemsOf.nil _) fun s' acc c' hmv hS' hacc => ?_⟩
  apply wpAny_bind (wpAny_load hS' _)
  have ea : acc.toList = vs := by
    apply List.ext_getElem?
    intro j
    rw [Array.getElem?_toList]
    by_cases hj : j < acc.size
    · rw [Array.getElem?_eq_getElem hj]
      exact (hacc.2 j _ (Array.getElem?_eq_getElem hj)).symm
    · rw [Array.getElem?_eq_none (by omega), List.getElem?_eq_none (by rw [← hacc.1]; omega)]
  obtain ⟨ns0, q1, q2⟩ := elems_ints he
  obtain ⟨ns, q3, q4⟩ := ints_perm pm q1
  have ln : ns.length = n := by rw [← q3.length, hlen]
  have := h s'.heap s'.drawn s'.toks vs ns (fun b ob e => hmv.heap b ob (fun z => ?_) (oth b ob (Nat.ne_of_lt (Heap.lt_size e)) (k2 b ob (kp1 b ob e)))) q3 ln (fun k => by rw [q4.mem_iff, q2 k, hm k])
  · obtain ⟨h', g', d', t', os'⟩ := s'
    have eg : g' = s.gens := hmv.gens
    have eo : os' = s.os := hmv.os
    subst eg eo
    show wpAny _ A (pure acc.toList) _ _ _
    rw [ea]
    exact wpAny_pure this
  · have l1 := Heap.lt_size e
    rcases List.mem_cons.mp z with z | z
    · rw [z] at l1
      exact Nat.lt_irrefl _ l1
    · rw [List.mem_singleton.mp z] at l1
      have q : H1.objs.size ≤ I := lI
      rw [sz1] at q
      exact absurd l1 (Nat.not_lt.mpr (Nat.le_trans (Nat.le_succ _) q))
end
end GX
set_option Elab.async false
set_option linter.all false
set_option maxRecDepth 100000
namespace L2
open PySem PySem.Spec PyProof.Rows
def SetO (P : Program) (w : World) (a : Addr) (ks : List Int) : HO := .ext fun h => GX.SetI P w h a (fun k => ks.any (· == k)) ks.length
section
variable {X : Cx}
theorem Inv.draw {pins : List (Addr × Obj)} {σ : St} {H : Hp} {s : Shared} (I : Inv X pins σ H s) (d : Drawn) : Inv X pins σ H { s with drawn := d } := ⟨I.ok, I.os, I.bare, I.base, I.loc, I.cell, I.free, I.freeC, I.pin, I.hok, I.len⟩
theorem call_setI (hc : X.calm = true) : CallR X (.type "set") (fun xs H Q => ∃ (p : Addr) (ns : List Int), xs = [.ref p] ∧ SqL X.K H p (ns.map V.int) ∧ ns.length ≤ 1000 ∧ ∀ (q : Addr) (ks : List Int), H q = none → ks.Nodup → (∀ k, k ∈ ks ↔ k ∈ ns) → Q (.ref q) (upd H q (SetO X.prog X.w q ks))) := by
  intro pins s σ H xs us Q I r h
  obtain ⟨p, ns, rfl, hq, hz, q⟩ := h
  obtain ⟨u, rfl, rx⟩ := vals1 r
  cases rx
  obtain ⟨its, rv, pl, hzz⟩ := I.list hq
  have hi : IntsAre its ns := intsAre_of rv
  have hl : its.length = ns.length := hi.length
  refine GX.set_of_list (items := its.toArray) (ns := ns) (I.ok.hd hc) pl.isList (by simpa using hi) (by rw [List.size_toArray, hl]; unfold scanBound; omega) fun h' tk x kp => ?_
  have sz : its.toArray.size = ns.length := by rw [List.size_toArray, hl]
  rw [sz] at x
  have new : ObjOk X.prog X.w (upd H s.heap.objs.size (SetO X.prog X.w s.heap.objs.size (firstMet (fun i => ns.getD i 0) ns.length))) h' s.heap.objs.size (SetO X.prog X.w s.heap.objs.size (firstMet (fun i => ns.getD i 0) ns.length)) := by
    refine ⟨x, ?_, fun h1 h2 y k => y.at k⟩
    obtain ⟨o, _, _, _, ho, _⟩ := x
    exact ⟨o, ho⟩
  refine ⟨.ref s.heap.objs.size, _, I.laid (t' := tk) kp (Nat.le_refl _) new, rfl, q _ _ (I.hok.fresh (Nat.le_refl _)) (GX.firstMet_nd _ _) fun k => ?_⟩
  rw [GX.firstMet_mem]
  constructor
  · rintro ⟨j, hj, e⟩
    rw [List.getD_eq_getElem?_getD, List.getElem?_eq_getElem hj] at e
    have e' : ns[j] = k := e
    rw [← e']
    exact List.getElem_mem hj
  · intro hk
    obtain ⟨j, hj, e⟩ := List.getElem_of_mem hk
    refine ⟨j, hj, ?_⟩
    rw [List.getD_eq_getElem?_getD, List.getElem?_eq_getElem hj]
    exact e
theorem call_sortedS (hc : X.calm = true) : CallR X (.builtin "sorted") (fun xs H Q => ∃ (a : Addr) (ks : List Int), xs = [.ref a] ∧ H a = some (SetO X.prog X.w a ks) ∧ ks.Nodup ∧ ks.length < 64 ∧ ∀ (l : Addr) (ns : List Int), H l = none → ns.Perm ks → ns.Pairwise (· ≤ ·) → Q (.ref l) (upd H l (.lst (ns.map V.int)))) := by
  intro pins s σ H xs us Q I r h
  obtain ⟨a, ks, rfl, ha, nd, hlen, q⟩ := h
  obtain ⟨u, rfl, rx⟩ := vals1 r
  cases rx
  have x : GX.SetI X.prog X.w s.heap a (fun k => ks.any (· == k)) ks.length := (I.hok a _ ha).1
  refine GX.sorted_in (args_sorted1 _) (GX.set_collect (A := X.A.in1) (I.ok.hd hc) x fun h' d' tk vs ns hk hi hl hm => ?_)
  have pm : ns.Perm ks := GX.perm_of_nd nd (fun k hk => (hm k).mpr (List.any_eq_true.mpr ⟨k, hk, by simp⟩)) (Nat.le_of_eq hl)
  have hv : vs.length = ks.length := by rw [hi.length, hl]
  have I1 : Inv X pins σ H { s with heap := h', drawn := d', toks := tk } := (I.draw d').kept (t' := tk) hk
  refine sort_tail (s := { s with heap := h', drawn := d', toks := tk }) hi (by rw [hv]; exact hlen) (by rw [hv]; exact Nat.le_of_lt (small1000 (by omega))) fun h2 out ns' e k2 he a1 a2 a3 => ?_
  have ln : ns'.length ≤ sizeLine := by rw [a2.length_eq, hl]; exact Nat.le_of_lt (small1000 (by omega))
  exact ⟨.ref h'.objs.size, _, I1.lay_ints (tk := tk) k2 he a1 ln, rfl, q _ ns' (I1.hok.fresh (Nat.le_refl _)) (a2.trans pm) a3⟩
theorem call_listD (hc : X.calm = true) : CallR X (.type "list") (fun xs H Q => ∃ (d : Addr) (m : List (Int × Int)), xs = [.ref d] ∧ Rd H d (.dK (dI m)) ∧ m.length ≤ 1000 ∧ ∀ (l : Addr), H l = none → Q (.ref l) (upd H l (.lst ((m.map (·.1)).map V.int)))) := by
  intro pins s σ H xs us Q I r h
  obtain ⟨d, m, rfl, hd, hlen, q⟩ := h
  obtain ⟨u, rfl, rx⟩ := vals1 r
  cases rx
  obtain ⟨z, hS, vs, rel, dd⟩ := dk_rd I.hok hd
  obtain ⟨ep, hat⟩ := dd.dictAt
  have hl : vs.length = m.length := by rw [← rel.length, dI_len]
  refine PySem.W.kdl_call (A := X.A) (PySem.W.kdl_dict (knd := mixKind X.prog X.w) (kvs := vs) (ep := ep) hS) (I.ok.hd hc) hat (by rw [hl]; exact Nat.le_of_lt (small1000 (by omega))) fun h' tk acc c hk he hacc => ?_
  have hi : IntsAre acc.toList (m.map (·.1)) := keys_ints (P := X.prog) (w := X.w) rel (by rw [Array.length_toList]; exact hacc.1) fun j v e => hacc.2 j v (by rw [← Array.getElem?_toList]; exact e)
  exact ⟨.ref s.heap.objs.size, _, I.lay_ints (tk := tk) (e := c) hk he hi (by rw [List.length_map]; exact Nat.le_of_lt (small1000 (by omega))), rfl, q _ (I.hok.fresh (Nat.le_refl _))⟩
end
end L2
set_option Elab.async false
set_option linter.all false
set_option maxRecDepth 100000
namespace GX
open PySem PyProof.Rows
section
variable {prog : Program} {w : World} {A : Around} {E : Value → Shared → Prop} {s : Shared} {I : Addr} {fp wr : List Addr} {N : Nat} {P : Nat → Value → Prop} {St : Nat → Heap → Prop}
end
end GX
namespace L2
open PySem PySem.Spec PyProof.Rows
section
variable {X : Cx}
abbrev Dcs (H : Hp) : List V → List (List (Int × Int)) → Prop := Paired fun x m => ∃ d, x = .ref d ∧ Rd H d (.dK (dI m))
theorem Dcs.get {H : Hp} : ∀ {xs : List V} {ms : List (List (Int × Int))} {i : Nat} {x : V}, Dcs H xs ms → xs[i]? = some x → ∃ m, ms[i]? = some m ∧ ∃ d, x = .ref d ∧ Rd H d (.dK (dI m))
  | _, _, _, _, .nil, e => by simp at e
  | _, _, 0, _, .cons r _, e => by simp at e; subst e; exact ⟨_, rfl, r⟩
  | _, _, i + 1, x, .cons _ t, e => by
    obtain ⟨p, h1, h2⟩ := Dcs.get (i := i) (x := x) t (by simpa using e)
    exact ⟨p, by simpa using h1, h2⟩
end
end L2
set_option Elab.async false
set_option linter.all false
set_option maxRecDepth 100000
namespace L2
open PySem PySem.Spec PyProof.Rows
mutual
inductive Dp (K : PySem.W.Frag) (H : Hp) : V → PyData → Prop
  | none : Dp K H .non .none
  | bool (b : Bool) : Dp K H (.bl b) (.bool b)
  | int (i : Int) : Dp K H (.int i) (.int i)
  | str (x : Str) : Dp K H (.str x) (.str x)
  | tup {a : Addr} {xs : List V} {ds : List PyData} : SqT K H a xs → Dps K H xs ds → Dp K H (.ref a) (.tuple ds)
inductive Dps (K : PySem.W.Frag) (H : Hp) : List V → List PyData → Prop
  | nil : Dps K H [] []
  | cons {x : V} {xs : List V} {d : PyData} {ds : List PyData} : Dp K H x d → Dps K H xs ds → Dps K H (x :: xs) (d :: ds)
end
def SmT (K : PySem.W.Frag) (H H' : Hp) : Prop := ∀ a xs, SqT K H a xs → SqT K H' a xs
theorem SmT.same {K : PySem.W.Frag} {H H' : Hp} (e : Same H H') : SmT K H H' := by
  rintro a xs ((h | ⟨o, h⟩) | h)
  · exact .inl (.inl (e _ _ h))
  · exact .inl (.inr ⟨o, e _ _ h⟩)
  · exact .inr h
section
variable {X : Cx} {pins : List (Addr × Obj)} {σ : St} {H : Hp} {s : Shared}
mutual
theorem Dp.reads (I : Inv X pins σ H s) : ∀ {x : V} {d : PyData} {u : Value}, Dp X.K H x d → RelV x u → ∃ as, Reads s.heap u d as
  | _, _, _, .none, r => by cases r; exact ⟨_, .none⟩
  | _, _, _, .bool b, r => by cases r; exact ⟨_, .bool b⟩
  | _, _, _, .int i, r => by obtain ⟨t, rfl⟩ := r; exact ⟨_, .int i t⟩
  | _, _, _, .str z, r => by obtain ⟨t, rfl⟩ := r; exact ⟨_, .str z t⟩
  | _, _, _, .tup h t, r => by
    cases r
    obtain ⟨its, rv, ⟨o, e, c, n, dd⟩, _⟩ := I.tuple h
    obtain ⟨as, q⟩ := Dps.reads I t rv
    exact ⟨_, .tuple e c dd (by simpa using q)⟩
theorem Dps.reads (I : Inv X pins σ H s) : ∀ {xs : List V} {ds : List PyData} {us : List Value}, Dps X.K H xs ds → Vals xs us → ∃ as, ReadsAll s.heap us ds as
  | _, _, _, .nil, r => by cases r; exact ⟨_, .nil⟩
  | _, _, _, .cons h t, r => by
    cases r with
    | cons r1 r2 =>
      obtain ⟨as, q⟩ := Dp.reads I h r1
      obtain ⟨bs, q2⟩ := Dps.reads I t r2
      exact ⟨_, .cons q q2⟩
end
def Dl (K : PySem.W.Frag) (H : Hp) (x : V) (d : PyData) : Prop := Dp K H x d ∨ ∃ a xs ds, x = .ref a ∧ d = .list ds ∧ SqL K H a xs ∧ Dps K H xs ds
theorem Dl.reads (I : Inv X pins σ H s) {x : V} {d : PyData} {u : Value} (h : Dl X.K H x d) (r : RelV x u) : ∃ as, Reads s.heap u d as := by
  rcases h with h | ⟨a, xs, ds, rfl, rfl, h, t⟩
  · exact Dp.reads I h r
  · cases r
    obtain ⟨its, rv, ⟨o, n, e, c, _, dd⟩, _⟩ := I.list h
    obtain ⟨as, q⟩ := Dps.reads I t rv
    exact ⟨_, .list e c dd (by simpa using q)⟩
def rEqP (K : PySem.W.Frag) : R2 := fun x y H Q => ∃ d e, Dl K H x d ∧ Dl K H y e ∧ d.canLay0 = true ∧ e.canLay0 = true ∧ min d.depth e.depth ≤ 60 ∧ Q (.bl (d.eqv e)) H
def rNeP (K : PySem.W.Frag) : R2 := fun x y H Q => ∃ d e, Dl K H x d ∧ Dl K H y e ∧ d.canLay0 = true ∧ e.canLay0 = true ∧ min d.depth e.depth ≤ 60 ∧ Q (.bl (!d.eqv e)) H
theorem op_eqDl (hu : X.A.units + 64 < cLine) : OpR X (compareOp .Eq) (rEqP X.K) := by
  intro pins s σ H x y v u Q I rx ry h
  obtain ⟨d, e, h1, h2, c1, c2, dp, q⟩ := h
  obtain ⟨as, r1⟩ := h1.reads I rx
  obtain ⟨bs, r2⟩ := h2.reads I ry
  exact SeqAt.compareEq_reads r1 r2 c1 c2 (by omega) ⟨.bl _, H, I, rfl, q⟩
theorem op_neDl (hu : X.A.units + 64 < cLine) : OpR X (compareOp .NotEq) (rNeP X.K) := by
  intro pins s σ H x y v u Q I rx ry h
  obtain ⟨d, e, h1, h2, c1, c2, dp, q⟩ := h
  obtain ⟨as, r1⟩ := h1.reads I rx
  obtain ⟨bs, r2⟩ := h2.reads I ry
  exact SeqAt.compareNe_reads r1 r2 c1 c2 (by omega) ⟨.bl _, H, I, rfl, q⟩
def rInP (K : PySem.W.Frag) (neg : Bool) : R2 := fun x y H Q => ∃ a xs ds d, y = .ref a ∧ (SqL K H a xs ∨ SqT K H a xs) ∧ Dps K H xs ds ∧ Dp K H x d ∧ PyData.canLayAll0 ds = true ∧ d.canLay0 = true ∧ d.depth ≤ 60 ∧ Q (.bl (if neg then !(ds.any fun z => z.eqv d) else ds.any fun z => z.eqv d)) H
theorem op_inP (hu : X.A.units + 64 < cLine) : OpR X (compareOp .In) (rInP X.K false) := by
  intro pins s σ H x y v u Q I rx ry h
  obtain ⟨a, xs, ds, d, rfl, hs, hd, hx, c1, c2, dp, q⟩ := h
  obtain ⟨bs, r2⟩ := hx.reads I rx
  cases ry
  rcases hs with hs | hs
  · obtain ⟨as, r1⟩ := Dl.reads I (x := .ref a) (u := .ref a) (.inr ⟨a, xs, ds, rfl, rfl, hs, hd⟩) rfl
    exact SeqAt.in_list_reads r1 r2 c1 c2 (by omega) ⟨.bl _, H, I, rfl, q⟩
  · obtain ⟨as, r1⟩ := Dp.reads I (x := .ref a) (u := .ref a) (.tup hs hd) rfl
    exact SeqAt.in_tuple_reads r1 r2 c1 c2 (by omega) ⟨.bl _, H, I, rfl, q⟩
theorem op_notinP (hu : X.A.units + 64 < cLine) : OpR X (compareOp .NotIn) (rInP X.K true) := by
  intro pins s σ H x y v u Q I rx ry h
  obtain ⟨a, xs, ds, d, rfl, hs, hd, hx, c1, c2, dp, q⟩ := h
  obtain ⟨bs, r2⟩ := hx.reads I rx
  cases ry
  rcases hs with hs | hs
  · obtain ⟨as, r1⟩ := Dl.reads I (x := .ref a) (u := .ref a) (.inr ⟨a, xs, ds, rfl, rfl, hs, hd⟩) rfl
    exact SeqAt.notIn_list_reads r1 r2 c1 c2 (by omega) ⟨.bl _, H, I, rfl, q⟩
  · obtain ⟨as, r1⟩ := Dp.reads I (x := .ref a) (u := .ref a) (.tup hs hd) rfl
    exact SeqAt.notIn_tuple_reads r1 r2 c1 c2 (by omega) ⟨.bl _, H, I, rfl, q⟩
end
theorem rEqP_refl {K : PySem.W.Frag} {x y : V} {H : Hp} {Q : VK} {d : PyData} (h1 : Dl K H x d) (h2 : Dl K H y d) (c : d.canLay0 = true) (dp : d.depth ≤ 60) (q : Q (.bl true) H) : rEqP K x y H Q :=
  ⟨d, d, h1, h2, c, c, by omega, by rw [SeqAt.eqv_refl d c]; exact q⟩
theorem rNeP_refl {K : PySem.W.Frag} {x y : V} {H : Hp} {Q : VK} {d : PyData} (h1 : Dl K H x d) (h2 : Dl K H y d) (c : d.canLay0 = true) (dp : d.depth ≤ 60) (q : Q (.bl false) H) : rNeP K x y H Q :=
  ⟨d, d, h1, h2, c, c, by omega, by rw [SeqAt.eqv_refl d c]; exact q⟩
end L2
set_option Elab.async false
set_option linter.all false
set_option maxRecDepth 100000
namespace L2
open PySem PySem.Spec PyProof.Rows
theorem same_upd {H : Hp} {l : Addr} {o : HO} (h : H l = none) : Same H (upd H l o) := fun b u e => by rw [upd_ne (ne_of_none e h)]; exact e
def But (d : Addr) (H H' : Hp) : Prop := ∀ b, b ≠ d → H' b = H b
theorem But.upd {d : Addr} {H : Hp} {o : HO} : But d H (L2.upd H d o) := fun b h => upd_ne h
theorem But.same {d : Addr} {B H H' : Hp} (e : But d H H') (s : Same B H) (h : B d = none) : Same B H' := fun b o hb => by rw [e b (ne_of_none hb h)]; exact s b o hb
theorem But.at {d b : Addr} {H H' : Hp} {o : Option HO} (e : But d H H') (n : b ≠ d) (h : H b = o) : H' b = o := by rw [e b n]; exact h
theorem But.of {d b : Addr} {H H' : Hp} {o u : HO} (e : But d H H') (hd : H d = some u) (h : H b = some o) (n : o ≠ u) : H' b = some o := e.at (ne_of h hd n) h
def nwT (xs : List V) (H : Hp) (Q : VK) : Prop := xs.length ≤ sizeLine ∧ ∀ p, H p = none → Q (.ref p) (upd H p (.tup xs))
def nwL (xs : List V) (H : Hp) (Q : VK) : Prop := xs.length ≤ sizeLine ∧ ∀ p, H p = none → Q (.ref p) (upd H p (.lst xs))
section
variable {D : Ends} {σ : St} {H : Hp} {Q : VK} {K : PySem.W.Frag}
theorem x_seq {t u : TS} (h : t { D with nx := u D } σ H) : tSeq t u D σ H := h
theorem x_seqA {te : TE} {g : TG} {u : TS} (h : te σ H fun x H1 => g x σ H1 (u D)) : tSeq (tAsg te g) u D σ H := h
theorem x_seqD {te : TE} {u : TS} (h : te σ H fun _ H1 => u D σ H1) : tSeq (tDrop te) u D σ H := h
theorem x_seqP {td ty tv : TE} {u : TS} (h : sDPut td ty tv { D with nx := u D } σ H) : tSeq (sDPut td ty tv) u D σ H := h
theorem x_seqF {wi : TI} {g : TG} {tb u : TS} (h : tFor wi g tb { D with nx := u D } σ H) : tSeq (tFor wi g tb) u D σ H := h
theorem x_seqW {c : TT} {tb u : TS} (h : tWhile c tb { D with nx := u D } σ H) : tSeq (tWhile c tb) u D σ H := h
theorem x_seqM {ta tv : TE} {f : Str} {u : TS} (h : sFld K ta tv f { D with nx := u D } σ H) : tSeq (sFld K ta tv f) u D σ H := h
theorem x_seqG {c : TT} {te : TE} {u : TS} (h : c σ H fun b H1 => if b = true then te σ H1 D.rt else u D σ H1) : tSeq (tIfS c (tRet te) tNext) u D σ H := h
theorem x_cut (I : St → Hp → Prop) {t u : TS} (h2 : ∀ σ' H', I σ' H' → u D σ' H') (h : ∀ N : St → Hp → Prop, (∀ σ' H', I σ' H' → N σ' H') → t { D with nx := N } σ H) : tSeq t u D σ H := h _ h2
theorem x_next (h : D.nx σ H) : tNext D σ H := h
theorem x_ret {te : TE} (h : te σ H D.rt) : tRet te D σ H := h
theorem x_drop {te : TE} (h : te σ H fun _ H1 => D.nx σ H1) : tDrop te D σ H := h
theorem x_asg {te : TE} {g : TG} (h : te σ H fun x H1 => g x σ H1 D.nx) : tAsg te g D σ H := h
theorem x_ifs {c : TT} {t u : TS} (h : c σ H fun b H1 => if b = true then t D σ H1 else u D σ H1) : tIfS c t u D σ H := h
theorem x_name {i : Nat} {v : V} {R : St → Hp → Prop} (h : R (σ.set i (some v)) H) : gName i v σ H R := h
theorem x_gnil {R : St → Hp → Prop} (h : R σ H) : gNil [] σ H R := ⟨rfl, h⟩
theorem x_gcons {t : TG} {u : TGs} {v : V} {r : List V} {R : St → Hp → Prop} (h : t v σ H fun σ' H' => u r σ' H' R) : gCons t u (v :: r) σ H R := ⟨v, r, rfl, h⟩
theorem x_gtup {n : Nat} {t : TGs} {a : Addr} {xs : List V} {R : St → Hp → Prop} (h1 : SqT K H a xs) (h2 : xs.length = n) (h : t xs σ H R) : gTup K n t (.ref a) σ H R := ⟨a, xs, rfl, h1, h2, h⟩
theorem x_var {i : Nat} {v : V} (h1 : σ[i]? = some (some v)) (h : Q v H) : tVar i σ H Q := ⟨v, h1, h⟩
theorem x_c {v : V} (h : Q v H) : tC v σ H Q := h
theorem x_op {r : R2} {ta tb : TE} (h : ta σ H fun x H1 => tb σ H1 fun y H2 => r x y H2 Q) : tOp r ta tb σ H Q := h
theorem x_un {r : V → Hp → VK → Prop} {ta : TE} (h : ta σ H fun x H1 => r x H1 Q) : tUn r ta σ H Q := h
theorem x_I0 {g : Int → Int → V} {i j : Int} (h : Q (g i j) H) : rI0 g (.int i) (.int j) H Q := ⟨i, j, rfl, rfl, h⟩
theorem x_I {C : Int → Int → Prop} {g : Int → Int → V} {i j : Int} (hc : C i j) (h : Q (g i j) H) : rI C g (.int i) (.int j) H Q := ⟨i, j, rfl, rfl, hc, h⟩
theorem x_U {g : Int → V} {i : Int} (h : Q (g i) H) : rU g (.int i) H Q := ⟨i, rfl, h⟩
theorem decI (i j : Int) : decide (V.int i = V.int j) = decide (i = j) := by
  by_cases h : i = j
  · subst h; rw [decide_eq_true rfl, decide_eq_true rfl]
  · rw [decide_eq_false h, decide_eq_false (fun e => h (V.int.inj e))]
theorem decS (i j : Str) : decide (V.str i = V.str j) = decide (i = j) := by
  by_cases h : i = j
  · subst h; rw [decide_eq_true rfl, decide_eq_true rfl]
  · rw [decide_eq_false h, decide_eq_false (fun e => h (V.str.inj e))]
theorem x_eqI {i j : Int} (h : Q (.bl (decide (i = j))) H) : rEq (.int i) (.int j) H Q := ⟨rfl, by rw [decI]; exact h⟩
theorem x_neI {i j : Int} (h : Q (.bl (!decide (i = j))) H) : rNe (.int i) (.int j) H Q := ⟨rfl, by rw [decI]; exact h⟩
theorem x_eqS {i j : Str} (h : Q (.bl (decide (i = j))) H) : rEq (.str i) (.str j) H Q := ⟨rfl, by rw [decS]; exact h⟩
theorem x_neS {i j : Str} (h : Q (.bl (!decide (i = j))) H) : rNe (.str i) (.str j) H Q := ⟨rfl, by rw [decS]; exact h⟩
theorem x_test {t : TE} {R : Bool → Hp → Prop} (h : t σ H fun x H' => ∃ k, x = .bl k ∧ R k H') : tTest t σ H R := h
theorem x_tru {t : TE} {R : Bool → Hp → Prop} (h : t σ H fun x H' => ∃ k, TruV K x H' k ∧ R k H') : tTru K t σ H R := h
theorem x_exbl {c : Bool} {P : Bool → Prop} (h : P c) : ∃ k, V.bl c = .bl k ∧ P k := ⟨c, rfl, h⟩
theorem x_extru {c : Bool} {P : Bool → Prop} (h : P c) : ∃ k, TruV K (.bl c) H k ∧ P k := ⟨c, rfl, h⟩
theorem x_and {t u : TT} {R : Bool → Hp → Prop} (h : t σ H fun c H1 => if c = true then u σ H1 R else R false H1) : tAnd t u σ H R := h
theorem x_or {t u : TT} {R : Bool → Hp → Prop} (h : t σ H fun c H1 => if c = true then R true H1 else u σ H1 R) : tOr t u σ H R := h
theorem x_not {t : TT} {R : Bool → Hp → Prop} (h : t σ H fun c H1 => R (!c) H1) : tNot t σ H R := h
theorem x_andV {ta tb : TE} (h : ta σ H fun x H1 => ∃ c, x = .bl c ∧ if c = true then tb σ H1 Q else Q (.bl false) H1) : tAndV ta tb σ H Q := h
theorem x_orV {ta tb : TE} (h : ta σ H fun x H1 => ∃ c, x = .bl c ∧ if c = true then Q (.bl true) H1 else tb σ H1 Q) : tOrV ta tb σ H Q := h
theorem x_notV {ta : TE} (h : ta σ H fun x H1 => ∃ c, x = .bl c ∧ Q (.bl (!c)) H1) : tNotV ta σ H Q := h
theorem x_ife {t : TT} {ta tb : TE} (h : t σ H fun c H1 => if c = true then ta σ H1 Q else tb σ H1 Q) : tIf t ta tb σ H Q := h
theorem x_nil {R : List V → Hp → Prop} (h : R [] H) : tNil σ H R := h
theorem x_cons {ta : TE} {tr : TA} {R : List V → Hp → Prop} (h : ta σ H fun x H1 => tr σ H1 fun xs H2 => R (x :: xs) H2) : tCons ta tr σ H R := h
theorem x_tup {t : TA} (h : t σ H fun xs H1 => nwT xs H1 Q) : tTup t σ H Q := h
theorem x_lst {t : TA} (h : t σ H fun xs H1 => nwL xs H1 Q) : tLst t σ H Q := h
theorem x_nwT {xs : List V} (hl : xs.length ≤ sizeLine) (h : ∀ p H', H p = none → Same H H' → H' p = some (.tup xs) → Q (.ref p) H') : nwT xs H Q := ⟨hl, fun p hp => h p _ hp (same_upd hp) upd_same⟩
theorem x_nwL {xs : List V} (hl : xs.length ≤ sizeLine) (h : ∀ p H', H p = none → Same H H' → H' p = some (.lst xs) → Q (.ref p) H') : nwL xs H Q := ⟨hl, fun p hp => h p _ hp (same_upd hp) upd_same⟩
theorem x_dnew (h : ∀ p H', H p = none → Same H H' → H' p = some (.dK (dI [])) → Q (.ref p) H') : tDNewK σ H Q := fun p hp => h p _ hp (same_upd hp) upd_same
theorem x_call {sp : Sp} {dvs : List V} {E : XK} {t : TA} (h : t σ H fun vs H1 => sp (vs ++ dvs) H1 Q E) : tCall sp dvs E t σ H Q := h
theorem x_cb {r : List V → Hp → VK → Prop} {t : TA} (h : t σ H fun vs H1 => r vs H1 Q) : tCB r t σ H Q := h
theorem x_sl {r : V → Option Int → Option Int → Hp → VK → Prop} {te : TE} {tl th : TO} (h : te σ H fun x H1 => tl σ H1 fun l H2 => th σ H2 fun u H3 => r x l u H3 Q) : tSl r te tl th σ H Q := h
theorem x_nopart {R : Option Int → Hp → Prop} (h : R none H) : tNoPart σ H R := h
theorem x_part {t : TE} {R : Option Int → Hp → Prop} (h : t σ H fun x H1 => ∃ i, x = .int i ∧ R (some i) H1) : tPart t σ H R := h
theorem x_exint {c : Int} {P : Int → Prop} (h : P c) : ∃ k, V.int c = .int k ∧ P k := ⟨c, rfl, h⟩
theorem x_slL {a : Addr} {xs : List V} {lo hi : Option Int} (h1 : SqL K H a xs) (h : ∀ p H', H p = none → Same H H' → H' p = some (.lst (cutV xs lo hi)) → Q (.ref p) H') : rSlL K (.ref a) lo hi H Q := ⟨a, xs, rfl, h1, fun p hp => h p _ hp (same_upd hp) upd_same⟩
theorem x_ixL {a : Addr} {xs : List V} {i : Int} {v : V} (h1 : SqL K H a xs) (h2 : atI xs i = some v) (h : Q v H) : rIxL K (.ref a) (.int i) H Q := ⟨a, xs, i, v, rfl, rfl, h1, h2, h⟩
theorem x_ixT {a : Addr} {xs : List V} {i : Int} {v : V} (h1 : SqT K H a xs) (h2 : atI xs i = some v) (h : Q v H) : rIxT K (.ref a) (.int i) H Q := ⟨a, xs, i, v, rfl, rfl, h1, h2, h⟩
theorem x_dget {td ty : TE} (h : td σ H fun x H1 => ty σ H1 fun y H2 => ∃ a v, x = .ref a ∧ DGet H2 a y (some v) ∧ Q v H2) : tDGet td ty σ H Q := h
theorem x_exdg {d : Addr} {m : List (Int × Int)} {k n : Int} {P : V → Prop} (hd : Rd H d (.dK (dI m))) (hk : lkI m k = some n) (h : P (.int n)) : ∃ a v, V.ref d = .ref a ∧ DGet H a (.int k) (some v) ∧ P v :=
  ⟨d, .int n, rfl, .inl ⟨_, Sum.inl k, hd, rfl, by rw [dI_val, hk]; rfl⟩, h⟩
theorem x_dget2 {td ty tx : TE} (h : td σ H fun x H1 => ∃ a, x = .ref a ∧ IsD H1 a ∧ ty σ H1 fun y H2 => tx σ H2 fun z H3 => ∃ o, DGet H3 a y o ∧ Q (o.getD z) H3) : tDGet2 td ty tx σ H Q := h
theorem x_exdo {d : Addr} {m : List (Int × Int)} {k : Int} {P : Option V → Prop} (hd : Rd H d (.dK (dI m))) (h : P ((lkI m k).map V.int)) : ∃ o, DGet H d (.int k) o ∧ P o :=
  ⟨_, .inl ⟨_, Sum.inl k, hd, rfl, (dI_val m k).symm⟩, h⟩
theorem getDmap (o : Option Int) (z : Int) : (o.map V.int).getD (V.int z) = V.int (o.getD z) := by cases o <;> rfl
theorem x_dput {td ty tv : TE} (h : tv σ H fun v H1 => td σ H1 fun x H2 => ty σ H2 fun y H3 => ∃ a H4, x = .ref a ∧ DPut H3 a y v H4 ∧ D.nx σ H4) : sDPut td ty tv D σ H := h
theorem x_exdput {d : Addr} {m : List (Int × Int)} {k n : Int} {P : Hp → Prop} (hd : H d = some (.dK (dI m))) (nd : (m.map (·.1)).Nodup) (hl : m.length < sizeLine) (h : ∀ H2, But d H H2 → H2 d = some (.dK (dI (putI m k n))) → P H2) : ∃ a H4, V.ref d = .ref a ∧ DPut H a (.int k) (.int n) H4 ∧ P H4 :=
  ⟨d, _, rfl, .inl ⟨_, Sum.inl k, hd, rfl, by rw [dI_len]; exact hl, rfl⟩, h _ .upd (by rw [upd_same, dI_put m k n nd])⟩
theorem x_for {wi : TI} {g : TG} {tb : TS} (h : wi σ H fun J H1 => ∃ W : Nat → Nat → St → Hp → Prop, (∃ m, W 0 m σ H1) ∧ ∀ i m σ H, W i m σ H →
  (J.stop i H ∧ D.nx σ H) ∨ (J.go i H ∧ ∃ N : St → Hp → Prop, (∀ σ' H', N σ' H' → ∃ m', m' < m ∧ W (i + 1) m' σ' H') ∧ ∀ x H', J.yld i H x H' → g x σ H' fun σ2 H2 => tb { D with nx := N, ct := N, bk := D.nx } σ2 H2)) : tFor wi g tb D σ H := h
theorem x_ilist {tl : TE} {R : It → Hp → Prop} (h : tl σ H fun x H1 => ∃ a, x = .ref a ∧ (∃ xs, SqL K H1 a xs) ∧ R (Itl K a) H1) : iList K tl σ H R := h
theorem x_exil {a : Addr} {xs : List V} {P : Addr → Prop} (hd : SqL K H a xs) (h : P a) : ∃ b, V.ref a = .ref b ∧ (∃ xs, SqL K H b xs) ∧ P b := ⟨a, rfl, ⟨xs, hd⟩, h⟩
theorem x_itup {tl : TE} {R : It → Hp → Prop} (h : tl σ H fun x H1 => ∃ a, x = .ref a ∧ (∃ xs, SqT K H1 a xs) ∧ R (Itt K a) H1) : iTup K tl σ H R := h
theorem x_exit {a : Addr} {xs : List V} {P : Addr → Prop} (hd : SqT K H a xs) (h : P a) : ∃ b, V.ref a = .ref b ∧ (∃ xs, SqT K H b xs) ∧ P b := ⟨a, rfl, ⟨xs, hd⟩, h⟩
theorem x_ir1 {ta : TA} {R : It → Hp → Prop} (h : ta σ H fun vs H1 => ∃ j : Int, vs = [.int j] ∧ -(2 ^ 62) ≤ j ∧ j < 2 ^ 62 ∧ R (Itr 0 j.toNat) H1) : iRng1 ta σ H R := h
theorem x_bm {T : String} {r : V → List V → Hp → VK → Prop} {to : TE} {t : TA} (h : to σ H fun x H1 => tyV K T x H1 ∧ t σ H1 fun xs H2 => r x xs H2 Q) : tBM K T r to t σ H Q := h
theorem x_tyl {a : Addr} {xs : List V} {P : Prop} (hd : H a = some (.lst xs)) (h : P) : tyV K "list" (.ref a) H ∧ P := ⟨.inl ⟨rfl, _, SqL.of hd⟩, h⟩
theorem x_append {a : Addr} {xs : List V} {y : V} (hd : H a = some (.lst xs)) (hl : xs.length < sizeLine) (h : ∀ H2, But a H H2 → H2 a = some (.lst (xs ++ [y])) → Q .non H2) : rAppend (.ref a) [y] H Q := ⟨a, xs, y, rfl, rfl, hd, hl, h _ .upd upd_same⟩
theorem x_comp {src : List (Option Nat)} {wi : TI} {g : TG} {tt : TT} {te : TE} (h : wi σ H fun J H1 => ∀ D, H1 D = none → ∃ W : Nat → Nat → St → Hp → Prop, (∃ m, W 0 m (blkSt src σ) (upd H1 D (.lst []))) ∧
  ∀ i m σ' H', W i m σ' H' → (J.stop i H' ∧ Q (.ref D) H') ∨ (J.go i H' ∧ ∃ N : St → Hp → Prop, (∀ σ2 H2, N σ2 H2 → ∃ m', m' < m ∧ W (i + 1) m' σ2 H2) ∧
    ∀ x H'', J.yld i H' x H'' → cTurn g tt te D N x σ' H'')) : tComp src wi g tt te σ H Q := h
end
theorem iteNT {A B : Prop} (h : B) : if (!true) = true then A else B := h
theorem iteNF {A B : Prop} (h : A) : if (!false) = true then A else B := h
end L2
set_option Elab.async false
set_option linter.all false
set_option maxRecDepth 100000
namespace L2
open PySem PySem.Spec PyProof.Rows
section
variable {X : Cx} {K : PySem.W.Frag}
theorem ix_tupK (hK : X.K = K) : IxR X (rIxT K) := by subst hK; exact ix_tup
theorem ix_listK (hK : X.K = K) : IxR X (rIxL K) := by subst hK; exact ix_list
theorem sl_listK (hK : X.K = K) : SlR X (rSlL K) := by subst hK; exact sl_list
theorem sl_tupK (hK : X.K = K) : SlR X (rSlT K) := by subst hK; exact sl_tup
theorem op_eqK (hK : X.K = K) (hu : X.A.units + 64 < cLine) : OpR X (compareOp .Eq) (rEqP K) := by subst hK; exact op_eqDl hu
theorem op_neK (hK : X.K = K) (hu : X.A.units + 64 < cLine) : OpR X (compareOp .NotEq) (rNeP K) := by subst hK; exact op_neDl hu
theorem op_ninK (hK : X.K = K) (hu : X.A.units + 64 < cLine) : OpR X (compareOp .NotIn) (rInP K true) := by subst hK; exact op_notinP hu
theorem op_catTK (hK : X.K = K) : OpR X (binaryOp .Add) (rCatT K) := by subst hK; exact op_catT
def rLen (K : PySem.W.Frag) : List V → Hp → VK → Prop := fun xs H Q => ∃ p ys, xs = [.ref p] ∧ (SqL K H p ys ∨ SqT K H p ys) ∧ Q (.int ys.length) H
theorem call_lenK (hK : X.K = K) : CallR X (.builtin "len") (rLen K) := by subst hK; exact call_len_seq
def rListOf (K : PySem.W.Frag) : List V → Hp → VK → Prop := fun xs H Q => ∃ p ys, xs = [.ref p] ∧ (SqL K H p ys ∨ SqT K H p ys) ∧ ∀ l, H l = none → Q (.ref l) (upd H l (.lst ys))
theorem call_listK (hK : X.K = K) : CallR X (.type "list") (rListOf K) := by subst hK; exact call_list_of
def rTupleOf (K : PySem.W.Frag) : List V → Hp → VK → Prop := fun xs H Q => ∃ p ys, xs = [.ref p] ∧ ((SqL K H p ys ∧ ∀ l, H l = none → Q (.ref l) (upd H l (.tup ys))) ∨ (SqT K H p ys ∧ Q (.ref p) H))
theorem call_tupleK (hK : X.K = K) : CallR X (.type "tuple") (rTupleOf K) := by subst hK; exact call_tuple_of
def rIsI (K : PySem.W.Frag) : List V → Hp → VK → Prop := fun xs H Q => ∃ (x : V) (t : Value) (T : String) (b : Bool), xs = [x, .ty T] ∧ TyOf K H x t ∧ PySem.W.kitOne K t (.type T) = some b ∧ Q (.bl b) H
theorem call_isiK (hK : X.K = K) : CallR X (.builtin "isinstance") (rIsI K) := by subst hK; exact call_isinst
def rDictD : List V → Hp → VK → Prop := fun xs H Q => ∃ (d : Addr) (kvs : List (Key × V)), xs = [.ref d] ∧ Rd H d (.dK kvs) ∧ ∀ p, H p = none → Q (.ref p) (upd H p (.dK kvs))
theorem call_dict : CallR X (.type "dict") rDictD := call_dictD
theorem pg_tupK {es : List Expr} {k : Nat} {t : TGs} {n : Nat} {pos : Pos} (hK : X.K = K) (hc : X.calm = true) (h : PGs X es t) (hn : (assignEach es X.env).length = n := by rfl) (hst : (assignEach es X.env).findIdx? (·.1) = none := by rfl) : PG X (.Tuple es k pos) (gTup K n t) := by subst hK; exact pg_tup hc h hn hst
theorem pi_listK {tg l : Expr} {tl : TE} (hK : X.K = K) (hl : PE X l tl) : PI X tg l (iList K tl) := by subst hK; exact pi_list hl
theorem pi_tupK {tg l : Expr} {tl : TE} (hK : X.K = K) (hl : PE X l tl) : PI X tg l (iTup K tl) := by subst hK; exact pi_tup hl
theorem pi_seqK {tg l : Expr} {tl : TE} (hK : X.K = K) (hl : PE X l tl) : PI X tg l (iSeq K tl) := by subst hK; exact pi_seq hl
theorem pe_appendK {o e : Expr} {to : TE} {t : TA} {apos cpos : Pos} (hK : X.K = K) (h : PE X (.Call (.Attribute o "append" apos) [e] [] cpos) (tBM X.K "list" rAppend to t)) : PE X (.Call (.Attribute o "append" apos) [e] [] cpos) (tBM K "list" rAppend to t) := by subst hK; exact h
end
section
variable {σ : St} {H : Hp} {Q : VK} {K : PySem.W.Frag}
theorem x_rlistL {a : Addr} {xs : List V} (hd : SqL K H a xs) (h : ∀ p H', H p = none → Same H H' → H' p = some (.lst xs) → Q (.ref p) H') : rListOf K [.ref a] H Q := ⟨a, xs, rfl, .inl hd, fun p hp => h p _ hp (same_upd hp) upd_same⟩
theorem x_rtupL {a : Addr} {xs : List V} (hd : SqL K H a xs) (h : ∀ p H', H p = none → Same H H' → H' p = some (.tup xs) → Q (.ref p) H') : rTupleOf K [.ref a] H Q := ⟨a, xs, rfl, .inl ⟨hd, fun p hp => h p _ hp (same_upd hp) upd_same⟩⟩
end
end L2
set_option Elab.async false
set_option linter.all false
set_option maxRecDepth 100000
namespace L2
open PySem PySem.Spec PyProof.Rows
theorem cut_ints (ns : List Int) (lo hi : Option Int) : ∃ ms : List Int, cutV (ns.map V.int) lo hi = ms.map V.int ∧ ms.length ≤ ns.length := by
  refine ⟨(ns.drop (HT.sIx (ns.map V.int).length 0 lo)).take (HT.sIx (ns.map V.int).length (ns.map V.int).length hi - HT.sIx (ns.map V.int).length 0 lo), ?_, ?_⟩
  · unfold cutV
    rw [List.map_take, List.map_drop]
  · rw [List.length_take, List.length_drop]
    omega
theorem same_rd {H H' : Hp} {a : Addr} {u : HO} (s : Same H H') (h : Rd H a u) : Rd H' a u := by
  rcases h with h | ⟨o, h⟩
  · exact .inl (s _ _ h)
  · exact .inr ⟨o, s _ _ h⟩
theorem take_get {α : Type} {ls : List α} {i : Nat} {n : α} (h : ls[i]? = some n) : ls.take (i + 1) = ls.take i ++ [n] := by
  rw [List.take_succ, h]
  rfl
theorem int_get {ms : List Int} {i : Nat} {x : V} (h : (ms.map V.int)[i]? = some x) : ∃ n : Int, ms[i]? = some n ∧ x = .int n := by
  rw [List.getElem?_map] at h
  cases e : ms[i]? with
  | none => rw [e] at h; cases h
  | some n => rw [e] at h; exact ⟨n, rfl, (Option.some.inj h).symm⟩
theorem atI_int {α : Type} {xs : List α} {i : Int} {v : α} (h0 : 0 ≤ i) (h : xs[i.toNat]? = some v) : atI xs i = some v := by
  obtain ⟨n, rfl⟩ := Int.eq_ofNat_of_zero_le h0
  exact atI_nat h
theorem lk_put_same (m : List (Int × Int)) (k v : Int) : lkI (putI m k v) k = some v := by rw [lk_put, if_pos rfl]
abbrev Nm := Int × Int × Int
def nmD (p : Nm) : PyData := .tuple [.int p.1, .int p.2.1, .int p.2.2]
def NmAt (H : Hp) (x : V) (p : Nm) : Prop := ∃ a, x = .ref a ∧ H a = some (.tup [.int p.1, .int p.2.1, .int p.2.2])
abbrev Nms (H : Hp) : List V → List Nm → Prop := Paired (NmAt H)
def SmH (H H' : Hp) : Prop := ∀ a xs, H a = some (.tup xs) → H' a = some (.tup xs)
theorem SmH.refl (H : Hp) : SmH H H := fun _ _ h => h
theorem SmH.trans {H1 H2 H3 : Hp} (a : SmH H1 H2) (b : SmH H2 H3) : SmH H1 H3 := fun _ _ h => b _ _ (a _ _ h)
theorem SmH.same {H H' : Hp} (e : Same H H') : SmH H H' := fun _ _ h => e _ _ h
theorem SmH.upd {H : Hp} {l : Addr} {o : HO} (h1 : ∀ xs, H l ≠ some (.tup xs)) : SmH H (upd H l o) := fun a xs h => by
  have : a ≠ l := fun e => h1 xs (e ▸ h)
  rw [upd_ne this]; exact h
theorem SmH.lst {H : Hp} {l : Addr} {o : HO} {ys : List V} (h : H l = some (.lst ys)) : SmH H (L2.upd H l o) := .upd (fun _ z => by rw [h] at z; cases z)
theorem SmH.but {H H' : Hp} {l : Addr} {o : HO} (e : But l H H') (h : H l = some o) (n : ∀ xs, o ≠ .tup xs) : SmH H H' := fun a xs z => e.of h z (Ne.symm (n xs))
theorem NmAt.up {H H' : Hp} (m : SmH H H') {x : V} {p : Nm} (h : NmAt H x p) : NmAt H' x p := by
  obtain ⟨a, e, h⟩ := h
  exact ⟨a, e, m _ _ h⟩
theorem Nms.up {H H' : Hp} (m : SmH H H') : ∀ {xs : List V} {ns : List Nm}, Nms H xs ns → Nms H' xs ns
  | _, _, .nil => .nil
  | _, _, .cons r t => .cons (r.up m) (Nms.up m t)
theorem Nms.get {H : Hp} : ∀ {xs : List V} {ns : List Nm} {i : Nat} {x : V}, Nms H xs ns → xs[i]? = some x → ∃ p, ns[i]? = some p ∧ NmAt H x p
  | _, _, _, _, .nil, e => by simp at e
  | _, _, 0, _, .cons r _, e => by simp at e; subst e; exact ⟨_, rfl, r⟩
  | _, _, i + 1, x, .cons _ t, e => by
    obtain ⟨p, h1, h2⟩ := Nms.get (i := i) (x := x) t (by simpa using e)
    exact ⟨p, by simpa using h1, h2⟩
theorem Nms.len {H : Hp} {xs : List V} {ns : List Nm} (h : Nms H xs ns) : xs.length = ns.length := Paired.length h
theorem Nms.at {H : Hp} {xs : List V} {ns : List Nm} {i : Nat} (h : Nms H xs ns) (hi : i < ns.length) : ∃ x, xs[i]? = some x ∧ NmAt H x ns[i] := by
  have hx : i < xs.length := by rw [h.len]; exact hi
  obtain ⟨p, e, r⟩ := h.get (List.getElem?_eq_getElem hx)
  rw [List.getElem?_eq_getElem hi] at e
  cases e
  exact ⟨_, List.getElem?_eq_getElem hx, r⟩
theorem Nms.snoc {H : Hp} : ∀ {xs : List V} {ns : List Nm} {x : V} {p : Nm}, Nms H xs ns → NmAt H x p → Nms H (xs ++ [x]) (ns ++ [p])
  | _, _, _, _, .nil, h => .cons h .nil
  | _, _, _, _, .cons r t, h => .cons r (Nms.snoc t h)
theorem NmAt.dp {K : PySem.W.Frag} {H : Hp} {x : V} {p : Nm} (h : NmAt H x p) : Dp K H x (nmD p) := by
  obtain ⟨a, rfl, h⟩ := h
  exact .tup (SqT.of h) (.cons (.int _) (.cons (.int _) (.cons (.int _) .nil)))
theorem Nms.dps {K : PySem.W.Frag} {H : Hp} : ∀ {xs : List V} {ns : List Nm}, Nms H xs ns → Dps K H xs (ns.map nmD)
  | _, _, .nil => .nil
  | _, _, .cons r t => .cons r.dp (Nms.dps t)
theorem nm_lay (p : Nm) : (nmD p).canLay0 = true := rfl
theorem nms_lay : ∀ ns : List Nm, PyData.canLayAll0 (ns.map nmD) = true
  | [] => rfl
  | p :: ns => by rw [List.map_cons, PyData.canLayAll0.eq_2, nm_lay, nms_lay ns]; rfl
section
variable {σ : St} {H : Hp} {Q : VK} {K : PySem.W.Frag} {X : Cx}
theorem ix_seqK (hK : X.K = K) : IxR X (rIx K) := by subst hK; exact ix_seq
theorem x_ixQ {a : Addr} {xs : List V} {i : Int} {v : V} (h1 : SqL K H a xs ∨ SqT K H a xs) (h2 : atI xs i = some v) (h : Q v H) : rIx K (.ref a) (.int i) H Q := by
  rcases h1 with h1 | h1
  · exact .inl ⟨a, xs, i, v, rfl, rfl, h1, h2, h⟩
  · exact .inr (.inl ⟨a, xs, i, v, rfl, rfl, h1, h2, h⟩)
theorem x_rlenQ {a : Addr} {xs : List V} (hd : SqL K H a xs ∨ SqT K H a xs) (h : Q (.int xs.length) H) : rLen K [.ref a] H Q := ⟨a, xs, rfl, hd, h⟩
end
theorem x_nonand {P : Prop} (h : P) : V.non = V.non ∧ P := ⟨rfl, h⟩
end L2
set_option Elab.async false
set_option linter.all false
set_option maxRecDepth 100000
namespace L2
open PySem PySem.Spec PyProof.Rows
section
variable {X : Cx} {CX : CXT} {k : Nat} {f C : Addr} {fd : FuncData} {ps : List Str} {sp : Sp} {dvs : List V} {ds : List Value} {E : XK} {x m : Str} {p pos apos : Pos} {e o : Expr} {es : List Expr} {ta : TE} {t : TA}
structure ClsFn (K : PySem.W.Frag) (C : Addr) (m : Str) (f : Addr) : Prop where
  ga : PySem.W.specialIn K (.ref C) "__getattribute__" = some (some (.builtin "type.__getattribute__"))
  rd : PySem.W.readsIn K C (.type "type") = true
  at_ : PySem.W.findCls K (.ref C) (.type "type") m = some (.val (.ref f))
  hd : PySem.W.handedIn (.ref f) = true
  kp : PySem.W.keepIn K (.ref f) = true
theorem pe_clsfn {pl : Sem Bool} (hg : Gl X x) (hm : X.mg x = some (.ref C)) (c : ClsFn X.K C m f) (F : FnOk X.prog X.w X.K X.mg X.base CX0 k f fd ps sp) (hb : Binds X.K fd ps []) (hr : Room k X.A) (ha : PA X (e :: es) t)
    (hdb : (x == ("__debug__" : Str)) = false := by decide)
    (hst : starEach (e :: es) X.env = (false, eval e X.env) :: starEach es X.env := by rfl) (hpl : (backTo pos (starEach es X.env)).any (·.1) = false := by rfl)
    (ht : eval (.Call (.Attribute (.Name x p) m apos) (e :: es) [] pos) X.env = (do
      let ov ← eval (.Name x p) X.env
      standAt apos.atName
      let (f, first) ← holding [ov] (getMethod ov m pl)
      callWith pos f first (backTo pos (starEach (e :: es) X.env)) (backToKw pos (keywordEach [] X.env))) := by rfl) :
    PE X (.Call (.Attribute (.Name x p) m apos) (e :: es) [] pos) (tCall sp [] E0 t) := by
  intro pins s σ H Q I h
  refine PySem.W.methodCall_KW (pl := pl) (thn (pe_glob (v := .ref C) hg hm rfl hdb pins s σ H (fun v H1 => v = .ref C ∧ t σ H1 fun vs H2 => sp (vs ++ []) H2 Q E0) I ⟨rfl, h⟩) fun u s1 ⟨x, H1, I1, rx, ex, q⟩ => ?_) ht
  subst ex
  obtain rfl : u = Value.ref C := rx
  refine PySem.W.method_cls I1.kIn c.ga (PySem.W.cls_value I1.kIn c.rd c.at_ c.hd ?_)
  refine PySem.W.callWith_K (first := []) (h₀ := X.base) I.ok.mod.kin c.kp (thn (ha pos pins _ σ H1 _ (I1.tok _) q) fun us s2 ⟨vs, H2, I2, r, q2⟩ => ⟨I2.kIn, ?_⟩) hst hpl
  exact run_fn (us := us) (vs := vs) F hr hb .nil pass0 I2 r q2
def MOk (P : Program) (w : World) (K : PySem.W.Frag) (mg : Str → Option Value) (base : Heap) (k : Nat) (m : Str) (ms : List (Addr × Sp)) : Prop :=
  ∀ cs ∈ ms, ∃ f fd ps, Cls K cs.1 ∧ Meth K cs.1 m f ∧ FnOk P w K mg base CX0 k f fd ps cs.2 ∧ Binds K fd ps []
theorem MOk.nil {P : Program} {w : World} {K : PySem.W.Frag} {mg : Str → Option Value} {base : Heap} : MOk P w K mg base k m [] := fun _ h => nomatch h
theorem MOk.cons {P : Program} {w : World} {K : PySem.W.Frag} {mg : Str → Option Value} {base : Heap} {ms : List (Addr × Sp)} (c : Cls K C) (hm : Meth K C m f) (F : FnOk P w K mg base CX0 k f fd ps sp) (hb : Binds K fd ps []) (r : MOk P w K mg base k m ms) : MOk P w K mg base k m ((C, sp) :: ms) := by
  intro cs h
  rcases List.mem_cons.mp h with rfl | h
  · exact ⟨f, fd, ps, c, hm, F, hb⟩
  · exact r cs h
def mtS (ms : List (Addr × Sp)) (m : Str) (t : TA) (σ : St) (x : V) (H : Hp) (Q : VK) : Prop :=
  ∃ cs ∈ ms, ∃ a dx fs, x = .ref a ∧ H a = some (.ins cs.1 dx fs) ∧ fs.lookup m = none ∧ t σ H fun vs H2 => cs.2 (x :: (vs ++ [])) H2 Q E0
def tMethS (ms : List (Addr × Sp)) (m : Str) (ta : TE) (t : TA) : TE := fun σ H Q => ta σ H fun x H1 => mtS ms m t σ x H1 Q
theorem pe_methS {pl : Sem Bool} {ms : List (Addr × Sp)} (M : MOk X.prog X.w X.K X.mg X.base k m ms) (he : PE X o ta) (hr : Room k X.A) (ha : PA X (e :: es) t)
    (hst : starEach (e :: es) X.env = (false, eval e X.env) :: starEach es X.env := by rfl) (hpl : (backTo pos (starEach es X.env)).any (·.1) = false := by rfl)
    (ht : eval (.Call (.Attribute o m apos) (e :: es) [] pos) X.env = (do
      let ov ← eval o X.env
      standAt apos.atName
      let (f, first) ← holding [ov] (getMethod ov m pl)
      callWith pos f first (backTo pos (starEach (e :: es) X.env)) (backToKw pos (keywordEach [] X.env))) := by rfl) :
    PE X (.Call (.Attribute o m apos) (e :: es) [] pos) (tMethS ms m ta t) := by
  intro pins s σ H Q I h
  refine PySem.W.methodCall_KW (pl := pl) (thn (he pins s σ H _ I h) fun u s1 ⟨x, H1, I1, rx, cs, hcs, a, dx, fs, ex, ea, l, q⟩ => ?_) ht
  subst ex
  obtain rfl : u = Value.ref a := rx
  obtain ⟨f, fd, ps, c, hm, F, hb⟩ := M cs hcs
  refine getmeth_ok I1 ea c hm l ?_
  refine PySem.W.callWith_K (first := [.ref a]) (h₀ := X.base) I.ok.mod.kin hm.kp (thn (ha pos pins s1 σ H1 _ I1 q) fun us s2 ⟨vs, H2, I2, r, q2⟩ => ⟨I2.kIn, ?_⟩) hst hpl
  exact run_fn (us := .ref a :: us) (vs := .ref a :: vs) F hr hb .nil pass0 I2 (.cons rfl r) q2
theorem pe_methS0 {pl : Sem Bool} {ms : List (Addr × Sp)} (M : MOk X.prog X.w X.K X.mg X.base k m ms) (he : PE X o ta) (hr : Room k X.A)
    (ht : eval (.Call (.Attribute o m apos) [] [] pos) X.env = (do
      let ov ← eval o X.env
      standAt apos.atName
      let (f, first) ← holding [ov] (getMethod ov m pl)
      callWith pos f first (backTo pos (starEach [] X.env)) (backToKw pos (keywordEach [] X.env))) := by rfl) :
    PE X (.Call (.Attribute o m apos) [] [] pos) (tMethS ms m ta tNil) := by
  intro pins s σ H Q I h
  refine PySem.W.methodCall_KW (pl := pl) (thn (he pins s σ H _ I h) fun u s1 ⟨x, H1, I1, rx, cs, hcs, a, dx, fs, ex, ea, l, q⟩ => ?_) ht
  subst ex
  obtain rfl : u = Value.ref a := rx
  obtain ⟨f, fd, ps, c, hm, F, hb⟩ := M cs hcs
  refine getmeth_ok I1 ea c hm l ?_
  exact PySem.W.callWith_K0 (first := [.ref a]) I1.kIn hm.kp (run_fn (us := [.ref a]) (vs := [.ref a]) F hr hb .nil pass0 I1 (.cons rfl .nil) q)
end
section
variable {X : Cx} {K : PySem.W.Frag}
theorem pe_fldK {e : Expr} {ta : TE} {f : Str} {pos : Pos} (hK : X.K = K) (he : PE X e ta) (hb : attributeBase e f X.env (eval e X.env) = eval e X.env) : PE X (.Attribute e f pos) (tFld K ta f) := by subst hK; exact pe_fld he hb
theorem ps_fldK {o value : Expr} {ta tv : TE} {f : Str} {pos pos' : Pos} (hK : X.K = K) (ha : PE X o ta) (hv : PE X value tv) (hs : swapsWith value (some (.Attribute o f pos')) pos.line X.env = pure false) : PS X (.Assign [.Attribute o f pos'] value pos) (sFld K ta tv f) := by subst hK; exact ps_fld ha hv hs
end
section
variable {D : Ends} {σ : St} {H : Hp} {Q : VK} {K : PySem.W.Frag}
def fldK (K : PySem.W.Frag) (f : Str) (x : V) (H : Hp) (Q : VK) : Prop := ∃ a C dx fs v, x = .ref a ∧ H a = some (.ins C dx fs) ∧ Cls K C ∧ NoAttr K C f ∧ fs.lookup f = some v ∧ Q v H
theorem x_fld {ta : TE} {f : Str} (h : ta σ H fun x H1 => fldK K f x H1 Q) : tFld K ta f σ H Q := h
theorem x_fldk {f : Str} {a C dx : Addr} {fs : List (Str × V)} {v : V} (e : H a = some (.ins C dx fs)) (c : Cls K C) (n : NoAttr K C f) (l : fs.lookup f = some v) (h : Q v H) : fldK K f (.ref a) H Q := ⟨a, C, dx, fs, v, rfl, e, c, n, l, h⟩
def sfK (K : PySem.W.Frag) (f : Str) (y x : V) (H : Hp) (R : Hp → Prop) : Prop := ∃ a C dx fs, x = .ref a ∧ H a = some (.ins C dx fs) ∧ Cls K C ∧ NoAttr K C f ∧ fs.length < 1000 ∧ R (upd H a (.ins C dx (putF f y fs)))
theorem x_sfld {ta tv : TE} {f : Str} (h : tv σ H fun y H1 => ta σ H1 fun x H2 => sfK K f y x H2 fun H3 => D.nx σ H3) : sFld K ta tv f D σ H := h
theorem x_sfk {f : Str} {y : V} {a C dx : Addr} {fs : List (Str × V)} {R : Hp → Prop} (e : H a = some (.ins C dx fs)) (c : Cls K C) (n : NoAttr K C f) (hl : fs.length < 1000) (h : ∀ H2, But a H H2 → H2 a = some (.ins C dx (putF f y fs)) → R H2) : sfK K f y (.ref a) H R := ⟨a, C, dx, fs, rfl, e, c, n, hl, h _ .upd upd_same⟩
theorem x_methS {ms : List (Addr × Sp)} {m : Str} {ta : TE} {t : TA} (h : ta σ H fun x H1 => mtS ms m t σ x H1 Q) : tMethS ms m ta t σ H Q := h
theorem x_mtS0 {ms : List (Addr × Sp)} {m : Str} {t : TA} {C a dx : Addr} {sp : Sp} {fs : List (Str × V)} (e : H a = some (.ins C dx fs)) (l : fs.lookup m = none) (h : t σ H fun vs H2 => sp (.ref a :: (vs ++ [])) H2 Q E0) : mtS ((C, sp) :: ms) m t σ (.ref a) H Q :=
  ⟨(C, sp), List.mem_cons_self, a, dx, fs, rfl, e, l, h⟩
theorem x_mtS1 {ms : List (Addr × Sp)} {m : Str} {t : TA} {cs : Addr × Sp} {x : V} (h : mtS ms m t σ x H Q) : mtS (cs :: ms) m t σ x H Q := by
  obtain ⟨c, h1, h2⟩ := h
  exact ⟨c, List.mem_cons_of_mem _ h1, h2⟩
def mkK (C : Addr) (sp : Sp) (vs : List V) (H : Hp) (Q : VK) : Prop := ∀ x dx, H x = none → H dx = none → dx ≠ x → sp (.ref x :: (vs ++ [])) (upd (upd H dx (.own x)) x (.ins C dx [])) (fun v H2 => v = .non ∧ Q (.ref x) H2) E0
theorem x_make {C : Addr} {sp : Sp} {t : TA} (h : t σ H fun vs H1 => mkK C sp vs H1 Q) : tMake C sp [] E0 t σ H Q := h
theorem x_mk {C : Addr} {sp : Sp} {vs : List V} (h : ∀ x dx H', H x = none → Same H H' → H' x = some (.ins C dx []) → sp (.ref x :: (vs ++ [])) H' (fun v H2 => v = .non ∧ Q (.ref x) H2) E0) : mkK C sp vs H Q := by
  intro x dx nx ndx nex
  refine h x dx _ nx (fun b o e => ?_) upd_same
  rw [upd_ne (ne_of_none e nx), upd_ne (ne_of_none e ndx)]
  exact e
end
theorem x_nx {f b c : St → Hp → Prop} {r : VK} {σ : St} {H : Hp} (h : f σ H) : Ends.nx ⟨f, r, b, c⟩ σ H := h
theorem x_yes {σ : St} {H : Hp} {R : Bool → Hp → Prop} (h : R true H) : tYes σ H R := h
theorem x_turn {g : TG} {tt : TT} {te : TE} {D : Addr} {N : St → Hp → Prop} {x : V} {σ : St} {H : Hp} (h : g x σ H fun σ2 H2 => tt σ2 H2 fun b H3 => if b = true then te σ2 H3 fun y H4 => ∃ ys, H4 D = some (.lst ys) ∧ ys.length < sizeLine ∧ N σ2 (upd H4 D (.lst (ys ++ [y]))) else N σ2 H3) : cTurn g tt te D N x σ H := h
theorem x_seqN {D : Ends} {σ : St} {H : Hp} {c : TT} {u : TS} (h : c σ H fun b H1 => if b = true then False else u D σ H1) : tSeq (tIfS c tNever tNext) u D σ H := h
end L2
set_option Elab.async false
set_option linter.all false
set_option maxRecDepth 100000
namespace L2
open PySem PySem.Spec PyProof.Rows
theorem same_tup {K : PySem.W.Frag} {H H' : Hp} {a : Addr} {xs : List V} (e : Same H H') (h : SqT K H a xs) : SqT K H' a xs := by
  rcases h with (h | ⟨o, h⟩) | h
  · exact .inl (.inl (e _ _ h))
  · exact .inl (.inr ⟨o, e _ _ h⟩)
  · exact .inr h
structure Ck (m : List (Int × Int)) : Prop where
  nd : (m.map (·.1)).Nodup
  nn : ∀ p ∈ m, 0 ≤ p.2
  rg : ∀ p ∈ m, 0 ≤ p.1 ∧ p.1 < 63
def hs63 : List Int := (List.range 63).map fun (h : Nat) => (h : Int)
theorem mem_hs {k : Int} : k ∈ hs63 ↔ 0 ≤ k ∧ k < 63 := by
  unfold hs63
  rw [List.mem_map]
  constructor
  · rintro ⟨n, hn, rfl⟩
    have := List.mem_range.mp hn
    omega
  · rintro ⟨h0, h1⟩
    exact ⟨k.toNat, List.mem_range.mpr (by omega), by omega⟩
theorem nd_len {α : Type} [DecidableEq α] : ∀ {l m : List α}, l.Nodup → (∀ x ∈ l, x ∈ m) → l.length ≤ m.length
  | [], m, _, _ => Nat.zero_le _
  | x :: l, m, nd, sub => by
    rw [List.nodup_cons] at nd
    have hx := sub x List.mem_cons_self
    have pm := List.perm_cons_erase hx
    have := nd_len (l := l) (m := m.erase x) nd.2 fun y hy => (List.mem_erase_of_ne (show y ≠ x from fun z => nd.1 (z ▸ hy))).mpr (sub y (List.mem_cons_of_mem _ hy))
    have q := pm.length_eq
    rw [List.length_cons] at q ⊢
    omega
theorem hs_len {l : List Int} (nd : l.Nodup) (h : ∀ k ∈ l, 0 ≤ k ∧ k < 63) : l.length < 64 := by
  have := nd_len nd (m := hs63) fun k hk => mem_hs.mpr (h k hk)
  unfold hs63 at this
  rw [List.length_map, List.length_range] at this
  omega
theorem Ck.keys {m : List (Int × Int)} (c : Ck m) : ∀ k ∈ m.map (·.1), 0 ≤ k ∧ k < 63 := fun k hk => by
  obtain ⟨p, hp, e⟩ := List.mem_map.mp hk
  rw [← e]
  exact c.rg p hp
theorem Ck.len {m : List (Int × Int)} (c : Ck m) : m.length < 64 := by
  have := hs_len c.nd c.keys
  rw [List.length_map] at this
  exact this
theorem Ck.nil : Ck [] := ⟨List.nodup_nil, (fun p hp => nomatch hp), (fun p hp => nomatch hp)⟩
theorem Ck.ct {m : List (Int × Int)} (c : Ck m) (k : Int) : 0 ≤ ct m k := by
  unfold L2.ct
  cases e : lkI m k with
  | none => exact Int.le_refl _
  | some v => exact c.nn _ (lk_mem e)
theorem ct_out {m : List (Int × Int)} {k : Int} (h : k ∉ m.map (·.1)) : ct m k = 0 := by
  unfold ct
  rw [lk_none h]
  rfl
theorem ct_of {m : List (Int × Int)} (nd : (m.map (·.1)).Nodup) {p : Int × Int} (h : p ∈ m) : ct m p.1 = p.2 := by
  unfold ct
  rw [lk_of (k := p.1) (v := p.2) nd h]
  rfl
theorem Ck.put {m : List (Int × Int)} (c : Ck m) {k v : Int} (h0 : 0 ≤ k) (h1 : k < 63) (hv : 0 ≤ v) : Ck (putI m k v) :=
  ⟨put_nd m k v c.nd, fun p hp => by
    rcases put_vals m k v p hp with z | z
    · rw [z]; exact hv
    · exact c.nn p z, fun p hp => by
    rcases put_vals m k v p hp with z | z
    · rw [z]; exact ⟨h0, h1⟩
    · exact c.rg p z⟩
theorem ct_put (m : List (Int × Int)) (k v j : Int) : ct (putI m k v) j = if j = k then v else ct m j := by
  unfold ct
  rw [lk_put]
  split <;> rfl
structure Td (m : List (Int × Int)) : Prop extends Ck m where
  ps : ∀ p ∈ m, 0 < p.2
def IsMx (ms : List (List (Int × Int))) (k b : Int) : Prop := (∃ m ∈ ms, ct m k = b) ∧ ∀ m ∈ ms, ct m k ≤ b
def cov (m n : List (Int × Int)) : Bool := (List.range 63).all fun (h : Nat) => decide (ct n h ≤ ct m h)
theorem cov_iff {m n : List (Int × Int)} (cm : Ck m) (cn : Ck n) : cov m n = true ↔ ∀ k, ct n k ≤ ct m k := by
  unfold cov
  rw [List.all_eq_true]
  constructor
  · intro h k
    by_cases hk : 0 ≤ k ∧ k < 63
    · have := of_decide_eq_true (h k.toNat (List.mem_range.mpr (by omega)))
      rw [show ((k.toNat : Nat) : Int) = k by omega] at this
      exact this
    · rw [ct_out (fun z => hk (cn.keys k z))]
      exact cm.ct k
  · intro h n _
    exact decide_eq_true (h n)
def posI (ps : List (Int × Int)) : List (Int × Int) := ps.filter fun p => decide (0 < p.2)
theorem pos_yes {ps : List (Int × Int)} {p : Int × Int} (h : 0 < p.2) : posI (ps ++ [p]) = posI ps ++ [p] := by
  unfold posI
  rw [List.filter_append, List.filter_cons, decide_eq_true h]
  rfl
theorem pos_no {ps : List (Int × Int)} {p : Int × Int} (h : ¬ 0 < p.2) : posI (ps ++ [p]) = posI ps := by
  unfold posI
  rw [List.filter_append, List.filter_cons, decide_eq_false h]
  exact List.append_nil _
theorem pos_nd {ps : List (Int × Int)} (h : (ps.map (·.1)).Nodup) : ((posI ps).map (·.1)).Nodup := by
  unfold posI
  exact h.sublist ((List.filter_sublist).map _)
theorem pos_len (ps : List (Int × Int)) : (posI ps).length ≤ ps.length := List.length_filter_le _ _
def prs (S : List Int) (f : Int → Int) : List (Int × Int) := S.map fun k => (k, f k)
theorem prs_keys (S : List Int) (f : Int → Int) : (prs S f).map (·.1) = S := by
  unfold prs
  rw [List.map_map]
  exact List.map_id _
theorem prs_td {S : List Int} {f : Int → Int} (nd : S.Nodup) (rg : ∀ k ∈ S, 0 ≤ k ∧ k < 63) : Td (posI (prs S f)) := by
  have mem : ∀ p ∈ posI (prs S f), 0 < p.2 ∧ p.1 ∈ S := fun p hp => by
    have h := List.mem_filter.mp hp
    refine ⟨of_decide_eq_true h.2, ?_⟩
    have := List.mem_map_of_mem (f := (·.1)) h.1
    rw [prs_keys] at this
    exact this
  exact ⟨⟨pos_nd (by rw [prs_keys]; exact nd), fun p hp => Int.le_of_lt (mem p hp).1, fun p hp => rg _ (mem p hp).2⟩, fun p hp => (mem p hp).1⟩
theorem prs_ct {S : List Int} {f : Int → Int} (nd : S.Nodup) (k : Int) (hk : k ∈ S) (h0 : 0 ≤ f k) : ct (posI (prs S f)) k = f k := by
  by_cases h : 0 < f k
  · have hm : (k, f k) ∈ posI (prs S f) := List.mem_filter.mpr ⟨List.mem_map_of_mem (f := fun k => (k, f k)) hk, decide_eq_true h⟩
    exact ct_of (p := (k, f k)) (pos_nd (by rw [prs_keys]; exact nd)) hm
  · have e : f k = 0 := by omega
    rw [e]
    apply ct_out
    intro z
    obtain ⟨p, hp, e2⟩ := List.mem_map.mp z
    have q := List.mem_filter.mp hp
    obtain ⟨k', _, e3⟩ := List.mem_map.mp q.1
    have := of_decide_eq_true q.2
    rw [← e3] at e2 this
    have e2 : k' = k := e2
    rw [e2] at this
    exact h this
theorem prs_out {S : List Int} {f : Int → Int} {k : Int} (hk : k ∉ S) : ct (posI (prs S f)) k = 0 := by
  apply ct_out
  intro z
  apply hk
  have : k ∈ (prs S f).map (·.1) := ((List.filter_sublist).map _).subset z
  rw [prs_keys] at this
  exact this
theorem two {m n : List (Int × Int)} {k : Int} : (∃ x ∈ [m, n], k ∈ x.map (·.1)) ↔ k ∈ m.map (·.1) ∨ k ∈ n.map (·.1) := by simp
theorem ct_getD (m : List (Int × Int)) (h : Int) : ((valV (dI m) (Sum.inl h : Key)).getD (.int 0)) = V.int (ct m h) := by
  rw [dI_val]
  unfold ct
  cases lkI m h <;> rfl
def cfl (n c k w cs : V) : List (Str × V) := [("number", n), ("caller", c), ("count", k), ("word", w), ("causes", cs)]
theorem cfl_put (n c k w cs : V) : putF "causes" cs (putF "word" w (putF "count" k (putF "caller" c (putF "number" n [])))) = cfl n c k w cs := by
  have e : ∀ (a b : Str), decide (a = b) = false → a ≠ b := fun a b h => of_decide_eq_false h
  simp only [putF, cfl, if_neg (e "number" "caller" (by decide +kernel)), if_neg (e "number" "count" (by decide +kernel)), if_neg (e "caller" "count" (by decide +kernel)), if_neg (e "number" "word" (by decide +kernel)), if_neg (e "caller" "word" (by decide +kernel)), if_neg (e "count" "word" (by decide +kernel)), if_neg (e "number" "causes" (by decide +kernel)), if_neg (e "caller" "causes" (by decide +kernel)), if_neg (e "count" "causes" (by decide +kernel)), if_neg (e "word" "causes" (by decide +kernel))]
theorem cfl_number {n c k w cs : V} : (cfl n c k w cs).lookup ("number" : Str) = some n := by kernel_rfl
theorem cfl_caller {n c k w cs : V} : (cfl n c k w cs).lookup ("caller" : Str) = some c := by kernel_rfl
theorem cfl_count {n c k w cs : V} : (cfl n c k w cs).lookup ("count" : Str) = some k := by kernel_rfl
theorem cfl_word {n c k w cs : V} : (cfl n c k w cs).lookup ("word" : Str) = some w := by kernel_rfl
theorem cfl_causes {n c k w cs : V} : (cfl n c k w cs).lookup ("causes" : Str) = some cs := by kernel_rfl
theorem cfl_free {n c k w cs : V} : (cfl n c k w cs).lookup ("free" : Str) = none := by kernel_rfl
theorem cfl_in_turn {n c k w cs : V} : (cfl n c k w cs).lookup ("in_turn" : Str) = none := by kernel_rfl
theorem cfl_asks_place {n c k w cs : V} : (cfl n c k w cs).lookup ("asks_place" : Str) = none := by kernel_rfl
theorem cfl_kind {n c k w cs : V} : (cfl n c k w cs).lookup ("kind" : Str) = none := by kernel_rfl
theorem cfl_name {n c k w cs : V} : (cfl n c k w cs).lookup ("name" : Str) = none := by kernel_rfl
theorem cfl_rank {n c k w cs : V} : (cfl n c k w cs).lookup ("rank" : Str) = none := by kernel_rfl
theorem cfl_told {n c k w cs : V} : (cfl n c k w cs).lookup ("told" : Str) = none := by kernel_rfl
theorem x_kinds {K : PySem.W.Frag} {H : Hp} {Q : VK} {a : Addr} {kd : Str} (h : kd = "own" ∨ kd = "heard" ∨ kd = "one") (ha : SqT K H a [.str "own", .str "heard", .str "one"]) (q : Q (.bl false) H) : rInP K true (.str kd) (.ref a) H Q := by
  refine ⟨a, _, _, _, rfl, .inr ha, .cons (.str _) (.cons (.str _) (.cons (.str _) .nil)), .str kd, by kernel_rfl, ?_, by show 0 ≤ 60; decide, ?_⟩
  · rcases h with rfl | rfl | rfl <;> kernel_rfl
  · have e : (([.str "own", .str "heard", .str "one"] : List PyData).any fun z => z.eqv (.str kd)) = true := by rcases h with rfl | rfl | rfl <;> kernel_rfl
    show Q (.bl (!_)) H
    rw [e]
    exact q
theorem ne_oh : decide (("heard" : Str) = "own") = false := by decide +kernel
theorem ne_oo : decide (("one" : Str) = "own") = false := by decide +kernel
theorem ne_ho : decide (("one" : Str) = "heard") = false := by decide +kernel
theorem eq_oo : decide (("own" : Str) = "own") = true := by decide +kernel
theorem eq_hh : decide (("heard" : Str) = "heard") = true := by decide +kernel
def prD (p : Int × Int) : PyData := .tuple [.int p.1, .int p.2]
theorem Prs.dps {K : PySem.W.Frag} {H : Hp} : ∀ {xs : List V} {ps : List (Int × Int)}, Prs H xs ps → Dps K H xs (ps.map prD)
  | _, _, .nil => .nil
  | _, _, .cons r t => by
    obtain ⟨a, rfl, h⟩ := r
    exact .cons (.tup (SqT.of h) (.cons (.int _) (.cons (.int _) .nil))) (Prs.dps t)
theorem prs_lay : ∀ ps : List (Int × Int), PyData.canLayAll0 (ps.map prD) = true
  | [] => rfl
  | p :: ps => by rw [List.map_cons, PyData.canLayAll0.eq_2, prs_lay ps]; rfl
theorem prs_dep : ∀ ps : List (Int × Int), PyData.depthAll (ps.map prD) ≤ 1
  | [] => by rw [List.map_nil, PyData.depthAll.eq_1]; omega
  | p :: ps => by
    have e : PyData.depthAll ((p :: ps).map prD) = max (prD p).depth (PyData.depthAll (ps.map prD)) := rfl
    rw [e]
    have := prs_dep ps
    have : (prD p).depth = 1 := rfl
    omega
theorem x_neNil {K : PySem.W.Frag} {H : Hp} {Q : VK} {a b : Addr} {xs : List V} {ds : List PyData} (ha : SqL K H a xs) (hx : Dps K H xs ds) (hl : PyData.canLayAll0 ds = true) (hb : SqL K H b []) (q : Q (.bl (!decide (ds = []))) H) : rNeP K (.ref a) (.ref b) H Q := by
  refine ⟨.list ds, .list [], .inr ⟨_, _, _, rfl, rfl, ha, hx⟩, .inr ⟨_, _, _, rfl, rfl, hb, .nil⟩, by rw [PyData.canLay0.eq_5]; exact hl, rfl, by have : (PyData.list []).depth = 1 := rfl; omega, ?_⟩
  have e : (PyData.list ds).eqv (.list []) = decide (ds = []) := by
    cases ds with
    | nil => rfl
    | cons d ds => rw [decide_eq_false (by intro z; cases z)]; rfl
  rw [e]
  exact q
theorem x_cat {H : Hp} {Q : VK} {a b : Addr} {xs zs : List V} (h1 : H a = some (.lst xs)) (h2 : H b = some (.lst zs)) (hl : xs.length + zs.length ≤ 1000) (h : ∀ p H', H p = none → Same H H' → H' p = some (.lst (xs ++ zs)) → Q (.ref p) H') : rCat (.ref a) (.ref b) H Q := ⟨a, b, xs, zs, rfl, rfl, h1, h2, Nat.le_of_lt (small1000 hl), fun p hp => h p _ hp (same_upd hp) upd_same⟩
structure TCall (K : PySem.W.Frag) (C : Addr) : Prop where
  cl : Cls K C
  n1 : NoAttr K C "number"
  n2 : NoAttr K C "caller"
  n3 : NoAttr K C "count"
  n4 : NoAttr K C "word"
  n5 : NoAttr K C "causes"
end L2
set_option Elab.async false
set_option linter.all false
set_option maxRecDepth 100000
namespace L2
open PySem PySem.Spec PyProof.Rows
section
variable {X : Cx}
end
section
variable {D : Ends} {σ : St} {H : Hp} {Q : VK}
theorem x_gisd {d : Addr} {kvs : List (Key × V)} {P : Addr → Prop} (hd : Rd H d (.dK kvs)) (h : P d) : ∃ a, V.ref d = .ref a ∧ IsD H a ∧ P a := ⟨d, rfl, .inl ⟨_, hd⟩, h⟩
end
end L2
set_option Elab.async false
set_option linter.all false
set_option maxRecDepth 100000
namespace L2
open PySem PySem.Spec PyProof.Rows
theorem x_rdictG {H : Hp} {Q : VK} {a : Addr} {kvs : List (Key × V)} (hd : Rd H a (.dK kvs)) (h : ∀ p H', H p = none → Same H H' → H' p = some (.dK kvs) → Q (.ref p) H') : rDictD [.ref a] H Q := ⟨a, _, rfl, hd, fun p hp => h p _ hp (same_upd hp) upd_same⟩
end L2
set_option Elab.async false
set_option linter.all false
set_option maxRecDepth 100000
namespace L2
open PySem PySem.Spec PyProof.Rows
section
variable {X : Cx}
end
theorem x_sl3 {r : V → Option Int → Option Int → Option Int → Hp → VK → Prop} {te : TE} {tl th tk : TO} {σ : St} {H : Hp} {Q : VK} (h : te σ H fun x H1 => tl σ H1 fun l H2 => th σ H2 fun u H3 => tk σ H3 fun k H4 => r x l u k H4 Q) : tSl3 r te tl th tk σ H Q := h
section
variable {X : Cx}
end
end L2
set_option Elab.async false
set_option linter.all false
set_option maxRecDepth 100000
namespace GX
open PySem PyProof.Rows
end GX
namespace L2
open PySem PySem.Spec PyProof.Rows
theorem paired_at {α β : Type} {F : α → β → Prop} : ∀ {l : List α} {m : List β} {i : Nat} {a : α}, Paired F l m → l[i]? = some a → ∃ b, m[i]? = some b ∧ F a b
  | _, _, _, _, .nil, e => by simp at e
  | _, _, 0, _, .cons h _, e => by simp at e; subst e; exact ⟨_, rfl, h⟩
  | _, _, i + 1, x, .cons _ t, e => by
    obtain ⟨b, h1, h2⟩ := paired_at (i := i) t (by simpa using e)
    exact ⟨b, by simpa using h1, h2⟩
section
variable {X : Cx}
end
end L2
set_option Elab.async false
set_option linter.all false
set_option maxRecDepth 100000
namespace HT
open PySem PyProof.Rows
theorem rcGt_int (A : Around) (s : Shared) (a : Int) (t : Tok) (c : Int) (u : Tok) (prog : Program) (w : World) (E : Value → Shared → Prop) (Q : Value → Shared → Prop) (h : Q (.bool (decide (c < a))) s) :
    wpAny (model prog w) A (richCompare .Gt (.int a t) (.int c u)) Q E s :=
  (PyProof.Rows.gt_int h : wpAny (model prog w) A (compareOp .Gt (.int a t) (.int c u)) Q E s)
section
open PySem.SeqAt
open PySem.AutoSeq1 (wpAny_loadPart')
open PySem.MeetsSeq PySem.MeetsSeq2 PySem.MeetsSeq3
theorem tuple_gt_ints (l b : Addr) (items items2 : Array Value) (n n2 : Nat) (dd dd2 : Option Addr) (sl sl2 : Array (Option Value)) (ns ms : List Int) (hi : IntsAre items.toList ns) (hj : IntsAre items2.toList ms) :
    Meets (Builtin.«tuple.__gt__» ⟨[.ref l, .ref b], []⟩)
      (fun _ R s => s.heap.get? l = some { cls := .type "tuple", dict := dd, data := .seq items n, slots := sl } ∧ s.heap.get? b = some { cls := .type "tuple", dict := dd2, data := .seq items2 n2, slots := sl2 } ∧
        R (.ok (.ret (.bool (lexLt ms ns)))) s) :=
  .of_wp fun prog w A R s h => by
    obtain ⟨hp, g, d, tk, os⟩ := s; obtain ⟨hl, hb, h⟩ := h
    have f2 := AutoSeq1.sub_tuple_tuple
    have z1 : items.size = ns.length := by rw [← hi.length]; simp
    have z2 : items2.size = ms.length := by rw [← hj.length]; simp
    wp_walk using wpAny_loadPart' hl, wpAny_loadPart' hb, wpAny_forIn_list _ (fun rest b s' => b.1 = none ∧ s' = ⟨hp, g, d, tk, os⟩ ∧ ∃ (vs ws : List Value) (ns' ms' : List Int), rest = vs.zip ws ∧
      IntsAre vs ns' ∧ IntsAre ws ms' ∧ ns'.length + items2.size = ms'.length + items.size ∧ R (.ok (.ret (.bool (lexLt ms' ns')))) ⟨hp, g, d, tk, os⟩) _
    case turn =>
      rintro ⟨y, x⟩ rest b s' ⟨hb', rfl, vs, ws, ns', ms', hz, hvi, hwi, hlen, hR⟩
      cases hvi with
      | nil => rw [List.zip_nil_left] at hz; cases hz
      | cons a t hvi' =>
        cases hwi with
        | nil => rw [List.zip_nil_right] at hz; cases hz
        | cons c u hwi' =>
          rw [List.zip_cons_cons] at hz
          injection hz with hyx hrest
          injection hyx with hy hx
          subst hy hx
          rw [lexLt_cons] at hR
          simp only [List.length_cons] at hlen
          obtain ⟨e, he, hiff⟩ := eqAt_int A.in1 ⟨hp, g, d, tk, os⟩ a t c u
          refine wpAny_bind (he prog w _ _ ?_)
          cases e with
          | true =>
            rw [if_pos (hiff.mp rfl).symm] at hR
            wp_walk
            exact ⟨rfl, rfl, _, _, _, _, hrest, hvi', hwi', by omega, hR⟩
          | false =>
            rw [if_neg (fun q => absurd (hiff.mpr q.symm) Bool.false_ne_true)] at hR
            have hri := rcGt_int A.in1 ⟨hp, g, d, tk, os⟩ a t c u prog w
            wp_walk using hri
            exact ⟨_, rfl, by simpa using hR⟩
    case fin =>
      rintro ⟨b1, b2⟩ s' ⟨hb', rfl, vs, ws, ns', ms', hz, hvi, hwi, hlen, hR⟩
      simp only at hb'
      subst hb'
      have hv : lexLt ms' ns' = decide (items2.size < items.size) := by
        cases hvi with
        | nil =>
          cases hwi with
          | nil =>
            simp only [List.length_nil] at hlen
            rw [lexLt_nil_nil]
            exact (decide_eq_false (by omega)).symm
          | cons c u hw =>
            simp only [List.length_nil, List.length_cons] at hlen
            rw [lexLt_cons_nil]
            exact (decide_eq_false (by omega)).symm
        | cons a t hv =>
          cases hwi with
          | nil =>
            simp only [List.length_nil, List.length_cons] at hlen
            rw [lexLt_nil_cons]
            exact (decide_eq_true (by omega)).symm
          | cons c u hw =>
            rw [List.zip_cons_cons] at hz
            cases hz
      rw [hv] at hR
      wp_walk
      exact ⟨_, rfl, by simpa [Builtin.Tuple.tupleCompareSizes] using hR⟩
    case h =>
      exact ⟨rfl, rfl, items.toList, items2.toList, ns, ms, rfl, hi, hj, by omega, h⟩
end
section
variable {prog : Program} {w : World} {A : Around} {E : Value → Shared → Prop} {s : Shared}
theorem gt_tupInts {l b : Addr} {items items2 : Array Value} {ns ms : List Int} {Q : Value → Shared → Prop} (hl : IsTup s.heap l items) (hb : IsTup s.heap b items2) (hi : IntsAre items.toList ns) (hj : IntsAre items2.toList ms)
    (hu : A.units < cLine) (h : Q (.bool (lexLt ms ns)) s) : wpAny (model prog w) A (compareOp .Gt (.ref l) (.ref b)) Q E s := by
  obtain ⟨⟨cls, dd, data, sl⟩, ho, hc, n, hd⟩ := id hl
  obtain ⟨⟨cls2, dd2, data2, sl2⟩, ho2, hc2, n2, hd2⟩ := id hb
  simp only at hc hd hc2 hd2
  subst hc hd hc2 hd2
  exact richCompare_meets_room (op := .Gt) ⟨_, ho, rfl⟩ ⟨_, ho2, rfl⟩ PySem.F.slot_tuple_gt PySem.F.entry_tuple_gt (PySem.F.args_tuple_gt_2 _ _) (tuple_gt_ints l b items items2 n n2 dd dd2 sl sl2 ns ms hi hj)
    ⟨ho, ho2, show Value.bool (lexLt ms ns) ≠ Value.notImplemented ∧ Q (.bool (lexLt ms ns)) s from ⟨(fun x => nomatch x), h⟩⟩ hu
end
end HT
namespace L2
open PySem PySem.Spec PyProof.Rows
section
variable {X : Cx}
def rGtT (K : PySem.W.Frag) : R2 := fun x y H Q => ∃ a b ns ms, x = .ref a ∧ y = .ref b ∧ SqT K H a (ns.map V.int) ∧ SqT K H b (ms.map V.int) ∧ Q (.bl (HT.lexLt ms ns)) H
theorem op_gtT {K : PySem.W.Frag} (hK : X.K = K) (hu : X.A.units < cLine) : OpR X (compareOp .Gt) (rGtT K) := by
  subst hK
  intro pins s σ H x y v u Q I rx ry h
  obtain ⟨a, b, ns, ms, rfl, rfl, ha, hb, q⟩ := h
  cases rx
  cases ry
  obtain ⟨its, r1, p1, _⟩ := I.tuple ha
  obtain ⟨its2, r2, p2, _⟩ := I.tuple hb
  have i1 : IntsAre its.toArray.toList ns := intsAre_of r1
  have i2 : IntsAre its2.toArray.toList ms := intsAre_of r2
  exact HT.gt_tupInts p1 p2 i1 i2 hu ⟨.bl (HT.lexLt ms ns), H, I, rfl, q⟩
end
section
variable {me hd ba ye vo re ag v : V}
end
end L2
set_option Elab.async false
set_option linter.all false
set_option maxRecDepth 100000
namespace GX
open PySem PyProof.Rows
section
variable {prog : Program} {w : World} {A : Around} {R : Result → Shared → Prop} {I d : Addr} {fp wr : List Addr} {n : Nat} {P : Nat → Value → Prop} {St : Nat → Heap → Prop} {K : Type} [DecidableEq K] {knd : KeyKind prog w K}
def mergedT (kx : List (List K × Addr × Value)) : List (List K × Addr × Value) := kx.foldl (fun acc p => storedH acc p.1 p.2.1 p.2.2) []
theorem mergedT_snoc (kx : List (List K × Addr × Value)) (p : List K × Addr × Value) : mergedT (kx ++ [p]) = storedH (mergedT kx) p.1 p.2.1 p.2.2 := by
  unfold mergedT
  rw [List.foldl_append]
  rfl
theorem storedH_mem {xs : List (List K × Addr × Value)} {k : List K} {b : Addr} {v : Value} {x : List K × Addr × Value} (h : x ∈ storedH xs k b v) : (∃ y ∈ xs, y.1 = x.1 ∧ y.2.1 = x.2.1) ∨ x = (k, b, v) := by
  unfold storedH at h
  by_cases z : (atKey xs k).isSome = true
  · rw [if_pos z] at h
    obtain ⟨y, hy, e⟩ := List.mem_map.mp h
    refine .inl ⟨y, hy, ?_⟩
    rw [← e]
    unfold putAt
    split <;> exact ⟨rfl, rfl⟩
  · rw [if_neg z] at h
    rcases List.mem_append.mp h with q | q
    · exact .inl ⟨x, q, rfl, rfl⟩
    · exact .inr (List.mem_singleton.mp q)
theorem storedH_len (xs : List (List K × Addr × Value)) (k : List K) (b : Addr) (v : Value) : (storedH xs k b v).length ≤ xs.length + 1 := by
  unfold storedH
  split
  · rw [List.length_map]; omega
  · rw [List.length_append]; exact Nat.le_refl _
theorem foldT_facts {G : List K → Addr → Prop} : ∀ (kx acc : List (List K × Addr × Value)), (∀ x ∈ acc, G x.1 x.2.1) → (∀ p ∈ kx, G p.1 p.2.1) → (∀ x ∈ kx.foldl (fun acc p => storedH acc p.1 p.2.1 p.2.2) acc, G x.1 x.2.1) ∧ (kx.foldl (fun acc p => storedH acc p.1 p.2.1 p.2.2) acc).length ≤ acc.length + kx.length
  | [], acc, ha, _ => ⟨ha, Nat.le_refl _⟩
  | p :: kx, acc, ha, h => by
    have hp := h p List.mem_cons_self
    have := foldT_facts (G := G) kx (storedH acc p.1 p.2.1 p.2.2) (fun x hx => by
      rcases storedH_mem hx with ⟨y, hy, e1, e2⟩ | e
      · have := ha y hy
        rw [e1, e2] at this
        exact this
      · rw [e]; exact hp) (fun q hq => h q (List.mem_cons_of_mem _ hq))
    refine ⟨this.1, ?_⟩
    have l := storedH_len acc p.1 p.2.1 p.2.2
    have l2 := this.2
    simp only [List.foldl_cons, List.length_cons]
    omega
theorem isT_keep {h h' : Heap} {k : List K} {b : Addr} (x : IsTupleKey knd h k b) (e : ∀ o, h.get? b = some o → h'.get? b = some o) : IsTupleKey knd h' k b := by
  obtain ⟨o, items, n, ho, r⟩ := x
  exact ⟨o, items, n, e o ho, r⟩
def DT (knd : KeyKind prog w K) (h : Heap) (d : Addr) (xs : List (List K × Addr × Value)) : Prop := ∃ o es ep, h.get? d = some o ∧ o.ExactDict ∧ o.data = .dict es ep ∧ es.toList = xs.map (entryOfKey (tupleKind knd)) ∧ (xs.map (·.1)).Nodup
theorem upd_loopT (W : Walks prog w A.in1 I fp wr n P St) (nd : d ∉ fp) (h₀ : Heap) (kx : List (List K × Addr × Value)) (hn : kx.length = n) (hz : n ≤ sizeLine) (hu : (tupleKind knd).room A.in1)
    (hK : ∀ p ∈ kx, IsTupleKey knd h₀ p.1 p.2.1 ∧ p.2.1 ≠ d ∧ p.2.1 ∉ wr)
    (hP : ∀ i v, P i v → ∃ a k b x o c, v = .ref a ∧ kx[i]? = some (k, b, x) ∧ h₀.get? a = some o ∧ o.cls = .type "tuple" ∧ o.data = .seq #[.ref b, x] c ∧ a ≠ d ∧ a ∉ wr) :
    ∀ (k i : Nat) (s : Shared) (t : Tok), n = i + k → St i s.heap → (∀ b o, b ∉ wr → b ≠ d → h₀.get? b = some o → s.heap.get? b = some o) → DT knd s.heap d (mergedT (kx.take i)) →
    (∀ h' tk, (∀ b o, b ∉ wr → b ≠ d → h₀.get? b = some o → h'.get? b = some o) → DT knd h' d (mergedT kx) → R (.ok (.ret .none)) { s with heap := h', toks := tk }) →
    codeAny (model prog w) A (.builtin "dict.update.loop" ⟨[.ref d, .ref I, .int i t, .none], []⟩) R s := by
  have nw : d ∉ wr := fun z => nd (W.sub _ z)
  have isAt : ∀ (h : Heap) (j : Nat), (∀ b o, b ∉ wr → b ≠ d → h₀.get? b = some o → h.get? b = some o) → ∀ x ∈ mergedT (kx.take j), IsTupleKey knd h x.1 x.2.1 := fun h j kp => (foldT_facts (G := fun k b => IsTupleKey knd h k b) (kx.take j) [] (fun x hx => (nomatch hx)) (fun p hp => by
    obtain ⟨q1, q2, q3⟩ := hK p (List.mem_of_mem_take hp)
    exact isT_keep q1 fun o e => kp _ o q3 q2 e)).1
  intro k i s t en st kp dd fin
  refine upd_go (D := fun i h => (∀ b o, b ∉ wr → b ≠ d → h₀.get? b = some o → h.get? b = some o) ∧ DT knd h d (mergedT (kx.take i))) W nd ?_ ?_ k i s t en st ⟨kp, dd⟩ fun h tk q => fin h tk q.1 ?_
  · rintro i h h' ⟨kp, od, es, ep, ho, r⟩ q
    exact ⟨fun b o nb nb' e => q b o nb (kp b o nb nb' e), od, es, ep, q d od nw ho, r⟩
  · rintro i v s pv ⟨kp, od, es, ep, ho, r1, r2, r3, r4⟩
    obtain ⟨a, k, b, x, o, c, rfl, hx, ha, hc, hd, na, naw⟩ := hP i v pv
    obtain ⟨q1, q2, q3⟩ := hK _ (List.mem_of_getElem? hx)
    have len := (foldT_facts (G := fun _ _ => True) (kx.take i) [] (fun _ _ => trivial) fun _ _ => trivial).2
    refine ⟨a, o, .ref b, x, c, rfl, kp a o naw na ha, hc, hd, fun Q q => wpAny_dictSet_heap (knd := tupleKind knd) hu (isT_keep q1 fun o e => kp _ o q3 q2 e) ⟨od, es, ep, ho, r1, r2, r3, isAt s.heap i kp, r4⟩ (fun h2 d2 sb => q h2 ⟨fun b o nb nb' e => (sb.2 b nb').trans (kp b o nb nb' e), ?_⟩ sb.2 _) (Nat.le_trans len (by rw [List.length_take, List.length_nil]; omega))⟩
    obtain ⟨od, es, ep, ho, r1, r2, r3, _, r4⟩ := d2
    rw [List.take_succ, hx, Option.toList_some, mergedT_snoc]
    exact ⟨od, es, ep, ho, r1, r2, r3, r4⟩
  · have z := q.2
    rwa [← hn, List.take_length] at z
end
section
variable {prog : Program} {w : World} {A : Around} {E : Value → Shared → Prop} {s : Shared} {K : Type} [DecidableEq K] {knd : KeyKind prog w K}
theorem dict_of_listT {l : Addr} {vs : List Value} {n : Nat} {kx : List (List K × Addr × Value)} {Q : Value → Shared → Prop} (hA : A.handled = none) (hu : (tupleKind knd).room A.in1.in1)
    (hl : s.heap.get? l = some { cls := .type "list", dict := none, data := .seq vs.toArray n, slots := #[] }) (hz : vs.length ≤ sizeLine) (hlen : kx.length = vs.length)
    (hK : ∀ p ∈ kx, IsTupleKey knd s.heap p.1 p.2.1)
    (hP : ∀ (i : Nat) v, vs[i]? = some v → ∃ a k b x o c, v = .ref a ∧ kx[i]? = some (k, b, x) ∧ s.heap.get? a = some o ∧ o.cls = .type "tuple" ∧ o.data = .seq #[.ref b, x] c)
    (h : ∀ h' tk, (∀ b o, s.heap.get? b = some o → h'.get? b = some o) → DT knd h' s.heap.objs.size (mergedT kx) → Q (.ref s.heap.objs.size) { s with heap := h', toks := tk }) :
    wpAny (model prog w) A (call (.type "dict") [.ref l]) Q E s := by
  have hl' : (newD s.heap).get? l = some { cls := .type "list", dict := none, data := .seq vs.toArray n, slots := #[] } := Heap.get?_push_of_some _ hl
  refine dict_opens (T := "list") ⟨_, hl', rfl⟩ (by decide) (no_keys hA hl' fun h1 tk1 k1 => ⟨rfl, ?_⟩)
  have hl1 := k1 l _ hl'
  have lt1 : l < h1.objs.size := Heap.lt_size hl1
  have ld : l < s.heap.objs.size := Heap.lt_size hl
  have il : h1.IsList l vs.toArray := ⟨_, hl1, rfl, n, rfl⟩
  have d1 : DT knd h1 s.heap.objs.size [] := by
    obtain ⟨od, es, ep, ho, r1, r2, r3, _, r4⟩ := Heap.DictOfH.new (knd := tupleKind knd) s.heap
    exact ⟨od, es, ep, k1 _ _ ho, r1, r2, r3, r4⟩
  have dlt : s.heap.objs.size < h1.objs.size := by
    obtain ⟨od, es, ep, ho, r⟩ := d1
    exact Heap.lt_size ho
  have hI : ∀ {b : Addr}, b < h1.objs.size → b ≠ h1.objs.size := fun z => Nat.ne_of_lt z
  have nw : ∀ {b : Addr}, b < s.heap.objs.size → b ∉ [h1.objs.size] := fun {b} hb z => by
    have z' : b = h1.objs.size := by simpa using z
    exact absurd (Nat.lt_trans hb dlt) (by rw [z']; exact Nat.lt_irrefl _)
  refine wpAny_pyIter_list (s := { s with heap := h1, toks := tk1 }) il ?_
  have W := Walks.list (prog := prog) (w := w) (A := A.in1.in1) hA h1.objs.size l (hI lt1) vs.toArray
  refine upd_loopT (A := A.in1) (knd := knd) W (d := s.heap.objs.size) ?_ s.heap kx (by rw [hlen, List.size_toArray]) (by rw [List.size_toArray]; exact hz) hu (fun p hp => ?_) (fun i v hv => ?_) vs.toArray.size 0 _ 0 (by omega)
    ⟨⟨_, Heap.get?_push_size _ rfl, rfl, rfl⟩, il.push _⟩ (fun b o _ nb e => Heap.get?_push_of_some _ (k1 b o (Heap.get?_push_of_some _ e))) ?_ fun h2 tk2 k2 d2 => ?_
  · intro z
    have z' : s.heap.objs.size = h1.objs.size ∨ s.heap.objs.size = l := by simpa using z
    rcases z' with z' | z'
    · exact absurd dlt (by rw [z']; exact Nat.lt_irrefl _)
    · exact absurd ld (by rw [z']; exact Nat.lt_irrefl _)
  · have q := hK p hp
    obtain ⟨o, items, m, ho, r⟩ := id q
    exact ⟨q, Nat.ne_of_lt (Heap.lt_size ho), nw (Heap.lt_size ho)⟩
  · obtain ⟨a, k, b, x, o, c, e1, e2, e4, e5, e6⟩ := hP i v (by simpa using hv)
    exact ⟨a, k, b, x, o, c, e1, e2, e4, e5, e6, Nat.ne_of_lt (Heap.lt_size e4), nw (Heap.lt_size e4)⟩
  · obtain ⟨od, es, ep, ho, r⟩ := d1
    exact ⟨od, es, ep, Heap.get?_push_of_some _ ho, r⟩
  · exact ⟨rfl, h h2 tk2 (fun b o e => k2 b o (nw (Heap.lt_size e)) (Nat.ne_of_lt (Heap.lt_size e)) e) d2⟩
end
end GX
namespace L2
open PySem PySem.Spec PyProof.Rows
abbrev PrsT (H : Hp) : List V → List (List Key × V) → Prop := Paired fun x q => ∃ a b, x = .ref a ∧ H a = some (.tup [.ref b, q.2]) ∧ H b = some (.tup (q.1.map kV))
def mergeT (ps : List (List Key × V)) : List (List Key × V) := ps.foldl (fun acc p => putK acc p.1 p.2) []
section
variable {X : Cx}
theorem pairsT_kx {pins : List (Addr × Obj)} {σ : St} {H : Hp} {s : Shared} (I : Inv X pins σ H s) : ∀ {xs : List V} {us : List Value} {ps : List (List Key × V)}, PrsT H xs ps → Vals xs us →
    ∃ kx : List (List Key × Addr × Value), Paired (fun (p : List Key × V) (q : List Key × Addr × Value) => p.1 = q.1 ∧ H q.2.1 = some (.tup (p.1.map kV)) ∧ RelV p.2 q.2.2) ps kx ∧ kx.length = us.length ∧ ∀ (i : Nat) v, us[i]? = some v → ∃ a k b x o c, v = .ref a ∧ kx[i]? = some (k, b, x) ∧ s.heap.get? a = some o ∧ o.cls = .type "tuple" ∧ o.data = .seq #[.ref b, x] c
  | _, _, _, .nil, .nil => ⟨[], .nil, rfl, fun i v e => by simp at e⟩
  | x :: xs, u :: us, p :: ps, .cons h t, .cons r q => by
    obtain ⟨kx, k1, k2, k3⟩ := pairsT_kx I t q
    obtain ⟨a, b, rfl, ha, hb⟩ := h
    obtain rfl : u = Value.ref a := r
    obtain ⟨_, its, rv, o, ho, hc, n, hd, _⟩ : [V.ref b, p.2].length ≤ sizeLine ∧ ∃ its : List Value, Vals [V.ref b, p.2] its ∧ IsTpl s.heap a its.toArray := I.hok a _ ha
    obtain ⟨u1, u2, rfl, r1, r2⟩ := vals2 rv
    obtain rfl : u1 = Value.ref b := r1
    refine ⟨(p.1, b, u2) :: kx, .cons ⟨rfl, hb, r2⟩ k1, congrArg (· + 1) k2, fun i v e => ?_⟩
    cases i with
    | zero =>
      have e' : Value.ref a = v := Option.some.inj e
      subst e'
      exact ⟨a, p.1, b, u2, o, n, rfl, rfl, ho, hc, hd⟩
    | succ i => exact k3 i v e
theorem kt_fold {H : Hp} : ∀ {ps : List (List Key × V)} {kx : List (List Key × Addr × Value)}, Paired (fun (p : List Key × V) (q : List Key × Addr × Value) => p.1 = q.1 ∧ H q.2.1 = some (.tup (p.1.map kV)) ∧ RelV p.2 q.2.2) ps kx → ∀ {acc : List (List Key × V)} {xs : List (List Key × Addr × Value)}, KT H acc xs →
    KT H (ps.foldl (fun acc p => putK acc p.1 p.2) acc) (kx.foldl (fun acc p => storedH acc p.1 p.2.1 p.2.2) xs)
  | _, _, .nil, _, _, h => h
  | p :: ps, q :: kx, .cons ⟨e1, e2, e3⟩ t, acc, xs, h => by
    rw [List.foldl_cons, List.foldl_cons]
    refine kt_fold t ?_
    rw [← e1]
    exact h.put p.1 e2 e3
theorem mergeT_len (ps : List (List Key × V)) : ∀ acc : List (List Key × V), (ps.foldl (fun acc p => putK acc p.1 p.2) acc).length ≤ acc.length + ps.length := by
  induction ps with
  | nil => intro acc; exact Nat.le_refl _
  | cons p ps ih =>
    intro acc
    have h1 := ih (putK acc p.1 p.2)
    have h2 := length_putK acc p.1 p.2
    simp only [List.foldl_cons, List.length_cons]
    omega
theorem call_dictTT (hc : X.calm = true) (hu : X.A.units + 2 < cLine) : CallR X (.type "dict") (fun xs H Q => ∃ (a : Addr) (ys : List V) (ps : List (List Key × V)), xs = [.ref a] ∧ H a = some (.lst ys) ∧ PrsT H ys ps ∧ ps.length ≤ 1000 ∧ ∀ p, H p = none → Q (.ref p) (upd H p (.dT (mergeT ps)))) := by
  intro pins s σ H xs us Q I r h
  obtain ⟨a, ys, ps, rfl, ha, hp, hl, q⟩ := h
  obtain ⟨u, rfl, rx⟩ := vals1 r
  cases rx
  obtain ⟨z, its, n, rv, hlen, e⟩ := I.lstM ha
  obtain ⟨kx, k1, k2, k3⟩ := pairsT_kx I hp rv
  have hK : ∀ p ∈ kx, IsTupleKey (mixKind X.prog X.w) s.heap p.1 p.2.1 := by
    have all : ∀ {l : List (List Key × V)} {m : List (List Key × Addr × Value)}, Paired (fun (p : List Key × V) (q : List Key × Addr × Value) => p.1 = q.1 ∧ H q.2.1 = some (.tup (p.1.map kV)) ∧ RelV p.2 q.2.2) l m → ∀ x ∈ m, IsTupleKey (mixKind X.prog X.w) s.heap x.1 x.2.1 := by
      intro l m q
      induction q with
      | nil => intro x hx; exact nomatch hx
      | @cons a b as bs h t ih =>
        intro x hx
        rcases List.mem_cons.mp hx with z | z
        · rw [z, ← h.1]; exact key_of I.hok h.2.1
        · exact ih x z
    exact all k1
  refine GX.dict_of_listT (knd := mixKind X.prog X.w) (I.ok.hd hc) ?_ e (by rw [← hlen]; exact z) k2 hK k3 fun h' tk kp dd => ?_
  · exact hu
  have I0 : Inv X pins σ H { s with heap := h', toks := tk } := I.kept kp
  obtain ⟨o, es, ep, ho, r1, r2, r3, r4⟩ := dd
  refine ⟨.ref s.heap.objs.size, _, I.laid (o := .dT (mergeT ps)) (t' := tk) kp (Nat.le_refl _) ⟨?_, beq_eq_false_iff_ne.mpr (Ne.symm (Nat.ne_of_lt I.big)), GX.mergedT kx, ?_, o, es, ep, ho, r1, r2, r3, r4⟩, rfl, q _ (I.hok.fresh (Nat.le_refl _))⟩
  · have := mergeT_len ps []
    rw [List.length_nil] at this
    exact Nat.le_of_lt (small1000 (by unfold mergeT; omega))
  · refine (kt_fold k1 .nil).keeps fun c zs ec => ?_
    rw [upd_ne (ne_of_none ec (I.hok.fresh (Nat.le_refl _)))]
    exact ec
end
end L2
set_option Elab.async false
set_option linter.all false
set_option maxRecDepth 100000
namespace L2
open PySem PySem.Spec PyProof.Rows
abbrev Cx.one (X : Cx) : Cx := { X with A := X.A.in1, xe := fun _ _ => False }
section
variable {X : Cx} {pins : List (Addr × Obj)} {σ : St} {H : Hp} {s : Shared}
theorem Inv.one (I : Inv X pins σ H s) : Inv X.one pins σ H s :=
  ⟨⟨I.ok.mod, I.ok.kind, I.ok.glob, I.ok.blt, I.ok.above, I.ok.inj, I.ok.has, I.ok.cab, I.ok.hd, I.ok.frames, I.ok.stk, I.ok.exf, I.ok.bs, I.ok.bsz, I.ok.noex, I.ok.exfs, I.ok.funs, I.ok.frf⟩, I.os, I.bare, I.base, I.loc, I.cell, I.free, I.freeC, I.pin, I.hok, I.len⟩
theorem Inv.back (ok : X.Ok) (I : Inv X.one pins σ H s) : Inv X pins σ H s :=
  ⟨ok, I.os, I.bare, I.base, I.loc, I.cell, I.free, I.freeC, I.pin, I.hok, I.len⟩
end
theorem lex_irr : ∀ a : List Int, HT.lexLt a a = false
  | [] => rfl
  | x :: a => by rw [HT.lexLt_cons, if_pos rfl]; exact lex_irr a
theorem lex_asym : ∀ {a b : List Int}, HT.lexLt a b = true → HT.lexLt b a = false
  | [], [], h => by cases h
  | [], _ :: _, _ => rfl
  | _ :: _, [], h => by cases h
  | x :: a, y :: b, h => by
    rw [HT.lexLt_cons] at h ⊢
    by_cases z : x = y
    · rw [if_pos z] at h
      rw [if_pos z.symm]
      exact lex_asym h
    · rw [if_neg z] at h
      rw [if_neg (fun w => z w.symm)]
      have h := of_decide_eq_true h
      exact decide_eq_false (by omega)
theorem lex_cov : ∀ {a b c : List Int}, HT.lexLt a b = true → HT.lexLt c b = false → HT.lexLt a c = true
  | [], [], _, h, _ => by cases h
  | _ :: _, [], _, h, _ => by cases h
  | [], _ :: _, [], _, h => by cases h
  | [], _ :: _, _ :: _, _, _ => rfl
  | x :: a, y :: b, [], h, h2 => by cases h2
  | x :: a, y :: b, z :: c, h, h2 => by
    rw [HT.lexLt_cons] at h h2 ⊢
    by_cases e1 : x = y
    · rw [if_pos e1] at h
      by_cases e2 : z = y
      · rw [if_pos e2] at h2
        rw [if_pos (e1.trans e2.symm)]
        exact lex_cov h h2
      · rw [if_neg e2] at h2
        have h2 := of_decide_eq_false h2
        rw [if_neg (fun w => e2 (w.symm.trans e1))]
        exact decide_eq_true (by omega)
    · rw [if_neg e1] at h
      have h := of_decide_eq_true h
      by_cases e2 : z = y
      · rw [if_neg (fun w => e1 (w.trans e2))]
        exact decide_eq_true (by omega)
      · rw [if_neg e2] at h2
        have h2 := of_decide_eq_false h2
        rw [if_neg (by omega)]
        exact decide_eq_true (by omega)
section
variable {X : Cx} {pins : List (Addr × Obj)} {σ : St} {l f : Addr} {xs : List V} {its : List Value} {ks : List (List Int)} {k : Nat} {fd : FuncData} {ps : List Str} {sp : Sp}
theorem min_kd (a v d : Value) : argsOk "min" ⟨[a], [(Str.ofString "key", v), (Str.ofString "default", d)]⟩ := by unfold argsOk; kernel_rfl
theorem mn_key {s : Shared} {H : Hp} {Q : Value → Shared → Prop} {E : Value → Shared → Prop} (d : Value) (hh : X.A.handled = none) (hu : X.A.units + 2 < cLine) (F : FnOk X.prog X.w X.K X.mg X.base CX0 k f fd ps sp) (hr : Room k X.A.in1) (hb : Binds X.K fd ps [])
    (IV : Inv X pins σ H s) (rv : Vals xs its) (lk : xs.length = ks.length) (lst : ∀ s H', Inv X pins σ H' s → Same H H' → s.heap.IsList l its.toArray)
    (KY : ∀ (i : Nat) x k H3 (Q' : VK), xs[i]? = some x → ks[i]? = some k → Same H H3 → (∀ H4 t, Same H3 H4 → SqT X.K H4 t (k.map V.int) → Q' (.ref t) H4) → sp [x] H3 Q' E0)
    (hD : xs = [] → ∀ s', Inv X pins σ H s' → Q d s')
    (hR : ∀ (i : Nat) v kb s' H', its[i]? = some v → ks[i]? = some kb → (∀ (j' : Nat) k', ks[j']? = some k' → HT.lexLt k' kb = false ∧ (j' < i → HT.lexLt kb k' = true)) → Inv X pins σ H' s' → Same H H' → Q v s') :
    wpAny (model X.prog X.w) X.A (call (.builtin "min") [.ref l] [(Str.ofString "key", .ref f), (Str.ofString "default", d)]) Q E s := by
  have lx := rv.length
  have fp : ∀ x H', x = s.heap.objs.size ∨ x = s.heap.objs.size + 1 → H' x = none → FpOk X pins H' x := fun x H' hx n => IV.fpOk (by rcases hx with rfl | rfl <;> omega) n
  refine GX.best_call GX.opens_min GX.turn_min PySem.F.entry_min_loop PySem.F.plain_min_loop (ko := some (.ref f)) (d := some d) (vs := its) hh rfl (min_kd _ _ _) (lst s H IV (.refl _)) (bt := fun i j => HT.lexLt (ks.getD i []) (ks.getD j []))
    (G := fun L s' => ∃ H', Inv X pins σ H' s' ∧ (Same H H' ∧ (L = [] → H' = H)) ∧ (∀ x, x = s.heap.objs.size ∨ x = s.heap.objs.size + 1 → H' x = none) ∧ ∀ p ∈ L, ∃ t k, p.2 = .ref t ∧ ks[p.1]? = some k ∧ SqT X.K H' t (k.map V.int))
    ⟨fun i => lex_irr _, fun i j => lex_asym, fun a b c => lex_cov, ?_, ?_, ?_, ?_, ?_, ?_⟩ ?_ ?_ ?_
  · exact fun p q L s' ⟨H', a, b, c, e⟩ => ⟨H', a, ⟨b.1, fun z => nomatch z⟩, c, fun q hq => e q (List.mem_cons_of_mem _ hq)⟩
  · exact fun p L s' ⟨H', a, b, c, e⟩ => ⟨H', a, ⟨b.1, fun z => nomatch z⟩, c, fun q hq => e q (List.mem_singleton.mp hq ▸ List.mem_cons_self)⟩
  · rintro x L s' h tk hx ⟨H', a, b, c, e⟩ kp
    obtain ⟨f0, f1, f2, f3, f4, f5⟩ := fp x H' hx (c x hx)
    exact ⟨H', a.turned (it := x) kp f0 f1 f3 f4 f5, b, c, e⟩
  · exact fun L s' ⟨H', a, b, _⟩ => lst s' H' a b.1
  · rintro L s' j v a c m ⟨H', I1, ⟨sm, _⟩, nn, hL⟩ hv hS hI
    obtain ⟨oI, gI, cI, dI⟩ := id hI
    have hx : j < xs.length := by have := (List.getElem?_eq_some_iff.mp hv).1; omega
    obtain ⟨v', hv', rx⟩ := rv.get (List.getElem?_eq_getElem hx)
    cases hv.symm.trans hv'
    have hk : ks[j]? = some (ks[j]'(lk ▸ hx)) := List.getElem?_eq_getElem _
    have pl : ∀ b ∈ [s.heap.objs.size + 1, s.heap.objs.size], b = s.heap.objs.size ∨ b = s.heap.objs.size + 1 := fun b hb => by simp at hb; exact hb.symm
    have IP := I1.pinned (fp := [s.heap.objs.size + 1, s.heap.objs.size]) (fun b hb => fp b H' (pl b hb) (nn b (pl b hb))) fun b hb => by
      rcases pl b hb with rfl | rfl
      · exact ⟨oI, gI, fun z e => by rw [dI] at e; cases e⟩
      · exact ⟨_, hS, fun z e => nomatch e⟩
    refine wpAny_mono (run_fn (X := X.one) (vs := [xs[j]]) (us := [v]) (Q := fun z H4 => ∃ t, z = .ref t ∧ Same H' H4 ∧ SqT X.K H4 t ((ks[j]'(lk ▸ hx)).map V.int)) (E := E0) (dvs := []) (ds := []) F hr hb .nil (fun _ _ _ _ _ _ _ q => q.elim) IP.one (.cons rx .nil) (by
      rw [List.append_nil]
      exact KY j _ _ H' _ (List.getElem?_eq_getElem hx) hk sm fun H4 t s4 h4 => ⟨t, rfl, s4, h4⟩)) ?_ fun _ _ q => q.elim
    rintro u s2 ⟨z, H4, I4, rz, t, rfl, s4, ht⟩
    cases rz
    have I4 := Inv.back IV.ok I4
    have at_ : ∀ b o, b ∈ [s.heap.objs.size + 1, s.heap.objs.size] → s'.heap.get? b = some o → s2.heap.get? b = some o ∧ H4 b = none := fun b o hb e =>
      let r := I4.pin (b, o) (List.mem_append_right _ (List.mem_append_right _ (mem_pinsAt hb e)))
      ⟨r.1, r.2.1⟩
    have aS := at_ _ _ (by simp) hS
    have aI := at_ _ _ (by simp) gI
    refine ⟨⟨H4, I4.unpinned, ⟨sm.trans s4, fun z => nomatch z⟩, fun x hx => ?_, fun p hp => ?_⟩, aS.1, oI, aI.1, cI, dI⟩
    · rcases hx with rfl | rfl
      · exact aI.2
      · exact aS.2
    · rcases List.mem_cons.mp hp with rfl | hp
      · exact ⟨t, _, rfl, hk, ht⟩
      · obtain ⟨t', k', e1, e2, e3⟩ := hL p hp
        exact ⟨t', k', e1, e2, SmT.same s4 _ _ e3⟩
  · rintro i j y y' s' ⟨H', I1, _, nn, hL⟩
    obtain ⟨t1, k1, rfl, e1, h1⟩ := hL (j, y) (by simp)
    obtain ⟨t2, k2, rfl, e2, h2⟩ := hL (i, y') (by simp)
    obtain ⟨ia, ra, pa, _⟩ := I1.tuple h1
    obtain ⟨ib, rb, pb, _⟩ := I1.tuple h2
    refine HT.lt_tupInts (A := X.A.in1) pa pb (intsAre_of ra) (intsAre_of rb) (by show X.A.units + 1 < cLine; omega) ⟨?_, rfl⟩
    simp [List.getD_eq_getElem?_getD, e1, e2]
  · exact fun h kp => ⟨H, IV.kept (t' := s.toks) kp, ⟨.refl _, fun _ => rfl⟩, fun x hx => IV.hok.fresh (by rcases hx with rfl | rfl <;> omega), by simp⟩
  · exact fun e => ⟨d, rfl, fun s' ⟨H', a, b, _⟩ => hD (List.eq_nil_of_length_eq_zero (by rw [lx, e]; rfl)) s' (b.2 rfl ▸ a)⟩
  · rintro i v y s' hv ft ⟨H', I1, ⟨sm, _⟩, nn, hL⟩
    obtain ⟨t, k', _, e1, _⟩ := hL (i, y) (by simp)
    refine hR i v k' s' H' hv e1 (fun j k2 hj => ?_) I1 sm
    have b := ft j (by have := (List.getElem?_eq_some_iff.mp hj).1; omega)
    simpa [List.getD_eq_getElem?_getD, e1, hj] using b
end
theorem Room.one {k : Nat} {A : Around} (r : Room (k + 1) A) : Room k A.in1 := ⟨r.hd, by have := r.dp; show A.depth + 3 * k + 5 < recursionLimit; omega, by have := r.un; show A.units + 1 + 16 * k + 200 < cLine; omega⟩
def MinR (K : PySem.W.Frag) (sp : Sp) (x y : V) (H2 : Hp) (Q : VK) : Prop := ∃ (l : Addr) (xs : List V) (ks : List (List Int)), x = .ref l ∧ SqL K H2 l xs ∧ xs.length = ks.length ∧ (∀ x ∈ xs, ∃ p, x = V.ref p) ∧
  (∀ (i : Nat) (x : V) (k : List Int) (H3 : Hp) (Q' : VK), xs[i]? = some x → ks[i]? = some k → Same H2 H3 → (∀ H4 t, Same H3 H4 → SqT K H4 t (k.map V.int) → Q' (.ref t) H4) → sp [x] H3 Q' E0) ∧ (xs = [] → Q y H2) ∧
  ∀ (i : Nat) (v : V) (kb : List Int) (H' : Hp), xs[i]? = some v → ks[i]? = some kb → (∀ (j' : Nat) k', ks[j']? = some k' → HT.lexLt k' kb = false ∧ (j' < i → HT.lexLt kb k' = true)) → Same H2 H' → Q v H'
def tMinK (K : PySem.W.Frag) (sp : Sp) (te td : TE) : TE := fun σ H Q => te σ H fun x H1 => td σ H1 fun y H2 => MinR K sp x y H2 Q
theorem vals_refs : ∀ {xs : List V} {a b : List Value}, Vals xs a → Vals xs b → (∀ x ∈ xs, ∃ p, x = V.ref p) → a = b
  | _, _, _, .nil, .nil, _ => rfl
  | x :: xs, _, _, .cons r1 t1, .cons r2 t2, h => by
    obtain ⟨p, rfl⟩ := h x List.mem_cons_self
    rw [vals_refs t1 t2 fun y hy => h y (List.mem_cons_of_mem _ hy)]
    cases r1
    cases r2
    rfl
section
variable {X : Cx}
theorem pe_minkey {K : PySem.W.Frag} {e dflt : Expr} {te td : TE} {p p2 pos k1 k2 : Pos} {fx : Str} {k : Nat} {f : Addr} {fd : FuncData} {ps : List Str} {sp : Sp} (hK : X.K = K) (hc : X.calm = true) (hu : X.A.units + 2 < cLine) (ha : PA X [e] (tCons te tNil)) (hd : PE X dflt td) (hg : Gl X "min") (hm : X.mg "min" = none)
    (G : FnOk X.prog X.w X.K X.mg X.base CX0 k f fd ps sp) (hmk : X.mg fx = some (.ref f)) (hbk : Binds X.K fd ps []) (hgk : Gl X fx) (hr : Room (k + 1) X.A) (hdb : (fx == ("__debug__" : Str)) = false := by decide)
    (h1 : backTo pos (starEach [e] X.env) = (false, eval e X.env) :: backTo pos (starEach [] X.env) := by rfl) (h2 : (backTo pos (starEach [e] X.env)).any (·.1) = false := by rfl) :
    PE X (.Call (.Name "min" p) [e] [⟨some "key", .Name fx p2, k1⟩, ⟨some "default", dflt, k2⟩] pos) (tMinK K sp te td) := by
  subst hK
  intro pins s σ H Q I h
  refine wpAny_Call_Name_kw (ld_blt I hg hm PyProof.Rows.boot_min ?_)
  refine PyProof.Rows.callWith_kw ?_ h1 h2
  refine thn (ha pos pins s σ H (fun vs H1 => match vs with | [x] => td σ H1 fun y H2 => MinR X.K sp x y H2 Q | _ => False) I h) fun us s1 ⟨vs, H1, I1, r1, q1⟩ => ?_
  obtain ⟨x, rfl⟩ : ∃ x, vs = [x] := by
    match vs, q1 with
    | [x], _ => exact ⟨x, rfl⟩
  obtain ⟨u, rfl, rx⟩ := vals1 r1
  refine PyProof.Rows.kws_cons (ld_glob I1 hgk hmk ?_ hdb)
  refine PyProof.Rows.kws_cons (thn (hd pins s1 σ H1 _ I1 q1) fun w s2 ⟨y, H2, I2, ry, l, xs, ks, ex, hl, lk, rfs, KY, q0, q⟩ => ?_)
  subst ex
  cases rx
  refine PyProof.Rows.kws_nil ?_
  obtain ⟨its, rv, pl, hz⟩ := I2.list hl
  have lx := rv.length
  show wpAny _ _ (call (.builtin "min") [Value.ref l] [(Str.ofString "key", .ref f), (Str.ofString "default", w)]) _ _ _
  refine mn_key (H := H2) w (I2.ok.hd hc) hu G (Room.one hr) hbk I2 rv lk (fun s' H' I' sm => ?_) KY (fun e s' I' => ⟨y, H2, I', ry, q0 e⟩) (fun i v kb s' H' hv hkb best I' sm => ?_)
  · obtain ⟨its', rv', pl', _⟩ := I'.list (sm.seq hl)
    rw [vals_refs rv rv' rfs]
    exact pl'.isList
  · have hi : i < xs.length := by rw [lx]; exact (List.getElem?_eq_some_iff.mp hv).1
    obtain ⟨u', hu', ru⟩ := rv.get (List.getElem?_eq_getElem hi)
    rw [hv] at hu'
    cases hu'
    exact ⟨xs[i], H', I', ru, q i _ kb H' (List.getElem?_eq_getElem hi) hkb best sm⟩
end
theorem x_mink {K : PySem.W.Frag} {sp : Sp} {te td : TE} {σ : St} {H : Hp} {Q : VK} (h : te σ H fun x H1 => td σ H1 fun y H2 => MinR K sp x y H2 Q) : tMinK K sp te td σ H Q := h
end L2
set_option Elab.async false
set_option linter.all false
set_option maxRecDepth 100000
namespace L2
open PySem PySem.Spec PyProof.Rows
section
variable {prog : Program} {w : World} {A : Around} {E : Value → Shared → Prop} {s : Shared}
theorem srt_opens {l : Addr} {vs : List Value} {kw : List (Str × Value)} {Q : Value → Shared → Prop} (hl : s.heap.IsList l vs.toArray) (h64 : vs.length < 64) (a1 : argsOk "sorted" ⟨[.ref l], kw⟩) (a2 : ∀ D, argsOk "list.sort" ⟨[D], kw⟩)
    (h : ∀ h1 : Heap, GX.Grown s.heap h1 → h1.get? (s.heap.objs.size + 1) = some (seqObj "list" vs.toArray 0) → wpAny (model prog w) A.in1.in1 (Builtin.«list.sort» ⟨[.ref (s.heap.objs.size + 1)], kw⟩) (fun f s2 => f = .done (.ret .none) ∧ Q (.ref (s.heap.objs.size + 1)) s2) E { s with heap := h1 }) :
    wpAny (model prog w) A (call (.builtin "sorted") [.ref l] kw) Q E s := by
  have z : vs.length ≤ sizeLine := by rw [sizeLine_eq]; omega
  refine GX.sorted_in a1 (collect_list hl (wpAny_bind (wpAny_newList ?_ z)) z)
  have g : GX.Grown s.heap ((s.heap.push (seqObj "list" #[] 0)).update s.heap.objs.size (Obj.mapSeq (· ++ vs.toArray))) := fun b o q => (Heap.get?_update_other _ _ (Nat.ne_of_gt (Heap.lt_size q))).trans (Heap.get?_push_of_some _ q)
  have sz : ((s.heap.push (seqObj "list" #[] 0)).update s.heap.objs.size (Obj.mapSeq (· ++ vs.toArray))).objs.size = s.heap.objs.size + 1 := (Heap.size_after_update ..).trans (Heap.size_push ..)
  generalize (s.heap.push (seqObj "list" #[] 0)).update s.heap.objs.size (Obj.mapSeq (· ++ vs.toArray)) = h0 at g sz ⊢
  have at1 : (h0.push (seqObj "list" vs.toArray 0)).get? (s.heap.objs.size + 1) = some (seqObj "list" vs.toArray 0) := Heap.get?_push_at sz.symm rfl
  have := h _ (fun b o q => Heap.get?_push_of_some _ (g b o q)) at1
  show wpAny _ _ (holding [.ref h0.objs.size] (call (.builtin "list.sort") [.ref h0.objs.size] kw) >>= fun _ => ret (.ref h0.objs.size)) _ _ { s with heap := h0.push (seqObj "list" vs.toArray 0) }
  rw [sz]
  refine wpAny_bind (wpAny_holding (wpAny_call_entry_kw slot_list_sort ⟨_, at1, rfl⟩ entry_list_sort (wpAny_mono this (fun f s2 q => ?_) fun _ _ e => e) (a2 _)))
  exact ⟨_, q.1, wpAny_pure ⟨_, rfl, q.2⟩⟩
theorem emptied {a : Addr} {vs : List Value} {n : Nat} {k : Array Value → Nat → Value → Sem PySem.Fin} {P : PySem.Fin → Shared → Prop} (ho : s.heap.get? a = some (seqObj "list" vs.toArray n)) (h64 : vs.length < 64)
    (h : ∀ (h2 : Heap) (e : Nat), (∀ b o, b ≠ a → s.heap.get? b = some o → h2.get? b = some o) → h2.get? a = some (seqObj "list" #[] e) → wpAny (model prog w) A (k vs.toArray e (.ref h2.objs.size)) P E { s with heap := h2.push (seqObj "list" #[] 0) }) :
    wpAny (model prog w) A (Builtin.List.listItems (.ref a) >>= fun its => Builtin.List.listUpdate (.ref a) (fun _ => #[]) >>= fun _ => seqEpoch a >>= fun e => newTuple its.toList >>= fun t => newList [] >>= fun ks => holding [t, ks] (k its e ks)) P E s := by
  have z : vs.toArray.size ≤ sizeLine := by rw [List.size_toArray, sizeLine_eq]; omega
  obtain ⟨e, he⟩ : ∃ e, (s.heap.update a (Obj.mapSeq fun _ => (#[] : Array Value))).get? a = some (seqObj "list" #[] e) := ⟨_, get?_update_seq ho fun _ => #[]⟩
  refine wpAny_bind (listItems_at ho rfl (wpAny_bind (listUpdate_at ho rfl (wpAny_bind (seqEpoch_at he rfl (wpAny_bind (wpAny_newTuple (wpAny_bind (wpAny_newList (wpAny_holding (h _ e (fun b o nb q => ?_) (Heap.get?_push_of_some _ he))) (Nat.zero_le _))) ?_)))) z (Nat.zero_le _))))
  · exact Heap.get?_push_of_some _ ((Heap.get?_update_other _ _ (Ne.symm nb)).trans q)
  · simpa using z
theorem given_back {a : Addr} {e : Nat} {out : Array Value} {tl : Nat → Sem PySem.Fin} {P : PySem.Fin → Shared → Prop} (ho : s.heap.get? a = some (seqObj "list" #[] e)) (hz : out.size ≤ sizeLine)
    (h : ∀ (h1 : Heap) (c : Nat), (∀ b o, b ≠ a → s.heap.get? b = some o → h1.get? b = some o) → h1.get? a = some (seqObj "list" out c) → wpAny (model prog w) A (tl e) P E { s with heap := h1 }) :
    wpAny (model prog w) A (seqEpoch a >>= fun x => Builtin.List.listUpdate (.ref a) (fun _ => out) >>= fun _ => tl x) P E s :=
  wpAny_bind (seqEpoch_at ho rfl (wpAny_bind (listUpdate_at ho rfl (h _ _ (fun b o nb q => (Heap.get?_update_other _ _ (Ne.symm nb)).trans q) (get?_update_seq ho fun _ => out)) (Nat.zero_le _) (Nat.le_succ_of_le hz))))
end
end L2
set_option Elab.async false
set_option linter.all false
set_option maxRecDepth 100000
namespace L2
open PySem PySem.Spec PyProof.Rows
def Lv {α : Type} (n : Nat) (P : α → Prop) : PySem.W.KasT α → Prop
  | .ret a => P a
  | .ask i j k => i < n ∧ j < n ∧ ∀ b, Lv n P (k b)
theorem lv_bind {α β : Type} {n : Nat} {P : α → Prop} {P' : β → Prop} {f : α → PySem.W.KasT β} (hf : ∀ a, P a → Lv n P' (f a)) : ∀ t : PySem.W.KasT α, Lv n P t → Lv n P' (t.bind f)
  | .ret a, h => hf a h
  | .ask i j k, h => ⟨h.1, h.2.1, fun b => lv_bind hf (k b) (h.2.2 b)⟩
def Prn (n : Nat) (p : Array Nat) : Prop := p.toList.Perm (List.range n)
theorem pr_get {n : Nat} {p : Array Nat} (h : Prn n p) (hn : 0 < n) (i : Nat) : p.getD i 0 < n := by
  by_cases z : i < p.size
  · have e : p.getD i 0 = p[i] := by simp [Array.getD, z]
    rw [e]
    have : p[i] ∈ p.toList := Array.getElem_mem_toList z
    exact List.mem_range.mp (h.mem_iff.mp this)
  · have e : p.getD i 0 = 0 := by simp [Array.getD, z]
    rw [e]
    exact hn
theorem pr_rev {n : Nat} {p : Array Nat} (h : Prn n p) (i j : Nat) : Prn n (PySem.W.kas_rev p i j) := (Array.perm_iff_toList_perm.mp (mirror_perm p i j _)).trans h
theorem pr_bub {n : Nat} {p : Array Nat} (h : Prn n p) (i j : Nat) : Prn n (bubble p i j) := (Array.perm_iff_toList_perm.mp (bubble_perm p i j)).trans h
section
variable {n : Nat} (hn : 0 < n)
include hn
theorem lv_asc {p : Array Nat} (h : Prn n p) : ∀ f m : Nat, Lv n (fun _ => True) (PySem.W.kas_asc p f m)
  | 0, m => trivial
  | f + 1, m => by
    refine ⟨pr_get h hn _, pr_get h hn _, fun b => ?_⟩
    cases b
    · exact lv_asc h f (m + 1)
    · exact trivial
theorem lv_desc : ∀ (f : Nat) {p : Array Nat} (m q : Nat), Prn n p → Lv n (fun r => Prn n r.1) (PySem.W.kas_desc f p m q)
  | 0, p, m, q, h => h
  | f + 1, p, m, q, h => by
    refine ⟨pr_get h hn _, pr_get h hn _, fun b => ?_⟩
    cases b
    · refine ⟨pr_get h hn _, pr_get h hn _, fun d => ?_⟩
      cases d
      · exact lv_desc f (m + 1) (q + 1) h
      · exact h
    · show Lv n _ (if q > 0 then _ else _)
      by_cases z : q > 0
      · rw [if_pos z]
        exact lv_desc f (m + 1) 0 (pr_rev h _ _)
      · rw [if_neg z]
        exact lv_desc f (m + 1) 0 h
theorem lv_tail3 {p : Array Nat} (h : Prn n p) (m r : Nat) : Lv n (fun r => Prn n r.2) (PySem.W.kas_tail3 m r p) := by
  refine lv_bind (P := fun _ => True) (fun a _ => ?_) _ (lv_asc hn (pr_rev h _ _) _ _)
  exact pr_rev h _ _
theorem lv_descPart {p : Array Nat} (h : Prn n p) (m r : Nat) : Lv n (fun r => Prn n r.2) (PySem.W.kas_descPart m r p) := by
  refine lv_bind (P := fun r => Prn n r.1) (fun a ha => ?_) _ (lv_desc hn _ _ _ h)
  by_cases z : a.2.2 > 0
  · rw [if_pos z]
    exact lv_tail3 hn (pr_rev ha _ _) _ _
  · rw [if_neg z]
    exact lv_tail3 hn ha _ _
theorem lv_count {p : Array Nat} (h : Prn n p) (r : Nat) : Lv n (fun r => Prn n r.2) (PySem.W.kas_count r p) := by
  refine lv_bind (P := fun _ => True) (fun a _ => ?_) _ (lv_asc hn h _ _)
  by_cases z : (a == r) = true
  · rw [if_pos z]
    exact h
  · rw [if_neg z]
    by_cases y : a > 1
    · rw [if_pos y]
      refine ⟨pr_get h hn _, pr_get h hn _, fun b => ?_⟩
      cases b
      · exact lv_descPart hn (pr_rev h _ _) _ _
      · exact h
    · rw [if_neg y]
      exact lv_descPart hn h _ _
theorem lv_place {p : Array Nat} (h : Prn n p) (k : Nat) : ∀ f l r : Nat, Lv n (fun _ => True) (PySem.W.kas_place p k f l r)
  | 0, l, r => trivial
  | f + 1, l, r => by
    show Lv n _ (if l ≥ r then _ else _)
    by_cases z : l ≥ r
    · rw [if_pos z]
      exact trivial
    · rw [if_neg z]
      refine ⟨pr_get h hn _, pr_get h hn _, fun b => ?_⟩
      cases b
      · exact lv_place h k f _ _
      · exact lv_place h k f _ _
theorem lv_bin : ∀ (f : Nat) {p : Array Nat} (k : Nat), Prn n p → Lv n (Prn n) (PySem.W.kas_bin f p k)
  | 0, p, k, h => h
  | f + 1, p, k, h => lv_bind (P := fun _ => True) (fun a _ => lv_bin f (k + 1) (pr_bub h _ _)) _ (lv_place hn h k _ _ _)
theorem lv_sort : Lv n (Prn n) (PySem.W.kas_sort n) := by
  refine lv_bind (P := fun r => Prn n r.2) (fun a ha => ?_) _ (lv_count hn (List.Perm.refl _) n)
  by_cases z : a.1 < n
  · rw [if_pos z]
    exact lv_bin hn _ _ ha
  · rw [if_neg z]
    exact ha
end
theorem lv_wp {α : Type} {n : Nat} {P : α → Prop} {cmp : Nat → Nat → (Bool → Shared → Prop) → Shared → Prop} {G : α → Shared → Prop} {s : Shared} (hc : ∀ i j C, i < n → j < n → (∀ b, C b s) → cmp i j C s) (hg : ∀ a, P a → G a s) : ∀ t : PySem.W.KasT α, Lv n P t → t.kasWp cmp G s
  | .ret a, h => hg a h
  | .ask i j k, h => hc i j _ h.1 h.2.1 fun b => lv_wp hc hg (k b) (h.2.2 b)
theorem pr_out {vs : List Value} {p : Array Nat} (h : Prn vs.length p) : (p.toList.map fun i => vs.getD i Value.none).Perm vs := by
  have e : (List.range vs.length).map (fun i => vs.getD i Value.none) = vs := by
    refine List.ext_getElem (by simp) fun i h1 h2 => ?_
    simp at h1 ⊢
    simp [h1]
  have := h.map fun i => vs.getD i Value.none
  rw [e] at this
  exact this
section
variable {prog : Program} {w : World} {A : Around} {E : Value → Shared → Prop} {s : Shared}
def TpI (h : Heap) (v : Value) : Prop := ∃ a o xs n f ns, v = .ref a ∧ h.get? a = some o ∧ o.cls = .type "tuple" ∧ o.data = .seq xs n ∧ IntsAre xs.toList (f :: ns)
theorem TpI.up {h h' : Heap} {v : Value} (x : TpI h v) (k : ∀ b o, h.get? b = some o → h'.get? b = some o) : TpI h' v := by
  obtain ⟨a, o, xs, n, f, ns, e1, e2, e3⟩ := x
  exact ⟨a, o, xs, n, f, ns, e1, k _ _ e2, e3⟩
theorem one_lt {a b : Int} {t u : Tok} {c : Bool} {Q : Bool → Shared → Prop} (h : ∀ b, Q b s) : wpAny (model prog w) A (oneLt' c (.int a t) (.int b u)) Q E s := by
  cases c with
  | true => exact oneLt_int (h _)
  | false => exact PySem.W.kat_one _ _ (lt_int (h _))
theorem kat_any {Q : Bool → Shared → Prop} {b fin : Bool} (h : ∀ b, Q b s) : ∀ {xs ys : List Value} {ns ms : List Int} (i : Nat), IntsAre xs ns → IntsAre ys ms → PySem.W.KatLex prog w A b fin Q (xs.zip ys) i s
  | _, _, _, _, i, .nil, _ => PySem.W.kat_nil (h _)
  | _, _, _, _, i, .cons _ _ _, .nil => PySem.W.kat_nil (h _)
  | _, _, _, _, i, .cons x t r, .cons y u q => by
    refine PySem.W.kat_cons (wpAny_eqBool_int ?_)
    refine PySem.W.kat_go (fun _ => PySem.W.kat_yes (kat_any h (i + 1) r q)) fun _ => PySem.W.kat_no (one_lt h)
theorem lt_tup {x y : Value} {b : Bool} {Q : Bool → Shared → Prop} (hx : TpI s.heap x) (hy : TpI s.heap y) (h : ∀ b, Q b s) : wpAny (model prog w) A (keyLt' (PyProof.Rows.tuples' b) x y) Q E s := by
  obtain ⟨a, o, xs, n, f, ns, rfl, e2, e3, e4, e5⟩ := hx
  obtain ⟨a', o', xs', n', f', ns', rfl, g2, g3, g4, g5⟩ := hy
  exact PySem.W.kat_lt e2 e4 g2 g4 (kat_any h 0 e5 g5)
theorem kat_tups {h : Heap} : ∀ {vs : List Value}, (∀ v ∈ vs, TpI h v) → ∃ fs : List Value, PySem.W.KatTups h vs fs ∧ (∀ v ∈ fs, ∃ n t, v = Value.int n t) ∧ fs.length = vs.length
  | [], _ => ⟨[], PySem.W.KatTups.nil, by simp, rfl⟩
  | v :: vs, hv => by
    obtain ⟨fs, h1, h2, h3⟩ := kat_tups (vs := vs) fun v hv' => hv v (List.mem_cons_of_mem _ hv')
    obtain ⟨a, o, xs, n, f, ns, rfl, e2, e3, e4, e5⟩ := hv v List.mem_cons_self
    obtain ⟨w, hw, tk, ew⟩ : ∃ w, xs[0]? = some w ∧ ∃ tk, w = Value.int f tk := by
      rw [← Array.getElem?_toList]
      generalize xs.toList = l at e5 ⊢
      cases e5 with
      | cons _ t r => exact ⟨_, rfl, _, rfl⟩
    refine ⟨w :: fs, PySem.W.KatTups.cons e2 e3 e4 hw h1, fun u hu => ?_, by rw [List.length_cons, List.length_cons, h3]⟩
    rcases List.mem_cons.mp hu with z | z
    · rw [z, ew]; exact ⟨_, _, rfl⟩
    · exact h2 u z
def Left (vs : List Value) (st : SortSt) : Prop := failedOf st = none ∧ ∃ out : List Value, out.Perm vs ∧ (arrOf st).map (·.2) = out.toArray
theorem left_few {ks vs : List Value} {κ : SortKind} (hl : ks.length = vs.length) : Left vs (SortSt.mk' κ (ks.toArray.zip vs.toArray) #[] 7 none) := by
  refine ⟨rfl, vs, .refl _, ?_⟩
  show (ks.toArray.zip vs.toArray).map (·.2) = vs.toArray
  apply Array.toList_inj.mp
  simpa using List.map_snd_zip (Nat.le_of_eq hl.symm)
theorem runs_tup {ks vs : List Value} {Q : Unit × SortSt → Shared → Prop} (hl : ks.length = vs.length) (h2 : ¬ vs.toArray.size < 2) (h64 : vs.length < 64) (hT : ∀ v ∈ ks, TpI s.heap v) (h : ∀ st, Left vs st → Q ((), st) s) :
    wpAny (model prog w) A (keyKind' ks.toArray) (fun κ s1 => wpAny (model prog w) A (sortRuns'.run (SortSt.mk' κ (ks.toArray.zip vs.toArray) #[] 7 none)) Q E s1) E s := by
  rw [List.size_toArray] at h2
  obtain ⟨fs, kt, ki, kl⟩ := kat_tups hT
  refine PySem.W.kat_kind (T := Value.type "int") kt (by omega) (fun v hv => ?_) (by decide) ?_
  · obtain ⟨n, t, rfl⟩ := ki v hv
    exact PySem.W.Looks.of_pure rfl
  have mem : ∀ i, i < vs.length → ks.getD i Value.none ∈ ks := fun i hi => by
    rw [List.getD_eq_getElem?_getD, List.getElem?_eq_getElem (by omega)]
    exact List.getElem_mem _
  refine wpAny_mono (PySem.W.kat_run (Q := fun st s1 => s1 = s ∧ failedOf st = none ∧ ∃ p, Prn vs.length p ∧ arrOf st = p.map (PySem.W.kas_item (ks.toArray.zip vs.toArray))) (G := fun p s1 => s1 = s ∧ Prn vs.length p) hl (by omega) h64 (fun p st s1 _ q1 q2 q3 => ⟨q3.1, q2, p, q3.2, q1⟩)
    (lv_wp (n := vs.length) (fun i j C hi hj hC => lt_tup (hT _ (mem i hi)) (hT _ (mem j hj)) hC) (fun p hp => ⟨rfl, hp⟩) _ (lv_sort (by omega)))) (fun r s1 q => ?_) fun _ _ e => e
  obtain ⟨rfl, q1, p, q2, q3⟩ := q
  exact h r.2 ⟨q1, _, pr_out q2, PySem.W.kat_snds hl q3⟩
theorem list_sort_tup {a : Addr} {vs : List Value} {n : Nat} {P : PySem.Fin → Shared → Prop} (ho : s.heap.get? a = some (seqObj "list" vs.toArray n)) (h64 : vs.length < 64) (hT : ∀ v ∈ vs, TpI s.heap v)
    (h : ∀ (h1 : Heap) (c : Nat) (out : List Value), List.Perm out vs → (∀ b o, b ≠ a → s.heap.get? b = some o → h1.get? b = some o) → h1.get? a = some (seqObj "list" out.toArray c) → P (.done (.ret .none)) { s with heap := h1 }) :
    wpAny (model prog w) A (Builtin.«list.sort» ⟨[.ref a], []⟩) P E s := by
  rw [list_sort_plain]
  refine emptied ho h64 fun h2 e k2 g2 => ?_
  have T3 : ∀ v ∈ vs, TpI (h2.push (seqObj "list" #[] 0)) v := fun v hv => by
    obtain ⟨b, o, xs, m, f, ns, e1, e2, e3, e4⟩ := hT v hv
    refine ⟨b, o, xs, m, f, ns, e1, Heap.get?_push_of_some _ (k2 b o (fun z => ?_) e2), e3, e4⟩
    rw [z, ho] at e2
    cases e2
    exact absurd (show Value.type "list" = Value.type "tuple" from e3) (by decide)
  dsimp only
  by_cases few : vs.toArray.size < 2
  case' pos =>
    rw [if_pos few, if_pos few]
    refine wpAny_bind (wpAny_pure ?_)
    rw [StateT.run_pure]
    refine wpAny_bind (wpAny_pure ?_)
    have q := left_few (κ := general') (ks := vs) (vs := vs) rfl
    generalize SortSt.mk' general' (vs.toArray.zip vs.toArray) #[] 7 none = st at q ⊢
  case' neg =>
    rw [if_neg few, if_neg few]
    refine wpAny_bind (wpAny_mono (runs_tup (s := { s with heap := h2.push (seqObj "list" #[] 0) }) rfl few h64 T3 fun st q => ?_) (fun κ s1 q => wpAny_bind q) fun _ _ e => e)
  all_goals
    obtain ⟨q1, out, q2, q3⟩ := q
    dsimp only
    rw [q3]
    refine given_back (Heap.get?_push_of_some _ g2) (by rw [List.size_toArray, q2.length_eq, sizeLine_eq]; omega) fun h4 c k4 g4 => ?_
    rw [q1]
    wp_walk
    exact h h4 c out q2 (fun b o nb q => k4 b o nb (Heap.get?_push_of_some _ (k2 b o nb q))) g4
theorem sorted_tups {l : Addr} {vs : List Value} {Q : Value → Shared → Prop} (hl : s.heap.IsList l vs.toArray) (h64 : vs.length < 64) (hT : ∀ v ∈ vs, TpI s.heap v)
    (h : ∀ (h1 : Heap) (c : Nat) (out : List Value), List.Perm out vs → GX.Grown s.heap h1 → h1.get? (s.heap.objs.size + 1) = some (seqObj "list" out.toArray c) → Q (.ref (s.heap.objs.size + 1)) { s with heap := h1 }) : wpAny (model prog w) A (call (.builtin "sorted") [.ref l]) Q E s :=
  srt_opens hl h64 (args_sorted1 _) args_list_sort fun h1 g1 a1 => list_sort_tup a1 h64 (fun v hv => (hT v hv).up g1) fun h2 c out p k2 a2 =>
    ⟨rfl, h h2 c out p (fun b o q => k2 b o (Nat.ne_of_lt (Nat.lt_succ_of_lt (Heap.lt_size q))) (g1 b o q)) a2⟩
end
theorem vals_perm : ∀ {vs : List V} {its out : List Value}, Vals vs its → out.Perm its → ∃ ws : List V, ws.Perm vs ∧ Vals ws out := by
  intro vs its out h p
  induction p generalizing vs with
  | nil => cases h; exact ⟨[], .nil, .nil⟩
  | cons x p ih =>
    cases h with
    | cons r t =>
      obtain ⟨ws, a, b⟩ := ih t
      exact ⟨_ :: ws, a.cons _, .cons r b⟩
  | swap x y l =>
    cases h with
    | cons r t =>
      cases t with
      | cons r2 t2 => exact ⟨_, .swap _ _ _, .cons r2 (.cons r t2)⟩
  | trans p q ih1 ih2 =>
    obtain ⟨ws, a, b⟩ := ih2 h
    obtain ⟨us, c, d⟩ := ih1 b
    exact ⟨us, c.trans a, d⟩
section
variable {X : Cx}
theorem call_sortedTP : CallR X (.builtin "sorted") (fun xs H Q => ∃ (p : Addr) (vs : List V) (ks : List (List Int)), xs = [.ref p] ∧ SqL X.K H p vs ∧ vs.length < 64 ∧ Paired (fun v k => k ≠ [] ∧ ∃ t, v = .ref t ∧ SqT X.K H t (k.map V.int)) vs ks ∧ ∀ (l : Addr) (ws : List V), H l = none → ws.Perm vs → Q (.ref l) (upd H l (.lst ws))) := by
  intro pins s σ H xs us Q I r h
  obtain ⟨p, vs, ks, rfl, hp, hl, hk, q⟩ := h
  obtain ⟨u, rfl, rx⟩ := vals1 r
  cases rx
  obtain ⟨its, rv, pl, hz⟩ := I.list hp
  have lv := rv.length
  have hT : ∀ v ∈ its, TpI s.heap v := fun v hv => by
    obtain ⟨i, hi⟩ := List.getElem?_of_mem hv
    have hil := (List.getElem?_eq_some_iff.mp hi).1
    have hx : vs[i]? = some vs[i] := List.getElem?_eq_getElem (by omega)
    obtain ⟨k, _, hk1, t, et, ht⟩ := paired_at hk hx
    obtain ⟨u', hu', ru⟩ := rv.get hx
    rw [hi] at hu'
    cases hu'
    rw [et] at ru
    cases ru
    obtain ⟨ia, ra, pa, _⟩ := I.tuple ht
    obtain ⟨o, ho, hc, n, hd⟩ := id pa
    cases k with
    | nil => exact absurd rfl hk1
    | cons f ns => exact ⟨t, o, _, n, f, ns, rfl, ho, hc, hd, intsAre_of ra⟩
  refine sorted_tups pl.isList (by omega) hT fun h1 c out a1 g1 he => ?_
  have hrf : ∀ x ∈ vs, ∃ p, x = V.ref p := fun x hx => by
    obtain ⟨i, hi⟩ := List.getElem?_of_mem hx
    obtain ⟨k, _, _, t, et, _⟩ := paired_at hk hi
    exact ⟨t, et⟩
  obtain ⟨ws, wp, wv⟩ := vals_perm rv a1
  refine ⟨.ref (s.heap.objs.size + 1), _, I.laid (o := .lst ws) (t' := s.toks) g1 (Nat.le_succ _) ⟨?_, out, c, wv, he⟩, rfl, q _ ws (I.hok.fresh (Nat.le_succ _)) wp⟩
  rw [wp.length_eq]
  exact Nat.le_of_lt (small1000 (by omega))
end
end L2
set_option Elab.async false
set_option linter.all false
set_option maxRecDepth 100000
namespace L2
open PySem PySem.Spec PyProof.Rows
section
variable {X : Cx} {pins : List (Addr × Obj)} {σ : St} {H H0 : Hp} {s : Shared} {h' : Heap}
theorem Inv.adopt {it : Addr} {o : HO} {t' : Nat} (I : Inv X pins σ H s) (k : ∀ b o, b ≠ it → s.heap.get? b = some o → h'.get? b = some o) (hf : FpOk X pins H it)
    (new : ObjOk X.prog X.w (upd H it o) h' it o) : Inv X pins σ (upd H it o) { s with heap := h', toks := t' } := by
  obtain ⟨f0, f1, f2, f3, f4, f5⟩ := hf
  have nit : ∀ b u, H b = some u → b ≠ it := fun b u e z => by rw [z, f0] at e; cases e
  refine I.step (g' := s.gens) (d' := s.drawn) (ch := [it]) (fun b hb => ?_) (fun b o _ _ hc e _ => k b o (fun z => hc (by simp [z])) e) (fun b o _ _ hc e _ => ⟨o.slots, k b o (fun z => hc (by simp [z])) e⟩) (fun b ob hc e n => by rw [upd_ne (fun z => hc (by simp [z]))]; exact n)
    (fun b o hc e => ⟨o, k b o (fun z => hc (by simp [z])) e⟩) (fun b xs e => by rw [upd_ne (nit b _ e)]; exact e) (fun b o u e => by rw [upd_ne (nit b _ e)]; exact e) (fun b ps e => ⟨#[], by rw [upd_ne (nit b _ e), e]; simp⟩) (fun m hm => ?_) (fun b u e => ?_) I.bare
  · have e : b = it := by simpa using hb
    subst e
    exact ⟨f3, f1, f4, f5⟩
  · obtain ⟨ob, es, ep, ho, r⟩ := hm
    exact ⟨ob, es, ep, k _ ob (Ne.symm f1) ho, r⟩
  · by_cases hb : b = it
    · subst hb
      rw [upd_same] at e
      cases e
      exact new
    · rw [upd_ne hb] at e
      refine (I.hok b u e).stay (fun c v hc q => k c v ?_ q) (fun c q => by rw [upd_ne (nit c _ q)]; exact q) fun c xs q => by rw [upd_ne (nit c _ q)]; exact q
      rcases hc with z | z
      · rw [z]; exact nit b u e
      · exact nit c _ z
end
theorem Room.two {k : Nat} {A : Around} (r : Room (k + 1) A) : Room k A.in1.in1 := ⟨r.hd, by have := r.dp; show A.depth + 3 * k + 5 < recursionLimit; omega, by have := r.un; show A.units + 1 + 1 + 16 * k + 200 < cLine; omega⟩
theorem vals_one {xs : List V} {its : List Value} {x : V} {v : Value} : Vals xs its → RelV x v → Vals (xs ++ [x]) (its ++ [v]) := fun h r => h.append (.cons r .nil)
section
variable {X : Cx} {pins : List (Addr × Obj)} {σ : St} {H : Hp} {s : Shared} {D f : Addr} {xs : List V} {its : List Value} {ks : List (List Int)} {k : Nat} {fd : FuncData} {ps : List Str} {sp : Sp}
theorem srt_tree {n : Nat} {P : PySem.Fin → Shared → Prop} {E : Value → Shared → Prop} (F : FnOk X.prog X.w X.K X.mg X.base CX0 k f fd ps sp) (hr : Room k X.A.in1.in1) (hb : Binds X.K fd ps [])
    (IV : Inv X pins σ H s) (fD : FpOk X pins H D) (hD : s.heap.get? D = some (seqObj "list" its.toArray n)) (rv : Vals xs its) (h64 : xs.length < 64) (lk : xs.length = ks.length) (kn : ∀ k ∈ ks, k ≠ [])
    (KY : ∀ (i : Nat) x k H3 (Q' : VK), xs[i]? = some x → ks[i]? = some k → Same H H3 → (∀ H4 t, Same H3 H4 → SqT X.K H4 t (k.map V.int) → Q' (.ref t) H4) → sp [x] H3 Q' E0)
    (hR : ∀ ws H' s', ws.Perm xs → Same H H' → H' D = none → Inv X pins σ (upd H' D (.lst ws)) s' → P (.done (.ret .none)) s') :
    wpAny (model X.prog X.w) X.A.in1.in1 (ksk_tree D (.ref f) false) P E s := by
  have lv := rv.length
  unfold ksk_tree
  refine emptied (k := fun its e ks => ksk_rest D (.ref f) false its e ks) hD (by omega) fun h2 e1 k2 hD2 => ?_
  obtain ⟨f0, f1, f2, f3, f4, f5⟩ := id fD
  have I2 : Inv X pins σ H { s with heap := h2 } := IV.turned (t' := s.toks) (it := D) k2 f0 f1 f3 f4 f5
  have hkD : h2.objs.size ≠ D := Nat.ne_of_gt (Heap.lt_size hD2)
  have hk0 : H h2.objs.size = none := Inv.fresh I2
  have I3 : Inv X pins σ (upd H h2.objs.size (.lst [])) { s with heap := h2.push (seqObj "list" #[] 0) } := Inv.lnew (s := { s with heap := h2 }) (its := []) (t' := s.toks) I2 .nil (Nat.zero_le _)
  have hD3 : (h2.push (seqObj "list" #[] 0)).get? D = some (seqObj "list" #[] e1) := Heap.get?_push_of_some _ hD2
  generalize h2.push (seqObj "list" #[] 0) = h3 at I3 hD3 ⊢
  generalize h2.objs.size = kS at I3 hkD hk0 ⊢
  unfold ksk_rest
  refine wpAny_bind (wpAny_rule ?_)
  rw [List.forIn_toArray]
  refine wpAny_bind (ksk_fold (fun i s' => ∃ H' ts, Inv X pins σ H' s' ∧ Same H H' ∧ H' D = none ∧ s'.heap.get? D = some (seqObj "list" #[] e1) ∧ H' kS = some (.lst ((ts : List Addr).map V.ref)) ∧ ts.length = i ∧ ∀ (j : Nat) t, ts[j]? = some t → ∃ k, ks[j]? = some k ∧ SqT X.K H' t (k.map V.int)) its 0 _ ⟨_, [], I3, same_upd hk0, by rw [upd_ne hkD.symm]; exact f0, hD3, upd_same, rfl, fun j t h => by simp at h⟩ ?_ ?_)
  · rintro j x s' hx ⟨H', ts, I', sm, hD', gD, hK, lt, ht⟩
    rw [Nat.zero_add] at lt
    have hj := (List.getElem?_eq_some_iff.mp hx).1
    have hxj : xs[j]? = some xs[j] := List.getElem?_eq_getElem (by omega)
    obtain ⟨u', hu', rx⟩ := rv.get hxj
    rw [hx] at hu'
    cases hu'
    have hkj : ks[j]? = some ks[j] := List.getElem?_eq_getElem (by omega)
    have fD' : FpOk X pins H' D := ⟨hD', f1, f2, f3, f4, f5⟩
    have IP : Inv X (pins ++ pinsAt [D] s'.heap) σ H' s' := I'.pinned (fp := [D]) (fun b hb => by rw [List.mem_singleton.mp hb]; exact fD') (fun b hb => by rw [List.mem_singleton.mp hb]; exact ⟨_, gD, fun v z => nomatch z⟩)
    have key := run_fn (X := X.one.one) (vs := [xs[j]]) (us := [x]) (Q := fun z H4 => ∃ t, z = .ref t ∧ Same H' H4 ∧ SqT X.K H4 t (ks[j].map V.int)) (E := E0) (dvs := []) (ds := []) F hr hb .nil (fun _ _ _ _ _ _ _ q => q.elim) IP.one.one (.cons rx .nil) (by
      rw [List.append_nil]
      exact KY j _ _ H' _ hxj hkj sm fun H4 t s4 h4 => ⟨t, rfl, s4, h4⟩)
    refine wpAny_bind (wpAny_attempt (wpAny_mono key (fun u s2 q => ?_) fun _ _ q => q.elim))
    obtain ⟨z, H4, I4, rz, t2, rfl, s4, ht2⟩ := q
    cases rz
    have I4 := Inv.back IP.ok (Inv.back IP.one.ok I4)
    have pD := I4.pin (D, seqObj "list" #[] e1) (List.mem_append_right _ (List.mem_append_right _ (mem_pinsAt (by simp) gD)))
    have I5 := I4.unpinned
    have hK4 := s4 _ _ hK
    obtain ⟨_, kt, nk, rk, lk', gk⟩ := I5.lstM hK4
    rw [List.length_map] at lk'
    dsimp only
    refine wpAny_bind (listUpdate_at gk rfl ?_ (by rw [List.size_toArray, sizeLine_eq]; omega) (by rw [Array.size_push, List.size_toArray, sizeLine_eq]; omega))
    have I6 : Inv X pins σ (upd H4 kS (.lst ((ts ++ [t2]).map V.ref))) { s2 with heap := s2.heap.update kS (Obj.mapSeq (·.push (.ref t2))) } := I5.lset (t' := s2.toks) (its' := kt ++ [.ref t2]) hK4 gk (by simp) (by rw [List.map_append]; exact vals_one rk rfl) (by rw [List.length_map, List.length_append, List.length_singleton, sizeLine_eq]; omega)
    have nt : ∀ t ks', SqT X.K H4 t ks' → SqT X.K (upd H4 kS (.lst ((ts ++ [t2]).map V.ref))) t ks' := fun t ks' h => by
      rcases h with (h | ⟨z, h⟩) | h
      · exact .inl (.inl (by rw [upd_ne (fun z => by rw [z, hK4] at h; cases h)]; exact h))
      · exact .inl (.inr ⟨z, by rw [upd_ne (fun z => by rw [z, hK4] at h; cases h)]; exact h⟩)
      · exact .inr h
    refine wpAny_pure ⟨rfl, _, ts ++ [t2], I6, fun b o e => ?_, ?_, ?_, upd_same, by rw [List.length_append, lt]; simp, fun j' t hj' => ?_⟩
    · rw [upd_ne (ne_of_none e hk0)]
      exact s4 _ _ (sm _ _ e)
    · rw [upd_ne hkD.symm]
      exact pD.2.1
    · exact ((Heap.SameBut.update s2.heap kS (Obj.mapSeq (·.push (.ref t2)))).2 D hkD.symm).trans pD.1
    · by_cases w : j' < ts.length
      · rw [List.getElem?_append_left w] at hj'
        obtain ⟨k', e1', e2'⟩ := ht j' t hj'
        exact ⟨k', e1', nt _ _ (SmT.same s4 _ _ e2')⟩
      · have : j' = j := by
          have := (List.getElem?_eq_some_iff.mp hj').1
          rw [List.length_append, List.length_singleton] at this
          omega
        subst this
        rw [List.getElem?_append_right (by omega), lt, Nat.sub_self] at hj'
        cases hj'
        exact ⟨_, hkj, nt _ _ ht2⟩
  rintro s' ⟨H', ts, I', sm, hD', gD, hK, lt, ht⟩
  rw [Nat.zero_add] at lt
  obtain ⟨_, kt, nk, rk, lk', gk⟩ := I'.lstM hK
  rw [List.length_map] at lk'
  refine wpAny_bind (listItems_at gk rfl ?_)
  have hT : ∀ v ∈ kt, TpI s'.heap v := fun v hv => by
    obtain ⟨i, hi⟩ := List.getElem?_of_mem hv
    have hil := (List.getElem?_eq_some_iff.mp hi).1
    have hti : ts[i]? = some ts[i] := List.getElem?_eq_getElem (by omega)
    obtain ⟨k', e1', e2'⟩ := ht i _ hti
    obtain ⟨u', hu', ru⟩ := rk.get (show (ts.map V.ref)[i]? = some (.ref ts[i]) by rw [List.getElem?_map, hti]; rfl)
    rw [hi] at hu'
    cases hu'
    cases ru
    obtain ⟨ia, ra, pa, _⟩ := I'.tuple e2'
    obtain ⟨o, ho, hc, n', hd⟩ := id pa
    have kne := kn k' (List.mem_of_getElem? e1')
    cases k' with
    | nil => exact absurd rfl kne
    | cons f' ns => exact ⟨_, o, _, n', f', ns, rfl, ho, hc, hd, intsAre_of ra⟩
  have hkD' : D ≠ kS := hkD.symm
  have fin : ∀ st : SortSt, Left its st → wpAny (model X.prog X.w) X.A.in1.in1 (ksk_tail D false e1 (.ref kS) st) P E s' := by
    rintro st ⟨hf, out, po, eo⟩
    obtain ⟨ws, wp, wv⟩ := vals_perm rv po
    unfold ksk_tail
    try dsimp only
    rw [eo]
    refine wpAny_bind (listUpdate_at gk rfl ?_ (by rw [List.size_toArray, sizeLine_eq]; omega) (Nat.zero_le _))
    have I6 : Inv X pins σ (upd H' kS (.lst [])) { s' with heap := s'.heap.update kS (Obj.mapSeq fun _ => (#[] : Array Value)) } := I'.lset (t' := s'.toks) (its' := []) (ys := []) hK gk (by simp) .nil (Nat.zero_le _)
    have gD6 : (s'.heap.update kS (Obj.mapSeq fun _ => (#[] : Array Value))).get? D = some (seqObj "list" #[] e1) := ((Heap.SameBut.update s'.heap kS (Obj.mapSeq fun _ => (#[] : Array Value))).2 D hkD').trans gD
    generalize s'.heap.update kS (Obj.mapSeq fun _ => (#[] : Array Value)) = h6 at I6 gD6 ⊢
    refine wpAny_bind (wpAny_letGo ?_)
    refine given_back (s := { s' with heap := h6 }) (out := out.toArray) gD6 (by rw [List.size_toArray, po.length_eq, sizeLine_eq]; omega) fun h7 c k7 g7 => ?_
    rw [hf]
    wp_walk
    refine hR ws (upd H' kS (.lst [])) _ wp (fun b o e => ?_) (by rw [upd_ne hkD']; exact hD') ?_
    · rw [upd_ne (ne_of_none e hk0)]
      exact sm _ _ e
    · exact Inv.adopt (s := { s' with heap := h6 }) (t' := s'.toks) I6 k7 ⟨by rw [upd_ne hkD']; exact hD', f1, f2, f3, f4, f5⟩ ⟨by rw [wp.length_eq, sizeLine_eq]; omega, out, c, wv, g7⟩
  unfold ksk_end
  simp only [Bool.false_eq_true, if_false]
  by_cases few : its.toArray.size < 2
  · rw [if_pos few, if_pos few]
    refine wpAny_bind (wpAny_pure ?_)
    rw [StateT.run_pure]
    exact wpAny_bind (wpAny_pure (fin _ (left_few (by omega))))
  · rw [if_neg few, if_neg few]
    exact wpAny_bind (wpAny_mono (runs_tup (by omega) few (by omega) hT fun st q => fin st q) (fun κ s1 q => wpAny_bind q) fun _ _ e => e)
theorem srt_key {l : Addr} {Q : Value → Shared → Prop} {E : Value → Shared → Prop} (F : FnOk X.prog X.w X.K X.mg X.base CX0 k f fd ps sp) (hr : Room k X.A.in1.in1) (hb : Binds X.K fd ps [])
    (IV : Inv X pins σ H s) (hl : s.heap.IsList l its.toArray) (rv : Vals xs its) (h64 : xs.length < 64) (lk : xs.length = ks.length) (kn : ∀ k ∈ ks, k ≠ [])
    (KY : ∀ (i : Nat) x k H3 (Q' : VK), xs[i]? = some x → ks[i]? = some k → Same H H3 → (∀ H4 t, Same H3 H4 → SqT X.K H4 t (k.map V.int) → Q' (.ref t) H4) → sp [x] H3 Q' E0)
    (hR : ∀ D ws H' s', H D = none → ws.Perm xs → Same H H' → H' D = none → Inv X pins σ (upd H' D (.lst ws)) s' → Q (.ref D) s') :
    wpAny (model X.prog X.w) X.A (call (.builtin "sorted") [.ref l] [(Str.ofString "key", .ref f)]) Q E s := by
  have lv := rv.length
  refine srt_opens hl (by omega) (ksk_s1 _ _) (fun _ => ksk_l1 _ _) fun h1 g1 a1 => ?_
  have hDn : H (s.heap.objs.size + 1) = none := IV.hok.fresh (Nat.le_succ _)
  rw [ksk_t1]
  exact srt_tree F hr hb (IV.kept (t' := s.toks) g1) (IV.fpOk (Nat.le_succ _) hDn) a1 rv h64 lk kn KY fun ws H' s' wp sm hD' I' => ⟨rfl, hR _ ws H' s' hDn wp sm hD' I'⟩
end
end L2
set_option Elab.async false
set_option linter.all false
set_option maxRecDepth 100000
namespace L2
open PySem PySem.Spec PyProof.Rows
def SortR (K : PySem.W.Frag) (sp : Sp) (x : V) (H2 : Hp) (Q : VK) : Prop := ∃ (l : Addr) (xs : List V) (ks : List (List Int)), x = .ref l ∧ SqL K H2 l xs ∧ xs.length < 64 ∧ xs.length = ks.length ∧ (∀ k ∈ ks, k ≠ []) ∧
  (∀ (i : Nat) (x : V) (k : List Int) (H3 : Hp) (Q' : VK), xs[i]? = some x → ks[i]? = some k → Same H2 H3 → (∀ H4 t, Same H3 H4 → SqT K H4 t (k.map V.int) → Q' (.ref t) H4) → sp [x] H3 Q' E0) ∧
  ∀ (D : Addr) (ws : List V) (H' : Hp), H2 D = none → ws.Perm xs → Same H2 H' → H' D = some (.lst ws) → Q (.ref D) H'
def tSortK (K : PySem.W.Frag) (sp : Sp) (te : TE) : TE := fun σ H Q => te σ H fun x H1 => SortR K sp x H1 Q
section
variable {X : Cx}
theorem pe_sortkey {K : PySem.W.Frag} {e : Expr} {te : TE} {p p2 pos k1 : Pos} {fx : Str} {k : Nat} {f : Addr} {fd : FuncData} {ps : List Str} {sp : Sp} (hK : X.K = K) (ha : PA X [e] (tCons te tNil)) (hg : Gl X "sorted") (hm : X.mg "sorted" = none)
    (G : FnOk X.prog X.w X.K X.mg X.base CX0 k f fd ps sp) (hmk : X.mg fx = some (.ref f)) (hbk : Binds X.K fd ps []) (hgk : Gl X fx) (hr : Room (k + 1) X.A) (hdb : (fx == ("__debug__" : Str)) = false := by decide)
    (h1 : backTo pos (starEach [e] X.env) = (false, eval e X.env) :: backTo pos (starEach [] X.env) := by rfl) (h2 : (backTo pos (starEach [e] X.env)).any (·.1) = false := by rfl) :
    PE X (.Call (.Name "sorted" p) [e] [⟨some "key", .Name fx p2, k1⟩] pos) (tSortK K sp te) := by
  subst hK
  intro pins s σ H Q I h
  refine wpAny_Call_Name_kw (ld_blt I hg hm PyProof.Rows.boot_sorted ?_)
  refine PyProof.Rows.callWith_kw ?_ h1 h2
  refine thn (ha pos pins s σ H (fun vs H1 => match vs with | [x] => SortR X.K sp x H1 Q | _ => False) I h) fun us s1 ⟨vs, H1, I1, r1, q1⟩ => ?_
  obtain ⟨x, rfl⟩ : ∃ x, vs = [x] := by
    match vs, q1 with
    | [x], _ => exact ⟨x, rfl⟩
  obtain ⟨u, rfl, rx⟩ := vals1 r1
  obtain ⟨l, xs, ks, ex, hl, h64, lk, kn, KY, q⟩ := q1
  subst ex
  cases rx
  refine PyProof.Rows.kws_cons (ld_glob I1 hgk hmk ?_ hdb)
  refine PyProof.Rows.kws_nil ?_
  obtain ⟨its, rv, pl, hz⟩ := I1.list hl
  show wpAny _ _ (call (.builtin "sorted") [Value.ref l] [(Str.ofString "key", .ref f)]) _ _ _
  refine srt_key (H := H1) G (Room.two hr) hbk I1 pl.isList rv h64 lk kn KY fun D ws H' s' hD wp sm hD' I' => ?_
  exact ⟨.ref D, _, I', rfl, q D ws _ hD wp (sm.trans (same_upd hD')) upd_same⟩
end
theorem x_sortk {K : PySem.W.Frag} {sp : Sp} {te : TE} {σ : St} {H : Hp} {Q : VK} (h : te σ H fun x H1 => SortR K sp x H1 Q) : tSortK K sp te σ H Q := h
end L2
set_option Elab.async false
set_option linter.all false
set_option maxRecDepth 100000
namespace L2
open PySem PySem.Spec PyProof.Rows
theorem min_1 (a : Value) : argsOk "min" ⟨[a], []⟩ := by unfold argsOk; kernel_rfl
section
variable {X : Cx}
theorem call_minTP (hc : X.calm = true) (hu : X.A.units + 2 < cLine) : CallR X (.builtin "min") (fun xs H Q => ∃ (l : Addr) (ts : List Addr) (ks : List (List Int)), xs = [.ref l] ∧ SqL X.K H l (ts.map V.ref) ∧ ts ≠ [] ∧ ts.length = ks.length ∧ (∀ (i : Nat) t k, ts[i]? = some t → ks[i]? = some k → SqT X.K H t (k.map V.int)) ∧
    ∀ (i : Nat) t kb, ts[i]? = some t → ks[i]? = some kb → (∀ (j' : Nat) k', ks[j']? = some k' → HT.lexLt k' kb = false ∧ (j' < i → HT.lexLt kb k' = true)) → Q (.ref t) H) := by
  intro pins s σ H xs us Q IV r h
  obtain ⟨l, ts, ks, rfl, hS, ne, lk, tp, q⟩ := h
  obtain ⟨u, rfl, rx⟩ := vals1 r
  cases rx
  have hh := IV.ok.hd hc
  have ref_vals : ∀ {ts : List Addr} {its : List Value}, Vals (ts.map V.ref) its → its = ts.map Value.ref := by
    intro ts
    induction ts with
    | nil => intro its h; cases h; rfl
    | cons t ts ih =>
      intro its h
      cases h with
      | cons r t' =>
        cases r
        rw [ih t']
        rfl
  obtain ⟨its, rv, pl, hz⟩ := IV.list hS
  have ei := ref_vals rv
  have lst : ∀ s', Inv X pins σ H s' → s'.heap.IsList l its.toArray := fun s' I' => by
    obtain ⟨its', rv', pl', _⟩ := I'.list hS
    rw [ei, ← ref_vals rv']
    exact pl'.isList
  have lx : its.length = ts.length := by rw [ei, List.length_map]
  have at_ : ∀ (i : Nat) v, its[i]? = some v → ∃ t k, ts[i]? = some t ∧ v = .ref t ∧ ks[i]? = some k := fun i v e => by
    have b : i < ts.length := lx ▸ (List.getElem?_eq_some_iff.mp e).1
    rw [ei, List.getElem?_map, List.getElem?_eq_getElem b] at e
    exact ⟨ts[i], ks[i]'(lk ▸ b), List.getElem?_eq_getElem b, (Option.some.inj e).symm, List.getElem?_eq_getElem _⟩
  refine GX.best_grown GX.opens_min GX.turn_min PySem.F.entry_min_loop PySem.F.plain_min_loop (ko := none) (d := none) hh rfl (min_1 _) (lst s IV)
    (fun i j => HT.lexLt (ks.getD i []) (ks.getD j [])) (fun i => lex_irr _) (fun i j => lex_asym) (fun a b c => lex_cov) (fun i v => ∃ t k, ts[i]? = some t ∧ v = .ref t ∧ ks[i]? = some k) ?_ ?_ ?_ ?_
  · exact fun j v h tk hv G => And.intro (at_ j v hv) ⟨tk, rfl⟩
  · rintro i j _ _ h tk ⟨t1, k1, h1, rfl, e1⟩ ⟨t2, k2, h2, rfl, e2⟩ G Q q
    have I1 := IV.kept (t' := tk) G
    obtain ⟨ia, ra, pa, _⟩ := I1.tuple (tp _ _ _ h1 e1)
    obtain ⟨ib, rb, pb, _⟩ := I1.tuple (tp _ _ _ h2 e2)
    refine HT.lt_tupInts (s := { s with heap := h, toks := tk }) (A := X.A.in1) pa pb (intsAre_of ra) (intsAre_of rb) (by show X.A.units + 1 < cLine; omega) ?_
    simpa [List.getD_eq_getElem?_getD, e1, e2] using q
  · exact fun e => absurd (List.eq_nil_of_length_eq_zero (by rw [← lx, e]; rfl)) ne
  · intro i v h tk hv ft G
    obtain ⟨t, k, ht, rfl, hk⟩ := at_ i v hv
    refine ⟨.ref t, H, IV.kept (t' := tk) G, rfl, q i t k ht hk fun j k' hj => ?_⟩
    have b := ft j (by have := (List.getElem?_eq_some_iff.mp hj).1; omega)
    simpa [List.getD_eq_getElem?_getD, hk, hj] using b
end
end L2
set_option Elab.async false
set_option linter.all false
set_option maxRecDepth 100000
namespace L2
open PySem PySem.Spec PyProof.Rows
section
variable {X : Cx}
end
theorem x_ninP {K : PySem.W.Frag} {H : Hp} {Q : VK} {a : Addr} {x : V} {xs : List V} {ds : List PyData} {d : PyData} (ha : SqL K H a xs) (hx : Dps K H xs ds) (hd : Dp K H x d) (l1 : PyData.canLayAll0 ds = true) (l2 : d.canLay0 = true) (dp : d.depth ≤ 60) (hm : d ∈ ds) (q : Q (.bl false) H) : rInP K true x (.ref a) H Q := by
  refine ⟨a, xs, ds, d, rfl, .inl ha, hx, hd, l1, l2, dp, ?_⟩
  have e : (ds.any fun z => z.eqv d) = true := List.any_eq_true.mpr ⟨d, hm, SeqAt.eqv_refl _ l2⟩
  rw [e]
  exact q
end L2
set_option Elab.async false
set_option linter.all false
set_option maxRecDepth 100000
namespace GX
open PySem PySem.Spec PyProof.Rows
section
variable {prog : Program} {w : World} {A : Around} {s : Shared} {E : Value → Shared → Prop} {it l : Addr}
end
end GX
set_option Elab.async false
set_option linter.all false
set_option maxRecDepth 100000
namespace GX
open PySem PySem.Spec PyProof.Rows
section
variable {prog : Program} {w : World} {A : Around} {s : Shared} {E : Value → Shared → Prop} {it v d : Addr} {es : Array DictEntry} {i ep : Nat}
end
end GX
set_option Elab.async false
set_option linter.all false
set_option maxRecDepth 100000
namespace L2
open PySem PySem.Spec PyProof.Rows
section
variable (ky : Nat → Int)
variable {ky} {n : Nat} (hn : 0 < n)
include hn
end
section
variable {prog : Program} {w : World} {A : Around} {E : Value → Shared → Prop} {s : Shared}
end
section
variable {X : Cx} {pins : List (Addr × Obj)} {σ : St} {H : Hp} {s : Shared} {D f : Addr} {xs : List V} {its : List Value} {ks : List (List Int)} {k : Nat} {fd : FuncData} {ps : List Str} {sp : Sp}
end
section
variable {X : Cx}
end
end L2
set_option Elab.async false
set_option linter.all false
set_option maxRecDepth 100000
namespace L2
open PySem PySem.Spec PyProof.Rows
section
variable {P : Program} {w : World} {H H' : Hp} {h h' : Heap} {cs fs : List Addr}
end
section
variable {CX : CXT} {P : Program} {w : World} {K : PySem.W.Frag} {mg : Str → Option Value} {base : Heap} {N ps : List Str} {qual : Str} {scope : Scope} {f : Addr} {cd : Value} {cl : List (Str × Addr)} {A : Around} {outer : List Env} {s : Shared} {H : Hp} {E : XK} {us : List Value} {vs vals : List V}
end
end L2
set_option Elab.async false
set_option linter.all false
set_option maxRecDepth 100000
namespace L2
open PySem PySem.Spec PyProof.Rows
section
variable {X : Cx}
end
end L2
set_option Elab.async false
set_option linter.all false
set_option maxRecDepth 100000
namespace L2
open PySem PySem.Spec PyProof.Rows
section
variable {P : Program} {w : World} {K : PySem.W.Frag} {mg : Str → Option Value} {base : Heap}
end
end L2
local macro_rules | `(tactic| sizeOf_list_dec) => `(tactic| first | assumption | decide | exact ⟨by decide, by decide⟩ | exact ⟨by decide, by decide, by decide⟩ | exact Nat.le_of_ble_eq_true rfl | exact L2.small1000 (by omega) | exact L2.pow18p | exact L2.pow60p | omega | fail)
local macro_rules | `(tactic| decreasing_trivial_pre_omega) => `(tactic| first | assumption | (apply L2.SqL.of; assumption) | (apply L2.SqT.of; assumption) | (refine Or.inl ?_; assumption) | (refine Or.inl ?_; apply L2.SqL.of; assumption) | (refine Or.inr ?_; apply L2.SqT.of; assumption))
local macro_rules | `(tactic| bv_omega) => `(tactic| first | assumption | exact L2.atI_nat (j := 0) rfl | exact L2.atI_nat (j := 1) rfl | exact L2.atI_nat (j := 2) rfl | exact L2.atI_nat (j := 3) rfl | exact L2.atI_nat (j := 4) rfl | exact L2.atI_nat (j := 5) rfl)
local macro_rules | `(tactic| array_get_dec) => `(tactic| array_mem_dec)
local macro_rules | `(tactic| array_get_dec) => `(tactic| with_reducible first
  | refine L2.x_seqA ?_ | refine L2.x_seqD ?_ | refine L2.x_seqP ?_ | refine L2.x_seqF ?_ | refine L2.x_seqW ?_ | refine L2.x_seqM ?_ | refine L2.x_seqG ?_ | refine L2.x_asg ?_ | refine L2.x_op ?_ | refine L2.x_c ?_ | refine L2.x_ret ?_ | refine L2.x_ifs ?_ | refine L2.x_name ?_
  | refine L2.x_cons ?_ | refine L2.x_nil ?_ | refine L2.x_call ?_ | refine L2.x_cb ?_ | refine L2.x_I0 ?_ | refine L2.x_test ?_ | refine L2.x_tru ?_ | refine L2.x_b ?_ | refine L2.x_exbl ?_ | refine L2.x_extru ?_
  | refine L2.x_and ?_ | refine L2.x_or ?_ | refine L2.x_not ?_ | refine L2.x_andV ?_ | refine L2.x_orV ?_ | refine L2.x_notV ?_ | refine L2.x_ife ?_
  | refine L2.x_next ?_ | refine L2.x_drop ?_ | refine L2.x_un ?_ | refine L2.x_U ?_ | refine L2.x_eqI ?_ | refine L2.x_neI ?_ | refine L2.x_eqS ?_ | refine L2.x_neS ?_ | refine L2.x_eqB ?_ | refine L2.x_neB ?_
  | refine L2.x_tup ?_ | refine L2.x_lst ?_ | refine L2.x_dnew ?_ | refine L2.x_sl ?_ | refine L2.x_nopart ?_ | refine L2.x_part ?_ | refine L2.x_exint ?_
  | refine L2.x_dget ?_ | refine L2.x_dget2 ?_ | refine L2.x_din ?_ | refine L2.x_dnotin ?_ | refine L2.x_dput ?_ | refine L2.x_for ?_ | refine L2.x_ilist ?_ | refine L2.x_itup ?_ | refine L2.x_ir1 ?_ | refine L2.x_bm ?_ | refine L2.x_bm0 ?_ | refine L2.x_comp ?_
  | refine L2.x_gcons ?_ | refine L2.x_gnil ?_ | refine L2.x_retN ?_ | refine L2.x_brk ?_ | refine L2.x_cont ?_ | refine L2.iteT ?_ | refine L2.iteF ?_ | refine L2.iteNT ?_ | refine L2.iteNF ?_)
local macro_rules | `(tactic| array_mem_dec) => `(tactic| ((with_reducible apply L2.x_gtup); (focus decreasing_trivial_pre_omega); (focus rfl)))
local macro_rules | `(tactic| array_mem_dec) => `(tactic| ((with_reducible apply L2.x_var); (focus exact rfl)))
local macro_rules | `(tactic| array_mem_dec) => `(tactic| ((with_reducible apply L2.x_I); (focus sizeOf_list_dec)))
local macro_rules | `(tactic| array_mem_dec) => `(tactic| ((with_reducible apply L2.x_ixT); (focus decreasing_trivial_pre_omega); (focus bv_omega)))
local macro_rules | `(tactic| array_mem_dec) => `(tactic| ((with_reducible apply L2.x_ixL); (focus decreasing_trivial_pre_omega); (focus bv_omega)))
local macro_rules | `(tactic| array_mem_dec) => `(tactic| ((with_reducible apply L2.x_slL); (focus decreasing_trivial_pre_omega)))
local macro_rules | `(tactic| array_mem_dec) => `(tactic| ((with_reducible apply L2.x_exisd); (focus decreasing_trivial_pre_omega)))
local macro_rules | `(tactic| array_mem_dec) => `(tactic| ((with_reducible apply L2.x_exil); (focus decreasing_trivial_pre_omega)))
local macro_rules | `(tactic| array_mem_dec) => `(tactic| ((with_reducible apply L2.x_exit); (focus decreasing_trivial_pre_omega)))
local macro_rules | `(tactic| array_mem_dec) => `(tactic| ((with_reducible apply L2.x_exdo); (focus decreasing_trivial_pre_omega); (first | rw [L2.getDmap] | rw [L2.isSomemap] | skip)))
local macro_rules | `(tactic| array_mem_dec) => `(tactic| ((with_reducible apply L2.x_exdin); (focus decreasing_trivial_pre_omega); (first | rw [L2.getDmap] | rw [L2.isSomemap] | skip)))
local macro_rules | `(tactic| array_mem_dec) => `(tactic| ((with_reducible apply L2.x_exdg); (focus decreasing_trivial_pre_omega); (focus decreasing_trivial_pre_omega)))
local macro_rules | `(tactic| array_mem_dec) => `(tactic| ((with_reducible apply L2.x_tyl); (focus decreasing_trivial_pre_omega)))
local macro_rules | `(tactic| array_mem_dec) => `(tactic| ((with_reducible apply L2.x_lenL); (focus decreasing_trivial_pre_omega)))
local macro_rules | `(tactic| array_mem_dec) => `(tactic| ((with_reducible apply L2.x_lenT); (focus decreasing_trivial_pre_omega)))
local macro_rules | `(tactic| array_mem_dec) => `(tactic| ((with_reducible apply L2.x_lenD); (focus decreasing_trivial_pre_omega)))
local macro_rules | `(tactic| array_mem_dec) => `(tactic| ((with_reducible apply L2.x_nwT); (focus sizeOf_list_dec)))
local macro_rules | `(tactic| array_mem_dec) => `(tactic| ((with_reducible apply L2.x_nwL); (focus sizeOf_list_dec)))
local macro_rules | `(tactic| array_mem_dec) => `(tactic| ((with_reducible apply L2.x_append); (focus assumption); (focus sizeOf_list_dec)))
local macro_rules | `(tactic| array_mem_dec) => `(tactic| ((with_reducible apply L2.x_exdput); (focus assumption); (focus assumption); (focus sizeOf_list_dec)))
local macro_rules | `(tactic| clean_wf) => `(tactic| repeat' (first | array_get_dec | fail))
local macro_rules | `(tactic| array_mem_dec) => `(tactic| ((with_reducible apply L2.x_rlenL); (focus decreasing_trivial_pre_omega)))
local macro_rules | `(tactic| array_mem_dec) => `(tactic| ((with_reducible apply L2.x_rlenT); (focus decreasing_trivial_pre_omega)))
local macro_rules | `(tactic| array_mem_dec) => `(tactic| ((with_reducible apply L2.x_rlistL); (focus decreasing_trivial_pre_omega)))
local macro_rules | `(tactic| array_mem_dec) => `(tactic| ((with_reducible apply L2.x_rlistT); (focus decreasing_trivial_pre_omega)))
local macro_rules | `(tactic| array_mem_dec) => `(tactic| ((with_reducible apply L2.x_rtupL); (focus decreasing_trivial_pre_omega)))
local macro_rules | `(tactic| array_mem_dec) => `(tactic| ((with_reducible apply L2.x_rdict); (focus decreasing_trivial_pre_omega)))
local macro_rules | `(tactic| array_mem_dec) => `(tactic| (with_reducible refine L2.x_nonand ?_))
local macro_rules | `(tactic| array_mem_dec) => `(tactic| ((with_reducible apply L2.x_rlenQ); (focus decreasing_trivial_pre_omega)))
local macro_rules | `(tactic| array_mem_dec) => `(tactic| ((with_reducible apply L2.x_ixQ); (focus decreasing_trivial_pre_omega); (focus bv_omega)))
local macro_rules | `(tactic| array_mem_dec) => `(tactic| (with_reducible first | refine L2.x_nx ?_ | refine L2.x_yes ?_ | refine L2.x_turn ?_ | refine L2.x_seqN ?_ | refine L2.x_fld ?_ | refine L2.x_sfld ?_ | refine L2.x_methS ?_ | refine L2.x_make ?_ | refine L2.x_mk ?_))
local macro_rules | `(tactic| array_mem_dec) => `(tactic| ((with_reducible refine L2.x_mtS1 ?_); (with_reducible refine L2.x_mtS1 ?_); (with_reducible apply L2.x_mtS0); (focus assumption); (focus sizeOf_list_dec)))
local macro_rules | `(tactic| array_mem_dec) => `(tactic| ((with_reducible refine L2.x_mtS1 ?_); (with_reducible apply L2.x_mtS0); (focus assumption); (focus sizeOf_list_dec)))
local macro_rules | `(tactic| array_mem_dec) => `(tactic| ((with_reducible apply L2.x_mtS0); (focus assumption); (focus sizeOf_list_dec)))
local macro_rules | `(tactic| array_mem_dec) => `(tactic| ((with_reducible apply L2.x_fldk); (focus assumption); (focus sizeOf_list_dec); (focus sizeOf_list_dec); (focus sizeOf_list_dec)))
local macro_rules | `(tactic| array_mem_dec) => `(tactic| ((with_reducible apply L2.x_sfk); (focus assumption); (focus sizeOf_list_dec); (focus sizeOf_list_dec); (focus sizeOf_list_dec)))
local macro_rules | `(tactic| sizeOf_list_dec) => `(tactic| with_reducible first | exact L2.cfl_number | exact L2.cfl_caller | exact L2.cfl_count | exact L2.cfl_word | exact L2.cfl_causes | exact L2.cfl_free | exact L2.cfl_in_turn | exact L2.cfl_asks_place | exact L2.cfl_kind | exact L2.cfl_name | exact L2.cfl_rank | exact L2.cfl_told | exact L2.cfl_shown | fail)
local macro_rules | `(tactic| array_mem_dec) => `(tactic| ((with_reducible apply L2.x_gisd); (focus decreasing_trivial_pre_omega)))
local macro_rules | `(tactic| array_mem_dec) => `(tactic| ((with_reducible apply L2.x_gdg); (focus decreasing_trivial_pre_omega); (focus assumption)))
local macro_rules | `(tactic| array_mem_dec) => `(tactic| ((with_reducible apply L2.x_gdo); (focus decreasing_trivial_pre_omega)))
local macro_rules | `(tactic| array_mem_dec) => `(tactic| ((with_reducible apply L2.x_gdin); (focus decreasing_trivial_pre_omega)))
local macro_rules | `(tactic| array_mem_dec) => `(tactic| ((with_reducible apply L2.x_gdput); (focus assumption); (focus assumption); (focus sizeOf_list_dec)))
local macro_rules | `(tactic| sizeOf_list_dec) => `(tactic| with_reducible first | exact L2.kf_learnt | exact L2.kf_learn | exact L2.kf_row_of | exact L2.kf_floor | exact L2.kf_reach | exact L2.kf_sure | fail)
local macro_rules | `(tactic| array_mem_dec) => `(tactic| ((with_reducible apply L2.x_rdictG); (focus decreasing_trivial_pre_omega)))
local macro_rules | `(tactic| array_mem_dec) => `(tactic| (with_reducible first | refine L2.x_ivals ?_ | refine L2.x_ikeys ?_ | refine L2.x_iseq ?_ | refine L2.x_sl3 ?_))
local macro_rules | `(tactic| array_mem_dec) => `(tactic| ((with_reducible apply L2.x_tyd); (focus assumption)))
local macro_rules | `(tactic| array_mem_dec) => `(tactic| (with_reducible first | refine L2.x_iitems ?_))
local macro_rules | `(tactic| array_mem_dec) => `(tactic| ((with_reducible apply L2.x_neE); (focus decreasing_trivial_pre_omega); (focus decreasing_trivial_pre_omega)))
local macro_rules | `(tactic| sizeOf_list_dec) => `(tactic| with_reducible first | exact L2.kf_listed | exact L2.kf_merge | fail)
local macro_rules | `(tactic| array_mem_dec) => `(tactic| (with_reducible first | refine L2.x_gsub ?_))
local macro_rules | `(tactic| array_mem_dec) => `(tactic| (with_reducible first | refine L2.x_maxl ?_))
local macro_rules | `(tactic| sizeOf_list_dec) => `(tactic| with_reducible first | exact L2.chf_me | exact L2.chf_hands | exact L2.chf_ballot | exact L2.chf_yes | exact L2.chf_votes | exact L2.chf_reports | exact L2.chf_agreed | exact L2.chf_begin | exact L2.chf_message | exact L2.chf_receive | exact L2.chf_see_ballot | exact L2.chf_see_yes | exact L2.chf_see_votes | exact L2.chf_gathers | exact L2.chf_settled | exact L2.chf_len | fail)
local macro_rules | `(tactic| array_mem_dec) => `(tactic| (with_reducible first | refine L2.x_mink ?_))
local macro_rules | `(tactic| array_mem_dec) => `(tactic| (with_reducible first | refine L2.x_sortk ?_))
namespace K25
open PySem L2
def top (i : Nat) : Stmt := PySem.Challenge.pw_groupcall_k25_places_given.main.body.getD i (.Pass ⟨0, 0, 0, 0⟩)
abbrev s_count_of : Stmt := top 2
abbrev s_hands_among : Stmt := top 3
abbrev s_covers : Stmt := top 4
abbrev s_unpacked : Stmt := top 6
abbrev s_joined : Stmt := top 5
abbrev s_covers_name : Stmt := top 7
abbrev s_Call___init__ : Stmt := inClass (top 26) 0
abbrev s_OwnCall___init__ : Stmt := inClass (top 27) 0
abbrev s_is_whole : Stmt := top 23
abbrev s_is_word : Stmt := top 30
abbrev s_make_call : Stmt := top 31
abbrev s_Call_in_turn : Stmt := inClass (top 26) 4
abbrev s_Call_free : Stmt := inClass (top 26) 5
abbrev s_HeardCall_free : Stmt := inClass (top 28) 1
abbrev s_first_open : Stmt := top 10
abbrev s_name_at : Stmt := top 11
abbrev s_Call_name : Stmt := inClass (top 26) 1
abbrev s_Call_rank : Stmt := inClass (top 26) 2
abbrev s_Call_asks_place : Stmt := inClass (top 26) 6
abbrev s_OneCall_asks_place : Stmt := inClass (top 29) 1
abbrev s_rank_of : Stmt := top 9
abbrev s_can_be_taken : Stmt := top 12
abbrev s_first_to_take : Stmt := top 13
abbrev s_callers_from : Stmt := top 14
abbrev s_run : Stmt := top 15
abbrev s_least_asking : Stmt := top 16
section
variable {P : Program} {w : World} {K : PySem.W.Frag} {mg : Str → Option Value} {base : Heap}
def sp_count_of (K : PySem.W.Frag) : Sp := fun vs H Q _ => ∃ (d : Addr) (m : List (Int × Int)) (h : Int), vs = [.ref d, .int h] ∧ Rd H d (.dK (dI m)) ∧ Q (.int (ct m h)) H
theorem sc_count_of : FnScope ["counts", "hand"] ["counts", "hand"] (defScope s_count_of) := ⟨rfl, rfl, rfl, by decide +kernel, rfl, by decide +kernel, by decide +kernel⟩
theorem ok_count_of {f  : Addr} {fd  : FuncData} (F : Fun K "count_of" "count_of" s_count_of f fd) : FnOk P w K mg base CX0 1 f fd ["counts", "hand"] (sp_count_of K) := by
  refine F.ok sc_count_of (fun vs H Q E h => ?_) (fun cdv A outer s H vs Q E hr h => ?_)
  · obtain ⟨d, m, h, rfl, _⟩ := h
    rfl
  obtain ⟨d, m, h, rfl, h⟩ := h
  have hu64 := hr.units
  have hu0 := hr.units0
  have hu := hu_of hr
  refine ⟨_, (pss_one (ps_ret (pe_dget2 hu (pv 0) (pv 1) pe_int ⟨rfl, rfl, rfl, rfl⟩))), ?_⟩
  obtain ⟨hd, k⟩ := h
  refine ⟨_, rfl, d, rfl, .inl ⟨_, hd⟩, _, rfl, _, .inl ⟨_, Sum.inl h, hd, rfl, rfl⟩, ?_⟩
  show Q ((valV (dI m) (Sum.inl h : Key)).getD (.int 0)) H
  rw [ct_getD]
  exact k
def sp_hands_among (K : PySem.W.Frag) : Sp := fun vs H Q _ => ∃ (a : Addr) (xs : List V) (ms : List (List (Int × Int))), vs = [.ref a] ∧ SqL K H a xs ∧ Dcs H xs ms ∧ (∀ m ∈ ms, Ck m) ∧ ms.length ≤ 10 ∧
  ∀ (H' : Hp) (l : Addr) (S : List Int), Same H H' → H' l = some (.lst (S.map V.int)) → S.Nodup → (∀ k, k ∈ S ↔ ∃ m ∈ ms, k ∈ m.map (·.1)) → Q (.ref l) H'
theorem sc_hands_among : FnScope ["some", "hands", "counts"] ["some"] (defScope s_hands_among) := ⟨rfl, rfl, rfl, by decide +kernel, rfl, by decide +kernel, by decide +kernel⟩
set_option maxHeartbeats 1000000 in
theorem ok_hands_among {f  : Addr} {fd  : FuncData} (F : Fun K "hands_among" "hands_among" s_hands_among f fd) (h_list : mg "list" = none) (h_set : mg "set" = none) (h_sorted : mg "sorted" = none) : FnOk P w K mg base CX0 1 f fd ["some"] (sp_hands_among K) := by
  refine F.ok sc_hands_among (fun vs H Q E h => ?_) (fun cdv A outer s H vs Q E hr h => ?_)
  · obtain ⟨a, xs, ms, rfl, _⟩ := h
    rfl
  obtain ⟨a, xs, ms, rfl, h⟩ := h
  have hu64 := hr.units
  have hu0 := hr.units0
  have hu := hu_of hr
  refine ⟨_, (pss_cons (ps_set (i := 1) sc_hands_among.nd rfl (Or.inl rfl) (pe_lst pa_nil))
      (pss_cons (ps_for PassesOwn.never rfl (pi_listK (K := K) rfl (pv 0)) (pg_name (i := 2) sc_hands_among.nd rfl (Or.inl rfl))
      (pss_one (ps_expr (pe_bm PySem.F.plainAttrs_list PySem.F.slot_list_extend PySem.F.type_list_extend mt_extend (pv 1) (pa_cons (pe_callTy (call_listD rfl) (by rfl) h_list PyProof.Rows.boot_list (pa_cons (pv 2) pa_nil)) pa_nil)))))
      (pss_one (ps_ret (pe_callB (call_sortedS rfl) (by rfl) h_sorted PyProof.Rows.boot_sorted (pa_cons (pe_callTy (call_setI rfl) (by rfl) h_set (show bootBuiltins "set" = some (.type "set") by decide +kernel) (pa_cons (pv 1) pa_nil)) pa_nil)))))), ?_⟩
  obtain ⟨hS, dc, ck, l10, k⟩ := h
  refine ⟨Nat.zero_le _, fun hl hhl => ?_⟩
  have lx : xs.length = ms.length := Paired.length dc
  refine ⟨_, rfl, a, rfl, ⟨_, (same_upd hhl).seq hS⟩, for_list (K := K) (a := a) (xs := xs) (fun i σ H' => ∃ v ns, σ = [some (.ref a), some (.ref hl), v] ∧ Same H H' ∧ H' hl = some (.lst (ns.map V.int)) ∧ ns.length ≤ 63 * i ∧ ∀ k, k ∈ ns ↔ ∃ m ∈ ms.take i, k ∈ m.map (·.1))
    ⟨none, [], rfl, same_upd hhl, upd_same, Nat.zero_le _, fun k => by simp⟩ (fun i σ H' _ ⟨_, _, _, sm, _⟩ => sm.seq hS) ?_ ?_⟩
  · rintro i x σ H' hx ⟨v, ns, rfl, sm, hH, hlen, hm⟩
    obtain ⟨m, hmi, d, rfl, hd⟩ := Dcs.get dc hx
    have hi := (List.getElem?_eq_some_iff.mp hmi).1
    have cm := ck m (List.mem_of_getElem? hmi)
    have lm := cm.len
    refine ⟨_, rfl, .inl ⟨rfl, _, SqL.of hH⟩, _, rfl, d, m, rfl, same_rd sm hd, by omega, fun l hl2 => ?_⟩
    have nl : hl ≠ l := ne_of_none hH hl2
    refine ⟨hl, l, _, _, rfl, rfl, by rw [upd_ne nl]; exact hH, upd_same, ?_, some (.ref d), ns ++ m.map (·.1), rfl, fun b o e => ?_, ?_, ?_, fun k => ?_⟩
    · rw [List.length_map, List.length_map, List.length_map]
      exact Nat.le_of_lt (small1000 (by omega))
    · rw [upd_ne (ne_of_none e hhl), upd_ne (ne_of_none (sm b o e) hl2)]
      exact sm b o e
    · rw [upd_same, List.map_append]
    · rw [List.length_append, List.length_map]
      omega
    · rw [take_get hmi, List.mem_append, hm k]
      constructor
      · rintro (⟨m', q1, q2⟩ | q)
        · exact ⟨m', List.mem_append_left _ q1, q2⟩
        · exact ⟨m, List.mem_append_right _ (by simp), q⟩
      · rintro ⟨m', q1, q2⟩
        rcases List.mem_append.mp q1 with z | z
        · exact .inl ⟨m', z, q2⟩
        · rw [List.mem_singleton.mp z] at q2
          exact .inr q2
  rintro σ H' ⟨v, ns, rfl, sm, hH, hlen, hm⟩
  rw [lx, List.take_length] at hm
  refine ⟨_, rfl, hl, ns, rfl, SqL.of hH, by omega, fun q ks hq nd mem => ?_⟩
  have rg : ∀ k ∈ ks, 0 ≤ k ∧ k < 63 := fun k hk => by
    obtain ⟨m, h1, h2⟩ := (hm k).mp ((mem k).mp hk)
    exact (ck m h1).keys k h2
  refine ⟨q, ks, rfl, upd_same, nd, hs_len nd rg, fun l S hl3 pm so => ?_⟩
  refine k _ l S (sm.trans ((same_upd hq).trans (same_upd hl3))) upd_same (pm.nodup_iff.mpr nd) fun j => ?_
  rw [pm.mem_iff, mem j, hm j]
def sp_covers (K : PySem.W.Frag) : Sp := fun vs H Q _ => ∃ (d e : Addr) (m n : List (Int × Int)), vs = [.ref d, .ref e] ∧ Rd H d (.dK (dI m)) ∧ Rd H e (.dK (dI n)) ∧ Ck m ∧ Ck n ∧ ∀ H', Same H H' → Q (.bl (cov m n)) H'
theorem sc_covers : FnScope ["one", "other"] ["one", "other"] (defScope s_covers) := ⟨rfl, rfl, rfl, by decide +kernel, rfl, by decide +kernel, by decide +kernel⟩
set_option maxHeartbeats 1000000 in
theorem ok_covers {f f_count_of f_hands_among : Addr} {fd fd_count_of fd_hands_among : FuncData} (F : Fun K "covers" "covers" s_covers f fd)
    (G_count_of : FnOk P w K mg base CX0 1 f_count_of fd_count_of ["counts", "hand"] (sp_count_of K)) (C_count_of : Cal K mg "count_of" f_count_of fd_count_of ["counts", "hand"])
    (G_hands_among : FnOk P w K mg base CX0 1 f_hands_among fd_hands_among ["some"] (sp_hands_among K)) (C_hands_among : Cal K mg "hands_among" f_hands_among fd_hands_among ["some"]) (h_all : mg "all" = none) : FnOk P w K mg base CX0 2 f fd ["one", "other"] (sp_covers K) := by
  refine F.ok sc_covers (fun vs H Q E h => ?_) (fun cdv A outer s H vs Q E hr h => ?_)
  · obtain ⟨d, e, m, n, rfl, _⟩ := h
    rfl
  obtain ⟨d, e, m, n, rfl, h⟩ := h
  have hu64 := hr.units
  have hu0 := hr.units0
  have hu := hu_of hr
  refine ⟨_, (pss_one (ps_ret (pe_callB (call_all rfl) (by rfl) h_all PyProof.Rows.boot_all (pa_cons (pe_comp ["one", "other", "hand"] [some 0, some 1, none] rfl rfl (by kernel_rfl) (pi_listK (K := K) rfl (pcall G_hands_among C_hands_among hr (pa_cons (pe_lst (pa_cons (pv 0) (pa_cons (pv 1) pa_nil))) pa_nil))) (fun _ _ _ _ _ nd => pg_name (i := 2) nd rfl (Or.inl rfl)) (fun _ _ _ _ _ => pif_nil) (fun _ _ _ _ _ => (pe_cmpR op_ge (pcall G_count_of C_count_of hr (pa_cons (pv 0) (pa_cons (pv 2) pa_nil))) (pcall G_count_of C_count_of hr (pa_cons (pv 1) (pa_cons (pv 2) pa_nil))) (nomark _)))) pa_nil)))), ?_⟩
  obtain ⟨hd, he, cm, cn, k⟩ := h
  refine ⟨_, rfl, _, rfl, by show 2 ≤ sizeLine; decide, fun l0 hl0 => ?_⟩
  have s0 := same_upd (o := .lst [V.ref d, .ref e]) hl0
  refine ⟨l0, _, [m, n], rfl, SqL.of upd_same, .cons ⟨d, rfl, same_rd s0 hd⟩ (.cons ⟨e, rfl, same_rd s0 he⟩ .nil), fun x hx => ?_, by show 2 ≤ 10; decide, fun H1 l S sm hl nd mem => ?_⟩
  · rcases List.mem_cons.mp hx with z | z
    · rw [z]; exact cm
    · rw [List.mem_singleton.mp z]; exact cn
  have s1 := s0.trans sm
  have rg : ∀ j ∈ S, 0 ≤ j ∧ j < 63 := fun j hj => by
    rcases two.mp ((mem j).mp hj) with z | z
    · exact cm.keys j z
    · exact cn.keys j z
  have lS := hs_len nd rg
  refine ⟨l, rfl, ⟨_, SqL.of hl⟩, fun D hD => ?_⟩
  refine comp_list (K := K) (a := l) (xs := S.map V.int) (fun i σ H' => ∃ v, σ = [some (.ref d), some (.ref e), v] ∧ Same H1 H' ∧ H' D = some (.lst (((S.take i).map fun j => decide (ct n j ≤ ct m j)).map V.bl))) ⟨none, rfl, same_upd hD, upd_same⟩ ?_ ?_ ?_
  · rintro i σ H' _ ⟨_, _, q, _⟩
    exact SqL.of (q _ _ hl)
  · rintro i x σ H' hx ⟨v, rfl, q, hDx⟩
    obtain ⟨j, hj, rfl⟩ := int_get hx
    have hil := (List.getElem?_eq_some_iff.mp hj).1
    have s2 := s1.trans q
    refine cT_yes ⟨_, rfl, _, rfl, d, m, j, rfl, same_rd s2 hd, _, rfl, _, rfl, e, n, j, rfl, same_rd s2 he, _, _, rfl, rfl, _, hDx, ?_, some (.int j), rfl, fun b o z => ?_, ?_⟩
    · rw [List.length_map, List.length_map, List.length_take]
      exact small1000 (by omega)
    · rw [upd_ne (ne_of_none z hD)]
      exact q b o z
    · rw [upd_same, take_get hj, List.map_append, List.map_append]
      rfl
  rintro σ H' ⟨v, rfl, q, hDx⟩
  rw [show S.take (S.map V.int).length = S by rw [List.length_map, List.take_length]] at hDx
  refine ⟨D, _, rfl, SqL.of hDx, ?_⟩
  have ev : ((S.map fun j => decide (ct n j ≤ ct m j)).all fun b => b) = cov m n := by
    rw [Bool.eq_iff_iff, cov_iff cm cn, List.all_eq_true]
    constructor
    · intro h j
      by_cases hj : j ∈ S
      · exact of_decide_eq_true (h _ (List.mem_map_of_mem (f := fun j => decide (ct n j ≤ ct m j)) hj))
      · rw [ct_out (fun z => hj ((mem j).mpr (two.mpr (.inr z))))]
        exact cm.ct j
    · intro h b hb
      obtain ⟨j, _, rfl⟩ := List.mem_map.mp hb
      exact decide_eq_true (h j)
  rw [ev]
  exact k _ (s1.trans q)
def sp_unpacked (K : PySem.W.Frag) : Sp := fun vs H Q _ => ∃ (a : Addr) (xs : List V) (ps : List (Int × Int)), vs = [.ref a] ∧ (SqL K H a xs ∨ SqT K H a xs) ∧ Prs H xs ps ∧ ps.length ≤ 1000 ∧ (ps.map (·.1)).Nodup ∧
  ∀ (H' : Hp) (d : Addr), Same H H' → H d = none → H' d = some (.dK (dI (posI ps))) → Q (.ref d) H'
theorem sc_unpacked : FnScope ["pairs"] ["pairs"] (defScope s_unpacked) := ⟨rfl, rfl, rfl, by decide +kernel, rfl, by decide +kernel, by decide +kernel⟩
set_option maxHeartbeats 1000000 in
theorem ok_unpacked {f  : Addr} {fd  : FuncData} (F : Fun K "unpacked" "unpacked" s_unpacked f fd) (h_dict : mg "dict" = none) : FnOk P w K mg base CX0 1 f fd ["pairs"] (sp_unpacked K) := by
  refine F.ok sc_unpacked (fun vs H Q E h => ?_) (fun cdv A outer s H vs Q E hr h => ?_)
  · obtain ⟨a, xs, ps, rfl, _⟩ := h
    rfl
  obtain ⟨a, xs, ps, rfl, h⟩ := h
  have hu64 := hr.units
  have hu0 := hr.units0
  have hu := hu_of hr
  refine ⟨_, (pss_one (ps_ret (pe_callTy (call_dictP rfl) (by rfl) h_dict PyProof.Rows.boot_dict (pa_cons (pe_comp ["hand", "count"] [none, none] rfl rfl (by kernel_rfl) (pi_seqK (K := K) rfl (pv 0)) (fun _ _ _ _ _ nd => pg_tupK (K := K) (n := 2) rfl rfl (pgs_cons (pg_name (i := 0) nd rfl (Or.inl rfl)) (pgs_cons (pg_name (i := 1) nd rfl (Or.inl rfl)) pgs_nil))) (fun _ _ _ _ _ => (pif_one (pt_cmpR op_gt (pv 1) pe_int (nomark _)))) (fun _ _ _ _ _ => (pe_tup (pa_cons (pv 0) (pa_cons (pv 1) pa_nil))))) pa_nil)))), ?_⟩
  obtain ⟨hS, hp, hlen, nd, k⟩ := h
  have lx := hp.len
  -- one turn
  have turn : ∀ (D : Addr) (_ : H D = none) (i : Nat) (x : V) (σ : St) (H' : Hp), xs[i]? = some x → (∃ v v2 ys, σ = [v, v2] ∧ Same H H' ∧ H' D = some (.lst ys) ∧ ys.length ≤ i ∧ Prs H' ys (posI (ps.take i))) →
      cTurn (gTup K 2 (gCons (gName 0) (gCons (gName 1) gNil))) (tTest (tOp (rI0 fun i j => .bl (decide (j < i))) (tVar 1) (tC (.int 0)))) (tTup (tCons (tVar 0) (tCons (tVar 1) tNil))) D
        (fun σ H' => ∃ v v2 ys, σ = [v, v2] ∧ Same H H' ∧ H' D = some (.lst ys) ∧ ys.length ≤ i + 1 ∧ Prs H' ys (posI (ps.take (i + 1)))) x σ H' := by
    rintro D hD i x σ H' hx ⟨v, v2, ys, rfl, sm, hDx, ly, pr⟩
    obtain ⟨p, hpi, b, rfl, hb⟩ := hp.get hx
    have hil := (List.getElem?_eq_some_iff.mp hpi).1
    refine ⟨b, _, rfl, SqT.of (sm _ _ hb), rfl, _, _, rfl, _, _, rfl, rfl, _, rfl, _, _, rfl, rfl, _, rfl, ite2 (fun h => ?_) fun h => ?_⟩
    · have h' : 0 < p.2 := of_decide_eq_true h
      refine ⟨_, rfl, _, rfl, by show 2 ≤ sizeLine; decide, fun q hq => ?_⟩
      have nDq : D ≠ q := ne_of_none hDx hq
      refine ⟨ys, by rw [upd_ne nDq]; exact hDx, small1000 (by omega), some (.int p.1), some (.int p.2), _, rfl, fun b o e => ?_, upd_same, by rw [List.length_append]; exact Nat.succ_le_succ ly, ?_⟩
      · rw [upd_ne (ne_of_none e hD), upd_ne (ne_of_none (sm b o e) hq)]
        exact sm b o e
      · rw [take_get hpi, pos_yes h']
        refine Prs.snoc (pr.mono fun a ys e => ?_) ⟨q, rfl, ?_⟩
        · rw [upd_ne (ne_of e hDx (by intro z; cases z)), upd_ne (ne_of_none e hq)]
          exact e
        · rw [upd_ne (Ne.symm nDq), upd_same]
    · have h' : ¬ 0 < p.2 := fun z => h (decide_eq_true z)
      refine ⟨some (.int p.1), some (.int p.2), ys, rfl, sm, hDx, Nat.le_succ_of_le ly, ?_⟩
      rw [take_get hpi, pos_no h']
      exact pr
  have fin : ∀ (D : Addr) (_ : H D = none) (σ : St) (H' : Hp), (∃ v v2 ys, σ = [v, v2] ∧ Same H H' ∧ H' D = some (.lst ys) ∧ ys.length ≤ xs.length ∧ Prs H' ys (posI (ps.take xs.length))) →
      ∃ (a : Addr) (ys : List V) (qs : List (Int × Int)), [V.ref D] = [.ref a] ∧ H' a = some (.lst ys) ∧ Prs H' ys qs ∧ (qs.map (·.1)).Nodup ∧ qs.length ≤ 1000 ∧ ∀ p, H' p = none → Q (.ref p) (upd H' p (.dK (dI qs))) := by
    rintro D hD σ H' ⟨v, v2, ys, rfl, sm, hDx, ly, pr⟩
    rw [lx, List.take_length] at pr
    refine ⟨D, ys, posI ps, rfl, hDx, pr, pos_nd nd, Nat.le_trans (pos_len ps) hlen, fun p hp' => ?_⟩
    exact k _ p (sm.trans (same_upd hp')) (sm.free hp') upd_same
  rcases hS with hS | hS
  · refine ⟨_, rfl, a, rfl, .inl ⟨⟨_, hS⟩, fun D hD => ?_⟩⟩
    exact comp_list (K := K) (a := a) (xs := xs) (fun i σ H' => ∃ v v2 ys, σ = [v, v2] ∧ Same H H' ∧ H' D = some (.lst ys) ∧ ys.length ≤ i ∧ Prs H' ys (posI (ps.take i))) ⟨none, none, [], rfl, same_upd hD, upd_same, Nat.le_refl _, .nil⟩
      (fun i σ H' _ ⟨_, _, _, _, sm, _⟩ => sm.seq hS) (turn D hD) (fin D hD)
  · refine ⟨_, rfl, a, rfl, .inr ⟨⟨_, hS⟩, fun D hD => ?_⟩⟩
    exact comp_tup (K := K) (a := a) (xs := xs) (fun i σ H' => ∃ v v2 ys, σ = [v, v2] ∧ Same H H' ∧ H' D = some (.lst ys) ∧ ys.length ≤ i ∧ Prs H' ys (posI (ps.take i))) ⟨none, none, [], rfl, same_upd hD, upd_same, Nat.le_refl _, .nil⟩
      (fun i σ H' _ ⟨_, _, _, _, sm, _⟩ => same_tup sm hS) (turn D hD) (fin D hD)
def sp_joined (K : PySem.W.Frag) : Sp := fun vs H Q _ => ∃ (d e : Addr) (m n : List (Int × Int)), vs = [.ref d, .ref e] ∧ Rd H d (.dK (dI m)) ∧ Rd H e (.dK (dI n)) ∧ Ck m ∧ Ck n ∧
  ∀ (H' : Hp) (p : Addr) (j : List (Int × Int)), Same H H' → H p = none → H' p = some (.dK (dI j)) → Td j → (∀ k, IsMx [m, n] k (ct j k)) → Q (.ref p) H'
theorem sc_joined : FnScope ["one", "other"] ["one", "other"] (defScope s_joined) := ⟨rfl, rfl, rfl, by decide +kernel, rfl, by decide +kernel, by decide +kernel⟩
set_option maxHeartbeats 1000000 in
theorem ok_joined {f f_count_of f_hands_among f_unpacked : Addr} {fd fd_count_of fd_hands_among fd_unpacked : FuncData} (F : Fun K "joined" "joined" s_joined f fd)
    (G_count_of : FnOk P w K mg base CX0 1 f_count_of fd_count_of ["counts", "hand"] (sp_count_of K)) (C_count_of : Cal K mg "count_of" f_count_of fd_count_of ["counts", "hand"])
    (G_hands_among : FnOk P w K mg base CX0 1 f_hands_among fd_hands_among ["some"] (sp_hands_among K)) (C_hands_among : Cal K mg "hands_among" f_hands_among fd_hands_among ["some"])
    (G_unpacked : FnOk P w K mg base CX0 1 f_unpacked fd_unpacked ["pairs"] (sp_unpacked K)) (C_unpacked : Cal K mg "unpacked" f_unpacked fd_unpacked ["pairs"]) (h_max : mg "max" = none) : FnOk P w K mg base CX0 2 f fd ["one", "other"] (sp_joined K) := by
  refine F.ok sc_joined (fun vs H Q E h => ?_) (fun cdv A outer s H vs Q E hr h => ?_)
  · obtain ⟨d, e, m, n, rfl, _⟩ := h
    rfl
  obtain ⟨d, e, m, n, rfl, h⟩ := h
  have hu64 := hr.units
  have hu0 := hr.units0
  have hu := hu_of hr
  refine ⟨_, (pss_one (ps_ret (pcall G_unpacked C_unpacked hr (pa_cons (pe_comp ["one", "other", "hand"] [some 0, some 1, none] rfl rfl (by kernel_rfl) (pi_listK (K := K) rfl (pcall G_hands_among C_hands_among hr (pa_cons (pe_lst (pa_cons (pv 0) (pa_cons (pv 1) pa_nil))) pa_nil))) (fun _ _ _ _ _ nd => pg_name (i := 2) nd rfl (Or.inl rfl)) (fun _ _ _ _ _ => pif_nil) (fun _ _ _ _ _ => (pe_tup (pa_cons (pv 2) (pa_cons (pe_callB (call_max2 rfl) (by rfl) h_max PyProof.Rows.boot_max (pa_cons (pcall G_count_of C_count_of hr (pa_cons (pv 0) (pa_cons (pv 2) pa_nil))) (pa_cons (pcall G_count_of C_count_of hr (pa_cons (pv 1) (pa_cons (pv 2) pa_nil))) pa_nil))) pa_nil))))) pa_nil)))), ?_⟩
  obtain ⟨hd, he, cm, cn, k⟩ := h
  refine ⟨_, rfl, _, rfl, by show 2 ≤ sizeLine; decide, fun l0 hl0 => ?_⟩
  have s0 := same_upd (o := .lst [V.ref d, .ref e]) hl0
  refine ⟨l0, _, [m, n], rfl, SqL.of upd_same, .cons ⟨d, rfl, same_rd s0 hd⟩ (.cons ⟨e, rfl, same_rd s0 he⟩ .nil), fun x hx => ?_, by show 2 ≤ 10; decide, fun H1 l S sm hl nd mem => ?_⟩
  · rcases List.mem_cons.mp hx with z | z
    · rw [z]; exact cm
    · rw [List.mem_singleton.mp z]; exact cn
  have s1 := s0.trans sm
  have rg : ∀ j ∈ S, 0 ≤ j ∧ j < 63 := fun j hj => by
    rcases two.mp ((mem j).mp hj) with z | z
    · exact cm.keys j z
    · exact cn.keys j z
  have lS := hs_len nd rg
  refine ⟨l, rfl, ⟨_, SqL.of hl⟩, fun D hD => ?_⟩
  refine comp_list (K := K) (a := l) (xs := S.map V.int) (fun i σ H' => ∃ v ys, σ = [some (.ref d), some (.ref e), v] ∧ Same H1 H' ∧ H' D = some (.lst ys) ∧ ys.length ≤ i ∧ Prs H' ys (prs (S.take i) fun j => if ct n j > ct m j then ct n j else ct m j)) ⟨none, [], rfl, same_upd hD, upd_same, Nat.le_refl _, .nil⟩ ?_ ?_ ?_
  · rintro i σ H' _ ⟨_, _, _, q, _⟩
    exact SqL.of (q _ _ hl)
  · rintro i x σ H' hx ⟨v, ys, rfl, q, hDx, ly, pr⟩
    obtain ⟨j, hj, rfl⟩ := int_get hx
    have hil := (List.getElem?_eq_some_iff.mp hj).1
    have s2 := s1.trans q
    refine cT_yes ⟨_, rfl, _, rfl, _, rfl, d, m, j, rfl, same_rd s2 hd, _, rfl, _, rfl, e, n, j, rfl, same_rd s2 he, _, _, rfl, by show 2 ≤ sizeLine; decide, fun p hp => ?_⟩
    have nDp : D ≠ p := ne_of_none hDx hp
    refine ⟨ys, by rw [upd_ne nDp]; exact hDx, small1000 (by omega), some (.int j), _, rfl, fun b o z => ?_, upd_same, by rw [List.length_append]; exact Nat.succ_le_succ ly, ?_⟩
    · rw [upd_ne (ne_of_none z hD), upd_ne (ne_of_none (q b o z) hp)]
      exact q b o z
    · rw [take_get hj]
      show Prs _ _ (List.map _ (_ ++ [j]))
      rw [List.map_append]
      refine Prs.snoc (pr.mono fun a ys z => ?_) ⟨p, rfl, ?_⟩
      · rw [upd_ne (ne_of z hDx (by intro z; cases z)), upd_ne (ne_of_none z hp)]
        exact z
      · rw [upd_ne (Ne.symm nDp), upd_same]
  rintro σ H' ⟨v, ys, rfl, q, hDx, ly, pr⟩
  rw [show S.take (S.map V.int).length = S by rw [List.length_map, List.take_length]] at pr
  refine ⟨D, ys, _, rfl, .inl (SqL.of hDx), pr, ?_, by rw [prs_keys]; exact nd, fun H2 p sm2 hp0 hp => ?_⟩
  · show (List.map _ S).length ≤ 1000
    rw [List.length_map]
    omega
  refine k _ p _ ((s1.trans q).trans sm2) ((s1.trans q).free hp0) hp (prs_td nd rg) fun j => ?_
  have mx : IsMx [m, n] j (if ct n j > ct m j then ct n j else ct m j) := by
    by_cases z : ct n j > ct m j
    · rw [if_pos z]
      refine ⟨⟨n, by simp, rfl⟩, fun x hx => ?_⟩
      rcases List.mem_cons.mp hx with y | y
      · rw [y]; omega
      · rw [List.mem_singleton.mp y]; omega
    · rw [if_neg z]
      refine ⟨⟨m, by simp, rfl⟩, fun x hx => ?_⟩
      rcases List.mem_cons.mp hx with y | y
      · rw [y]; omega
      · rw [List.mem_singleton.mp y]; omega
  by_cases hj : j ∈ S
  · rw [prs_ct nd j hj (by have := cm.ct j; have := cn.ct j; split <;> omega)]
    exact mx
  · have z1 : ct m j = 0 := ct_out fun z => hj ((mem j).mpr (two.mpr (.inl z)))
    have z2 : ct n j = 0 := ct_out fun z => hj ((mem j).mpr (two.mpr (.inr z)))
    rw [prs_out hj]
    rw [z1, z2] at mx
    exact mx
def sp_covers_name (K : PySem.W.Frag) : Sp := fun vs H Q _ => ∃ (d a : Addr), vs = [.ref d, .ref a] ∧ ∃ m n h c, Rd H d (.dK (dI m)) ∧ SqT K H a [.int n, .int h, .int c] ∧ Q (.bl (decide (c ≤ ct m h))) H
theorem sc_covers_name : FnScope ["counts", "name"] ["counts", "name"] (defScope s_covers_name) := ⟨rfl, rfl, rfl, by decide +kernel, rfl, by decide +kernel, by decide +kernel⟩
theorem ok_covers_name {f f_count_of : Addr} {fd fd_count_of : FuncData} (F : Fun K "covers_name" "covers_name" s_covers_name f fd)
    (G_count_of : FnOk P w K mg base CX0 1 f_count_of fd_count_of ["counts", "hand"] (sp_count_of K)) (C_count_of : Cal K mg "count_of" f_count_of fd_count_of ["counts", "hand"]) : FnOk P w K mg base CX0 2 f fd ["counts", "name"] (sp_covers_name K) := by
  refine F.ok sc_covers_name (fun vs H Q E h => ?_) (fun cdv A outer s H vs Q E hr h => ?_)
  · obtain ⟨d, a, rfl, _⟩ := h
    rfl
  obtain ⟨d, a, rfl, h⟩ := h
  have hu64 := hr.units
  have hu0 := hr.units0
  have hu := hu_of hr
  refine ⟨_, (pss_one (ps_ret (pe_cmpR op_ge (pcall G_count_of C_count_of hr (pa_cons (pv 0) (pa_cons (pe_ix (ix_tupK (K := K) rfl) (pv 1) pe_int (fun _ _ => rfl)) pa_nil))) (pe_ix (ix_tupK (K := K) rfl) (pv 1) pe_int (fun _ _ => rfl)) (nomark _)))), ?_⟩
  obtain ⟨m, n, h, c, hd, ha, k⟩ := h
  clean_wf
  refine ⟨d, m, h, rfl, hd, ?_⟩
  clean_wf
  exact k
def GV_KINDS (K : PySem.W.Frag) (v : V) : Prop := ∃ a, v = .ref a ∧ ∀ H, SqT K H a [.str "own", .str "heard", .str "one"]
def sp_Call___init__ (K : PySem.W.Frag) : Sp := fun vs H Q _ => ∃ (p : Addr) (n c k w cs : V), vs = [.ref p, n, c, k, w, cs] ∧ ∃ C dx, TCall K C ∧ H p = some (.ins C dx []) ∧ ∀ H', But p H H' → H' p = some (.ins C dx (cfl n c k w cs)) → Q .non H'
def sp_OwnCall___init__ (K : PySem.W.Frag) : Sp := fun vs H Q _ => ∃ (p : Addr) (n c k w cs : V), vs = [.ref p, n, c, k, w, cs] ∧ ∃ C dx, TCall K C ∧ H p = some (.ins C dx []) ∧ ∀ H' t, (∀ b o, H b = some o → b ≠ p → H' b = some o) → H' t = some (.tup []) → H' p = some (.ins C dx (cfl n c k w (.ref t))) → Q .non H'
theorem sc_Call___init__ : FnScope ["self", "number", "caller", "count", "word", "causes"] ["self", "number", "caller", "count", "word", "causes"] (defScope s_Call___init__) := ⟨rfl, rfl, rfl, by decide +kernel, rfl, by decide +kernel, by decide +kernel⟩
theorem ok_Call___init__ {f  : Addr} {fd  : FuncData} (F : Fun K "__init__" "Call.__init__" s_Call___init__ f fd) : FnOk P w K mg base CX0 1 f fd ["self", "number", "caller", "count", "word", "causes"] (sp_Call___init__ K) := by
  refine F.ok sc_Call___init__ (fun vs H Q E h => ?_) (fun cdv A outer s H vs Q E hr h => ?_)
  · obtain ⟨p, n, c, k, w, cs, rfl, _⟩ := h
    rfl
  obtain ⟨p, n, c, k, w, cs, rfl, h⟩ := h
  have hu64 := hr.units
  have hu0 := hr.units0
  have hu := hu_of hr
  refine ⟨_, (pss_cons (ps_fldK (K := K) rfl (pv 0) (pv 1) rfl)
      (pss_cons (ps_fldK (K := K) rfl (pv 0) (pv 2) rfl)
      (pss_cons (ps_fldK (K := K) rfl (pv 0) (pv 3) rfl)
      (pss_cons (ps_fldK (K := K) rfl (pv 0) (pv 4) rfl)
      (pss_one (ps_fldK (K := K) rfl (pv 0) (pv 5) rfl)))))), ?_⟩
  obtain ⟨C, dx, ⟨cl, n1, n2, n3, n4, n5⟩, hp, q⟩ := h
  clean_wf
  intro H1 b1 g1
  clean_wf
  intro H2 b2 g2
  clean_wf
  intro H3 b3 g3
  clean_wf
  intro H4 b4 g4
  clean_wf
  intro H5 b5 g5
  rw [cfl_put] at g5
  exact q _ (fun b h => (b5 b h).trans ((b4 b h).trans ((b3 b h).trans ((b2 b h).trans (b1 b h))))) g5
theorem sc_OwnCall___init__ : FnScope ["self", "number", "caller", "count", "word", "causes"] ["self", "number", "caller", "count", "word", "causes"] (defScope s_OwnCall___init__) := ⟨rfl, rfl, rfl, by decide +kernel, rfl, by decide +kernel, by decide +kernel⟩
theorem ok_OwnCall___init__ {f f_Call___init__ C_Call : Addr} {fd fd_Call___init__ : FuncData} (F : Fun K "__init__" "OwnCall.__init__" s_OwnCall___init__ f fd)
    (G_Call___init__ : FnOk P w K mg base CX0 1 f_Call___init__ fd_Call___init__ ["self", "number", "caller", "count", "word", "causes"] (sp_Call___init__ K)) (B_Call___init__ : Binds K fd_Call___init__ ["self", "number", "caller", "count", "word", "causes"] []) (T_Call : TCall K C_Call) (m_Call : mg "Call" = some (.ref C_Call)) (cf_Call___init__ : ClsFn K C_Call "__init__" f_Call___init__) : FnOk P w K mg base CX0 2 f fd ["self", "number", "caller", "count", "word", "causes"] (sp_OwnCall___init__ K) := by
  refine F.ok sc_OwnCall___init__ (fun vs H Q E h => ?_) (fun cdv A outer s H vs Q E hr h => ?_)
  · obtain ⟨p, n, c, k, w, cs, rfl, _⟩ := h
    rfl
  obtain ⟨p, n, c, k, w, cs, rfl, h⟩ := h
  have hu64 := hr.units
  have hu0 := hr.units0
  have hu := hu_of hr
  refine ⟨_, (pss_one (ps_expr (pe_clsfn rfl m_Call cf_Call___init__ G_Call___init__ B_Call___init__ hr (pa_cons (pv 0) (pa_cons (pv 1) (pa_cons (pv 2) (pa_cons (pv 3) (pa_cons (pv 4) (pa_cons (pe_tup pa_nil) pa_nil))))))))), ?_⟩
  obtain ⟨C, dx, T, hp, q⟩ := h
  clean_wf
  intro t H1 ht s1 g1
  clean_wf
  refine ⟨p, n, c, k, w, _, rfl, C, dx, T, s1 _ _ hp, fun H2 b2 g2 => ?_⟩
  clean_wf
  exact q _ t (fun b o e hb => b2.at hb (s1 _ _ e)) (b2.of (s1 _ _ hp) g1 (by intro z; cases z)) g2
def sp_is_word (K : PySem.W.Frag) : Sp := fun vs H Q _ => ∃ (w : Int), vs = [.int w] ∧ Q (.bl (decide ((if w < 0 then -w else w) < 10 ^ (60 : Int).toNat))) H

def KdC (mg : Str → Option Value) (kd : Str) (C : Addr) : Prop := (kd = "own" ∧ mg "OwnCall" = some (.ref C)) ∨ (kd = "heard" ∧ mg "HeardCall" = some (.ref C)) ∨ (kd = "one" ∧ mg "OneCall" = some (.ref C))
def sp_make_call (K : PySem.W.Frag) (mg : Str → Option Value) : Sp := fun vs H Q _ => ∃ (n c k : Int) (kd : Str) (w : Int) (t : Addr), vs = [.int n, .int c, .int k, .str kd, .int w, .ref t] ∧ ∃ xs, (kd = "own" ∨ kd = "heard" ∨ kd = "one") ∧ (if w < 0 then -w else w) < 10 ^ (60 : Int).toNat ∧ H t = some (.tup xs) ∧
  ∀ H' p C dx t', Same H H' → H p = none → KdC mg kd C → TCall K C → H' p = some (.ins C dx (cfl (.int n) (.int c) (.int k) (.int w) (.ref t'))) → H' t' = some (.tup (if kd = "own" then [] else xs)) → Q (.ref p) H'
def sp_is_whole (K : PySem.W.Frag) : Sp := fun vs H Q _ => ∃ (w : Int), vs = [.int w] ∧ Q (.bl true) H
theorem sc_is_whole : FnScope ["value"] ["value"] (defScope s_is_whole) := ⟨rfl, rfl, rfl, by decide +kernel, rfl, by decide +kernel, by decide +kernel⟩
theorem ok_is_whole {f  : Addr} {fd  : FuncData} (F : Fun K "is_whole" "is_whole" s_is_whole f fd) (h_bool : mg "bool" = none) (h_int : mg "int" = none) (h_isinstance : mg "isinstance" = none) : FnOk P w K mg base CX0 1 f fd ["value"] (sp_is_whole K) := by
  refine F.ok sc_is_whole (fun vs H Q E h => ?_) (fun cdv A outer s H vs Q E hr h => ?_)
  · obtain ⟨w, rfl, _⟩ := h
    rfl
  obtain ⟨w, rfl, h⟩ := h
  have hu64 := hr.units
  have hu0 := hr.units0
  have hu := hu_of hr
  refine ⟨_, (pss_one (ps_ret (pe_and (pe_callB (call_isiK (K := K) rfl) (by rfl) h_isinstance PyProof.Rows.boot_isinstance (pa_cons (pv 0) (pa_cons (pe_type h_int PyProof.Rows.boot_int) pa_nil))) (pe_one (pe_not (pe_callB (call_isiK (K := K) rfl) (by rfl) h_isinstance PyProof.Rows.boot_isinstance (pa_cons (pv 0) (pa_cons (pe_type h_bool PyProof.Rows.boot_bool) pa_nil)))))))), ?_⟩
  clean_wf
  refine ⟨_, _, _, true, rfl, .int _, (by kernel_rfl), ?_⟩
  clean_wf
  refine ⟨_, _, _, false, rfl, .int _, (by kernel_rfl), ?_⟩
  clean_wf
  exact h
theorem sc_is_word : FnScope ["word"] ["word"] (defScope s_is_word) := ⟨rfl, rfl, rfl, by decide +kernel, rfl, by decide +kernel, by decide +kernel⟩
theorem ok_is_word {f f_is_whole : Addr} {fd fd_is_whole : FuncData} (F : Fun K "is_word" "is_word" s_is_word f fd)
    (G_is_whole : FnOk P w K mg base CX0 1 f_is_whole fd_is_whole ["value"] (sp_is_whole K)) (C_is_whole : Cal K mg "is_whole" f_is_whole fd_is_whole ["value"]) (h_abs : mg "abs" = none) : FnOk P w K mg base CX0 2 f fd ["word"] (sp_is_word K) := by
  refine F.ok sc_is_word (fun vs H Q E h => ?_) (fun cdv A outer s H vs Q E hr h => ?_)
  · obtain ⟨w, rfl, _⟩ := h
    rfl
  obtain ⟨w, rfl, h⟩ := h
  have hu64 := hr.units
  have hu0 := hr.units0
  have hu := hu_of hr
  refine ⟨_, (pss_one (ps_ret (pe_and (pcall G_is_whole C_is_whole hr (pa_cons (pv 0) pa_nil)) (pe_one (pe_cmpR op_lt (pe_callB call_abs (by rfl) h_abs PyProof.Rows.boot_abs (pa_cons (pv 0) pa_nil)) (pe_op op_pow pe_int pe_int) (nomark _)))))), ?_⟩
  clean_wf
  refine ⟨w, rfl, ?_⟩
  clean_wf
  refine ⟨_, rfl, ?_⟩
  clean_wf
  exact h
theorem sc_make_call : FnScope ["number", "caller", "count", "kind", "word", "causes"] ["number", "caller", "count", "kind", "word", "causes"] (defScope s_make_call) := ⟨rfl, rfl, rfl, by decide +kernel, rfl, by decide +kernel, by decide +kernel⟩
theorem ok_make_call {f f_Call___init__ f_OwnCall___init__ f_is_word C_HeardCall C_OneCall C_OwnCall : Addr} {fd fd_Call___init__ fd_OwnCall___init__ fd_is_word : FuncData} {vc_KINDS : V} {uc_KINDS : Value} (F : Fun K "make_call" "make_call" s_make_call f fd)
    (G_Call___init__ : FnOk P w K mg base CX0 2 f_Call___init__ fd_Call___init__ ["self", "number", "caller", "count", "word", "causes"] (sp_Call___init__ K)) (B_Call___init__ : Binds K fd_Call___init__ ["self", "number", "caller", "count", "word", "causes"] [])
    (G_OwnCall___init__ : FnOk P w K mg base CX0 2 f_OwnCall___init__ fd_OwnCall___init__ ["self", "number", "caller", "count", "word", "causes"] (sp_OwnCall___init__ K)) (B_OwnCall___init__ : Binds K fd_OwnCall___init__ ["self", "number", "caller", "count", "word", "causes"] [])
    (G_is_word : FnOk P w K mg base CX0 3 f_is_word fd_is_word ["word"] (sp_is_word K)) (C_is_word : Cal K mg "is_word" f_is_word fd_is_word ["word"]) (T_HeardCall : TCall K C_HeardCall) (T_OneCall : TCall K C_OneCall) (T_OwnCall : TCall K C_OwnCall) (m_HeardCall : mg "HeardCall" = some (.ref C_HeardCall)) (m_OneCall : mg "OneCall" = some (.ref C_OneCall)) (m_OwnCall : mg "OwnCall" = some (.ref C_OwnCall)) (M_HeardCall : Mk K C_HeardCall f_Call___init__) (M_OneCall : Mk K C_OneCall f_Call___init__) (M_OwnCall : Mk K C_OwnCall f_OwnCall___init__) (gm_KINDS : mg "KINDS" = some uc_KINDS) (gr_KINDS : RelV vc_KINDS uc_KINDS) (gv_KINDS : GV_KINDS K vc_KINDS) : FnOk P w K mg base CX0 4 f fd ["number", "caller", "count", "kind", "word", "causes"] (sp_make_call K mg) := by
  refine F.ok sc_make_call (fun vs H Q E h => ?_) (fun cdv A outer s H vs Q E hr h => ?_)
  · obtain ⟨n, c, k, kd, w, t, rfl, _⟩ := h
    rfl
  obtain ⟨n, c, k, kd, w, t, rfl, h⟩ := h
  have hu64 := hr.units
  have hu0 := hr.units0
  have hu := hu_of hr
  refine ⟨_, (pss_cons (ps_if (pt_cmpR (op_ninK (K := K) rfl hu64) (pv 3) (pe_glob rfl gm_KINDS gr_KINDS) (by rfl)) (pss_one ps_never) pss_nil)
      (pss_cons (ps_if (pt_not (pt_callK K rfl (pcall G_is_word C_is_word hr (pa_cons (pv 4) pa_nil)))) (pss_one ps_never) pss_nil)
      (pss_cons (ps_if (pt_cmpR op_eq (pv 3) pe_str (nomark _)) (pss_one (ps_ret (pe_make M_OwnCall G_OwnCall___init__ hr rfl m_OwnCall B_OwnCall___init__ .nil pass0 (pa_cons (pv 0) (pa_cons (pv 1) (pa_cons (pv 2) (pa_cons (pv 4) (pa_cons (pv 5) pa_nil)))))))) pss_nil)
      (pss_cons (ps_if (pt_cmpR op_eq (pv 3) pe_str (nomark _)) (pss_one (ps_ret (pe_make M_HeardCall G_Call___init__ hr rfl m_HeardCall B_Call___init__ .nil pass0 (pa_cons (pv 0) (pa_cons (pv 1) (pa_cons (pv 2) (pa_cons (pv 4) (pa_cons (pv 5) pa_nil)))))))) pss_nil)
      (pss_one (ps_ret (pe_make M_OneCall G_Call___init__ hr rfl m_OneCall B_Call___init__ .nil pass0 (pa_cons (pv 0) (pa_cons (pv 1) (pa_cons (pv 2) (pa_cons (pv 4) (pa_cons (pv 5) pa_nil)))))))))))), ?_⟩
  obtain ⟨xs, hkd, hw, ht, q⟩ := h
  obtain ⟨aK, rfl, hK⟩ := gv_KINDS
  have hKH := hK H
  clean_wf
  refine x_kinds hkd hKH ?_
  clean_wf
  refine ⟨w, rfl, ?_⟩
  clean_wf
  rw [decide_eq_true hw]
  clean_wf
  rcases hkd with rfl | rfl | rfl
  · rw [eq_oo]
    clean_wf
    intro p dx H1 hp s1 g1
    refine ⟨p, _, _, _, _, _, rfl, _, dx, T_OwnCall, g1, fun H2 t' k2 g2 g3 => ⟨rfl, ?_⟩⟩
    refine q _ p _ dx t' (fun b o e => k2 _ _ (s1 _ _ e) (ne_of_none e hp)) hp (.inl ⟨rfl, m_OwnCall⟩) T_OwnCall g3 ?_
    rw [if_pos rfl]
    exact g2
  · rw [ne_oh]
    clean_wf
    rw [eq_hh]
    clean_wf
    intro p dx H1 hp s1 g1
    refine ⟨p, _, _, _, _, _, rfl, _, dx, T_HeardCall, g1, fun H2 b2 g2 => ⟨rfl, ?_⟩⟩
    have s2 : Same H H2 := fun b o e => b2.at (ne_of_none e hp) (s1 _ _ e)
    refine q _ p _ dx t s2 hp (.inr (.inl ⟨rfl, m_HeardCall⟩)) T_HeardCall g2 ?_
    rw [if_neg (by decide +kernel)]
    exact s2 _ _ ht
  · rw [ne_oo]
    clean_wf
    rw [ne_ho]
    clean_wf
    intro p dx H1 hp s1 g1
    refine ⟨p, _, _, _, _, _, rfl, _, dx, T_OneCall, g1, fun H2 b2 g2 => ⟨rfl, ?_⟩⟩
    have s2 : Same H H2 := fun b o e => b2.at (ne_of_none e hp) (s1 _ _ e)
    refine q _ p _ dx t s2 hp (.inr (.inr ⟨rfl, m_OneCall⟩)) T_OneCall g2 ?_
    rw [if_neg (by decide +kernel)]
    exact s2 _ _ ht
def sp_Call_in_turn (K : PySem.W.Frag) : Sp := fun vs H Q _ => ∃ (p d : Addr), vs = [.ref p, .ref d] ∧ ∃ C dx m n c k w cs, TCall K C ∧ H p = some (.ins C dx (cfl n (.int c) (.int k) w cs)) ∧ Rd H d (.dK (dI m)) ∧ Q (.bl (decide (ct m c = k - 1))) H
def sp_Call_free (K : PySem.W.Frag) (mg : Str → Option Value) : Sp := fun vs H Q _ => ∃ (p d : Addr), vs = [.ref p, .ref d] ∧ ∃ C dx m n c k w cs, mg "OwnCall" = some (.ref C) ∧ H p = some (.ins C dx (cfl n (.int c) (.int k) w cs)) ∧ Rd H d (.dK (dI m)) ∧ Q (.bl (decide (ct m c = k - 1))) H
def sp_HeardCall_free (K : PySem.W.Frag) (mg : Str → Option Value) : Sp := fun vs H Q _ => ∃ (p d : Addr), vs = [.ref p, .ref d] ∧ ∃ C dx m n c k w t xs ps, (mg "HeardCall" = some (.ref C) ∨ mg "OneCall" = some (.ref C)) ∧ H p = some (.ins C dx (cfl n (.int c) (.int k) w (.ref t))) ∧ Rd H d (.dK (dI m)) ∧ H t = some (.tup xs) ∧ Prs H xs ps ∧ Ck m ∧ Ck ps ∧ ∀ H', Same H H' → Q (.bl (decide (ct m c = k - 1) && cov m (posI ps))) H'
theorem ck_pos {ps : List (Int × Int)} (c : Ck ps) : Ck (posI ps) := ⟨pos_nd c.nd, fun p hp => c.nn p ((List.mem_filter.mp hp).1), fun p hp => c.rg p ((List.mem_filter.mp hp).1)⟩
theorem sc_Call_in_turn : FnScope ["self", "counts"] ["self", "counts"] (defScope s_Call_in_turn) := ⟨rfl, rfl, rfl, by decide +kernel, rfl, by decide +kernel, by decide +kernel⟩
theorem ok_Call_in_turn {f f_count_of : Addr} {fd fd_count_of : FuncData} (F : Fun K "in_turn" "Call.in_turn" s_Call_in_turn f fd)
    (G_count_of : FnOk P w K mg base CX0 1 f_count_of fd_count_of ["counts", "hand"] (sp_count_of K)) (C_count_of : Cal K mg "count_of" f_count_of fd_count_of ["counts", "hand"]) : FnOk P w K mg base CX0 2 f fd ["self", "counts"] (sp_Call_in_turn K) := by
  refine F.ok sc_Call_in_turn (fun vs H Q E h => ?_) (fun cdv A outer s H vs Q E hr h => ?_)
  · obtain ⟨p, d, rfl, _⟩ := h
    rfl
  obtain ⟨p, d, rfl, h⟩ := h
  have hu64 := hr.units
  have hu0 := hr.units0
  have hu := hu_of hr
  refine ⟨_, (pss_one (ps_ret (pe_cmpR op_eq (pcall G_count_of C_count_of hr (pa_cons (pv 1) (pa_cons (pe_fldK (K := K) rfl (pv 0) rfl) pa_nil))) (pe_op op_sub (pe_fldK (K := K) rfl (pv 0) rfl) pe_int) (nomark _)))), ?_⟩
  obtain ⟨C, dx, m, n, c, k, w, cs, ⟨cl, n1, n2, n3, n4, n5⟩, hp, hd, q⟩ := h
  clean_wf
  refine ⟨d, m, c, rfl, hd, ?_⟩
  clean_wf
  exact q
theorem sc_Call_free : FnScope ["self", "counts"] ["self", "counts"] (defScope s_Call_free) := ⟨rfl, rfl, rfl, by decide +kernel, rfl, by decide +kernel, by decide +kernel⟩
theorem ok_Call_free {f f_Call_in_turn C_OwnCall : Addr} {fd fd_Call_in_turn : FuncData} (F : Fun K "free" "Call.free" s_Call_free f fd)
    (G_Call_in_turn : FnOk P w K mg base CX0 2 f_Call_in_turn fd_Call_in_turn ["self", "counts"] (sp_Call_in_turn K)) (B_Call_in_turn : Binds K fd_Call_in_turn ["self", "counts"] []) (T_OwnCall : TCall K C_OwnCall) (m_OwnCall : mg "OwnCall" = some (.ref C_OwnCall)) (mt_OwnCall_in_turn : Meth K C_OwnCall "in_turn" f_Call_in_turn) : FnOk P w K mg base CX0 3 f fd ["self", "counts"] (sp_Call_free K mg) := by
  refine F.ok sc_Call_free (fun vs H Q E h => ?_) (fun cdv A outer s H vs Q E hr h => ?_)
  · obtain ⟨p, d, rfl, _⟩ := h
    rfl
  obtain ⟨p, d, rfl, h⟩ := h
  have hu64 := hr.units
  have hu0 := hr.units0
  have hu := hu_of hr
  refine ⟨_, (pss_one (ps_ret (pe_methS (MOk.cons T_OwnCall.cl mt_OwnCall_in_turn G_Call_in_turn B_Call_in_turn MOk.nil) (pv 0) hr (pa_cons (pv 1) pa_nil)))), ?_⟩
  obtain ⟨C, dx, m, n, c, k, w, cs, e, hp, hd, q⟩ := h
  rw [m_OwnCall] at e
  cases e
  clean_wf
  exact ⟨p, d, rfl, _, dx, m, n, c, k, w, cs, T_OwnCall, hp, hd, q⟩
theorem sc_HeardCall_free : FnScope ["self", "counts"] ["self", "counts"] (defScope s_HeardCall_free) := ⟨rfl, rfl, rfl, by decide +kernel, rfl, by decide +kernel, by decide +kernel⟩
theorem ok_HeardCall_free {f f_covers f_unpacked f_Call_in_turn C_HeardCall C_OneCall : Addr} {fd fd_covers fd_unpacked fd_Call_in_turn : FuncData} (F : Fun K "free" "HeardCall.free" s_HeardCall_free f fd)
    (G_covers : FnOk P w K mg base CX0 2 f_covers fd_covers ["one", "other"] (sp_covers K)) (C_covers : Cal K mg "covers" f_covers fd_covers ["one", "other"])
    (G_unpacked : FnOk P w K mg base CX0 2 f_unpacked fd_unpacked ["pairs"] (sp_unpacked K)) (C_unpacked : Cal K mg "unpacked" f_unpacked fd_unpacked ["pairs"])
    (G_Call_in_turn : FnOk P w K mg base CX0 2 f_Call_in_turn fd_Call_in_turn ["self", "counts"] (sp_Call_in_turn K)) (B_Call_in_turn : Binds K fd_Call_in_turn ["self", "counts"] []) (T_HeardCall : TCall K C_HeardCall) (T_OneCall : TCall K C_OneCall) (m_HeardCall : mg "HeardCall" = some (.ref C_HeardCall)) (m_OneCall : mg "OneCall" = some (.ref C_OneCall)) (mt_HeardCall_in_turn : Meth K C_HeardCall "in_turn" f_Call_in_turn) (mt_OneCall_in_turn : Meth K C_OneCall "in_turn" f_Call_in_turn) : FnOk P w K mg base CX0 3 f fd ["self", "counts"] (sp_HeardCall_free K mg) := by
  refine F.ok sc_HeardCall_free (fun vs H Q E h => ?_) (fun cdv A outer s H vs Q E hr h => ?_)
  · obtain ⟨p, d, rfl, _⟩ := h
    rfl
  obtain ⟨p, d, rfl, h⟩ := h
  have hu64 := hr.units
  have hu0 := hr.units0
  have hu := hu_of hr
  refine ⟨_, (pss_one (ps_ret (pe_and (pe_methS (MOk.cons T_HeardCall.cl mt_HeardCall_in_turn G_Call_in_turn B_Call_in_turn (MOk.cons T_OneCall.cl mt_OneCall_in_turn G_Call_in_turn B_Call_in_turn MOk.nil)) (pv 0) hr (pa_cons (pv 1) pa_nil)) (pe_one (pcall G_covers C_covers hr (pa_cons (pv 1) (pa_cons (pcall G_unpacked C_unpacked hr (pa_cons (pe_fldK (K := K) rfl (pv 0) rfl) pa_nil)) pa_nil))))))), ?_⟩
  obtain ⟨C, dx, m, n, c, k, w, t, xs, ps, e, hp, hd, ht, hx, cm, cp, q⟩ := h
  have T : TCall K C := by
    rcases e with e | e
    · rw [m_HeardCall] at e; cases e; exact T_HeardCall
    · rw [m_OneCall] at e; cases e; exact T_OneCall
  have go : ∀ {Q' : VK}, (Q' (.bl (decide (ct m c = k - 1))) H) → sp_Call_in_turn K [.ref p, .ref d] H Q' E0 := fun z => ⟨p, d, rfl, _, dx, m, n, c, k, w, _, T, hp, hd, z⟩
  obtain ⟨cl, n1, n2, n3, n4, n5⟩ := id T
  have tail : ∀ {Q' : VK}, (∀ H', Same H H' → Q' (.bl (cov m (posI ps))) H') → ∀ e H1, Same H H1 → H1 e = some (.dK (dI (posI ps))) → sp_covers K [.ref d, .ref e] H1 Q' E0 := fun z e H1 s1 g1 => ⟨d, e, m, posI ps, rfl, same_rd s1 hd, .inl g1, cm, ck_pos cp, fun H2 s2 => z _ (s1.trans s2)⟩
  rcases e with e | e
  · rw [m_HeardCall] at e
    cases e
    clean_wf
    refine go ?_
    clean_wf
    refine ite2 (fun h1 => ?_) fun h1 => ?_
    · clean_wf
      refine ⟨t, xs, ps, rfl, .inr (SqT.of ht), hx, by have := cp.len; omega, cp.nd, fun H1 e1 s1 he1 g1 => ?_⟩
      clean_wf
      refine tail (fun H2 s2 => ?_) _ _ s1 g1
      have := q _ s2
      rw [h1, Bool.true_and] at this
      exact this
    · have h1 := Bool.eq_false_iff.mpr h1
      have := q _ (Same.refl H)
      rw [h1, Bool.false_and] at this
      exact this
  · rw [m_OneCall] at e
    cases e
    clean_wf
    refine go ?_
    clean_wf
    refine ite2 (fun h1 => ?_) fun h1 => ?_
    · clean_wf
      refine ⟨t, xs, ps, rfl, .inr (SqT.of ht), hx, by have := cp.len; omega, cp.nd, fun H1 e1 s1 he1 g1 => ?_⟩
      clean_wf
      refine tail (fun H2 s2 => ?_) _ _ s1 g1
      have := q _ s2
      rw [h1, Bool.true_and] at this
      exact this
    · have h1 := Bool.eq_false_iff.mpr h1
      have := q _ (Same.refl H)
      rw [h1, Bool.false_and] at this
      exact this
abbrev cvd (m : List (Int × Int)) (p : Nm) : Prop := p.2.2 ≤ ct m p.2.1
def sp_first_open (K : PySem.W.Frag) : Sp := fun vs H Q _ => ∃ (a d : Addr) (i : Nat), vs = [.ref a, .ref d, .int i] ∧ ∃ xs m ns, (SqL K H a xs ∨ SqT K H a xs) ∧ Rd H d (.dK (dI m)) ∧ Nms H xs ns ∧ i ≤ ns.length ∧ (∀ k (hk : k < ns.length), k < i → cvd m ns[k]) ∧
  ∀ j : Nat, j ≤ ns.length → (∀ k (hk : k < ns.length), k < j → cvd m ns[k]) → (∀ hj : j < ns.length, ¬ cvd m ns[j]) → Q (.int j) H
theorem sc_first_open : FnScope ["places", "counts", "start", "at"] ["places", "counts", "start"] (defScope s_first_open) := ⟨rfl, rfl, rfl, by decide +kernel, rfl, by decide +kernel, by decide +kernel⟩
theorem ok_first_open {f f_covers_name : Addr} {fd fd_covers_name : FuncData} (F : Fun K "first_open" "first_open" s_first_open f fd)
    (G_covers_name : FnOk P w K mg base CX0 2 f_covers_name fd_covers_name ["counts", "name"] (sp_covers_name K)) (C_covers_name : Cal K mg "covers_name" f_covers_name fd_covers_name ["counts", "name"]) (h_len : mg "len" = none) : FnOk P w K mg base CX0 3 f fd ["places", "counts", "start"] (sp_first_open K) := by
  refine F.ok sc_first_open (fun vs H Q E h => ?_) (fun cdv A outer s H vs Q E hr h => ?_)
  · obtain ⟨a, d, i, rfl, _⟩ := h
    rfl
  obtain ⟨a, d, i, rfl, h⟩ := h
  have hu64 := hr.units
  have hu0 := hr.units0
  have hu := hu_of hr
  refine ⟨_, (pss_cons (ps_set (i := 3) sc_first_open.nd rfl (Or.inl rfl) (pv 2))
      (pss_cons (ps_while PassesOwn.never (PW.pt (pw_and (pt_cmpR op_lt (pv 3) (pe_callB (call_lenK (K := K) rfl) (by rfl) h_len PySem.boot_len (pa_cons (pv 0) pa_nil)) (nomark _)) (pw_and1 (pt_callK K rfl (pcall G_covers_name C_covers_name hr (pa_cons (pv 1) (pa_cons (pe_ix (ix_seqK (K := K) rfl) (pv 0) (pv 3) (fun _ _ => rfl)) pa_nil)))))))
      (pss_one (ps_set (i := 3) sc_first_open.nd rfl (Or.inl rfl) (pe_op op_add (pv 3) pe_int))))
      (pss_one (ps_ret (pv 3))))), ?_⟩
  obtain ⟨xs, m, ns, hS, hd, hn, hi, hc0, k⟩ := h
  clean_wf
  have hl := hn.len
  refine ⟨fun M σ H' => ∃ j : Nat, M = ns.length - j ∧ j ≤ ns.length ∧ σ = [some (.ref a), some (.ref d), some (.int i), some (.int j)] ∧ H' = H ∧ (∀ k (hk : k < ns.length), k < j → cvd m ns[k]), ⟨_, i, rfl, hi, rfl, rfl, hc0⟩, ?_⟩
  rintro M σ H' ⟨j, rfl, hj, rfl, rfl, hc⟩
  clean_wf
  refine ite2 (fun h1 => ?_) fun h1 => ?_
  · have h1 : (j : Int) < (xs.length : Nat) := of_decide_eq_true h1
    have hj2 : j < ns.length := by omega
    obtain ⟨x, hx, b, rfl, hb⟩ := hn.at hj2
    have hat : atI xs (j : Int) = some (.ref b) := atI_nat hx
    clean_wf
    refine ⟨d, b, rfl, m, _, _, _, hd, SqT.of hb, ?_⟩
    clean_wf
    refine ite2 (fun h2 => ?_) fun h2 => ?_
    · have h2 : cvd m ns[j] := of_decide_eq_true h2
      refine ⟨_, fun _ _ z => z, ?_⟩
      clean_wf
      refine ⟨ns.length - (j + 1), by omega, j + 1, rfl, hj2, rfl, rfl, fun k hk h => ?_⟩
      rcases Nat.lt_or_ge k j with z | z
      · exact hc k hk z
      · obtain rfl : k = j := by omega
        exact h2
    · have h2 : ¬ cvd m ns[j] := fun z => h2 (decide_eq_true z)
      clean_wf
      exact k j hj hc fun _ => h2
  · have h1 : ¬ (j : Int) < (xs.length : Nat) := fun z => h1 (decide_eq_true z)
    clean_wf
    exact k j hj hc fun z => absurd z (by omega)
def sp_name_at (K : PySem.W.Frag) : Sp := fun vs H Q _ => ∃ (a : Addr) (i : Int), vs = [.ref a, .int i] ∧ ∃ xs, (SqL K H a xs ∨ SqT K H a xs) ∧ 0 ≤ i ∧ (∀ v, xs[i.toNat]? = some v → Q v H) ∧ (xs.length ≤ i.toNat → Q .non H)
theorem sc_name_at : FnScope ["places", "at"] ["places", "at"] (defScope s_name_at) := ⟨rfl, rfl, rfl, by decide +kernel, rfl, by decide +kernel, by decide +kernel⟩
theorem ok_name_at {f  : Addr} {fd  : FuncData} (F : Fun K "name_at" "name_at" s_name_at f fd) (h_len : mg "len" = none) : FnOk P w K mg base CX0 1 f fd ["places", "at"] (sp_name_at K) := by
  refine F.ok sc_name_at (fun vs H Q E h => ?_) (fun cdv A outer s H vs Q E hr h => ?_)
  · obtain ⟨a, i, rfl, _⟩ := h
    rfl
  obtain ⟨a, i, rfl, h⟩ := h
  have hu64 := hr.units
  have hu0 := hr.units0
  have hu := hu_of hr
  refine ⟨_, (pss_one (ps_ret (pe_ifExp (pt_cmpR op_lt (pv 1) (pe_callB (call_lenK (K := K) rfl) (by rfl) h_len PySem.boot_len (pa_cons (pv 0) pa_nil)) (nomark _)) (pe_ix (ix_seqK (K := K) rfl) (pv 0) (pv 1) (fun _ _ => rfl)) pe_non))), ?_⟩
  obtain ⟨xs, hS, hi, k1, k2⟩ := h
  clean_wf
  refine ite2 (fun h1 => ?_) fun h1 => ?_
  · have h1 : i < (xs.length : Nat) := of_decide_eq_true h1
    have hx : i.toNat < xs.length := by omega
    have hat : atI xs i = some xs[i.toNat] := atI_int hi (List.getElem?_eq_getElem hx)
    clean_wf
    exact k1 _ (List.getElem?_eq_getElem hx)
  · have h1 : ¬ i < (xs.length : Nat) := fun z => h1 (decide_eq_true z)
    clean_wf
    exact k2 (by omega)

structure Cll where
  kd : Str
  n : Int
  c : Int
  k : Int
  w : Int
  cs : List (Int × Int)

def CllA (K : PySem.W.Frag) (mg : Str → Option Value) (H : Hp) (v : V) (x : Cll) : Prop := ∃ p C dx t xs, v = .ref p ∧ KdC mg x.kd C ∧ TCall K C ∧ H p = some (.ins C dx (cfl (.int x.n) (.int x.c) (.int x.k) (.int x.w) (.ref t))) ∧ H t = some (.tup xs) ∧ Prs H xs x.cs ∧ Ck x.cs

def KpC (H H' : Hp) : Prop := (∀ p C dx fs, H p = some (.ins C dx fs) → H' p = some (.ins C dx fs)) ∧ SmH H H'
theorem KpC.same {H H' : Hp} (s : Same H H') : KpC H H' := ⟨fun _ _ _ _ e => s _ _ e, .same s⟩
theorem KpC.trans {A B C : Hp} (x : KpC A B) (y : KpC B C) : KpC A C := ⟨fun _ _ _ _ e => y.1 _ _ _ _ (x.1 _ _ _ _ e), x.2.trans y.2⟩
theorem CllA.up {H H' : Hp} (s : KpC H H') {v : V} {x : Cll} (h : CllA K mg H v x) : CllA K mg H' v x := by
  obtain ⟨p, C, dx, t, xs, e1, e2, e3, e4, e5, e6, e7⟩ := h
  exact ⟨p, C, dx, t, xs, e1, e2, e3, s.1 _ _ _ _ e4, s.2 _ _ e5, e6.mono s.2, e7⟩
def sp_Call_name (K : PySem.W.Frag) : Sp := fun vs H Q _ => ∃ (p : Addr), vs = [.ref p] ∧ ∃ C dx n c k w cs, TCall K C ∧ H p = some (.ins C dx (cfl n c k w cs)) ∧ ∀ H' t, Same H H' → H t = none → H' t = some (.tup [n, c, k]) → Q (.ref t) H'
theorem sc_Call_name : FnScope ["self"] ["self"] (defScope s_Call_name) := ⟨rfl, rfl, rfl, by decide +kernel, rfl, by decide +kernel, by decide +kernel⟩
theorem ok_Call_name {f  : Addr} {fd  : FuncData} (F : Fun K "name" "Call.name" s_Call_name f fd) : FnOk P w K mg base CX0 1 f fd ["self"] (sp_Call_name K) := by
  refine F.ok sc_Call_name (fun vs H Q E h => ?_) (fun cdv A outer s H vs Q E hr h => ?_)
  · obtain ⟨p, rfl, _⟩ := h
    rfl
  obtain ⟨p, rfl, h⟩ := h
  have hu64 := hr.units
  have hu0 := hr.units0
  have hu := hu_of hr
  refine ⟨_, (pss_one (ps_ret (pe_tup (pa_cons (pe_fldK (K := K) rfl (pv 0) rfl) (pa_cons (pe_fldK (K := K) rfl (pv 0) rfl) (pa_cons (pe_fldK (K := K) rfl (pv 0) rfl) pa_nil)))))), ?_⟩
  obtain ⟨C, dx, n, c, k, w, cs, ⟨cl, n1, n2, n3, n4, n5⟩, hp, q⟩ := h
  clean_wf
  intro t H1 ht s1 g1
  exact q H1 t s1 ht g1
def sp_Call_rank (K : PySem.W.Frag) : Sp := fun vs H Q _ => ∃ (p : Addr), vs = [.ref p] ∧ ∃ C dx n c k w cs, TCall K C ∧ H p = some (.ins C dx (cfl n c k w cs)) ∧ ∀ H' t, Same H H' → H t = none → H' t = some (.tup [c, k]) → Q (.ref t) H'
theorem sc_Call_rank : FnScope ["self"] ["self"] (defScope s_Call_rank) := ⟨rfl, rfl, rfl, by decide +kernel, rfl, by decide +kernel, by decide +kernel⟩
theorem ok_Call_rank {f  : Addr} {fd  : FuncData} (F : Fun K "rank" "Call.rank" s_Call_rank f fd) : FnOk P w K mg base CX0 1 f fd ["self"] (sp_Call_rank K) := by
  refine F.ok sc_Call_rank (fun vs H Q E h => ?_) (fun cdv A outer s H vs Q E hr h => ?_)
  · obtain ⟨p, rfl, _⟩ := h
    rfl
  obtain ⟨p, rfl, h⟩ := h
  have hu64 := hr.units
  have hu0 := hr.units0
  have hu := hu_of hr
  refine ⟨_, (pss_one (ps_ret (pe_tup (pa_cons (pe_fldK (K := K) rfl (pv 0) rfl) (pa_cons (pe_fldK (K := K) rfl (pv 0) rfl) pa_nil))))), ?_⟩
  obtain ⟨C, dx, n, c, k, w, cs, ⟨cl, n1, n2, n3, n4, n5⟩, hp, q⟩ := h
  clean_wf
  intro t H1 ht s1 g1
  exact q H1 t s1 ht g1
def sp_Call_asks_place (K : PySem.W.Frag) : Sp := fun vs H Q _ => ∃ (p : Addr), vs = [.ref p] ∧ Q (.bl false) H
def sp_OneCall_asks_place (K : PySem.W.Frag) : Sp := fun vs H Q _ => ∃ (p : Addr), vs = [.ref p] ∧ Q (.bl true) H
theorem sc_Call_asks_place : FnScope ["self"] ["self"] (defScope s_Call_asks_place) := ⟨rfl, rfl, rfl, by decide +kernel, rfl, by decide +kernel, by decide +kernel⟩
theorem ok_Call_asks_place {f  : Addr} {fd  : FuncData} (F : Fun K "asks_place" "Call.asks_place" s_Call_asks_place f fd) : FnOk P w K mg base CX0 1 f fd ["self"] (sp_Call_asks_place K) := by
  refine F.ok sc_Call_asks_place (fun vs H Q E h => ?_) (fun cdv A outer s H vs Q E hr h => ?_)
  · obtain ⟨p, rfl, _⟩ := h
    rfl
  obtain ⟨p, rfl, h⟩ := h
  have hu64 := hr.units
  have hu0 := hr.units0
  have hu := hu_of hr
  refine ⟨_, (pss_one (ps_ret pe_bl)), ?_⟩
  clean_wf
  exact h
theorem sc_OneCall_asks_place : FnScope ["self"] ["self"] (defScope s_OneCall_asks_place) := ⟨rfl, rfl, rfl, by decide +kernel, rfl, by decide +kernel, by decide +kernel⟩
theorem ok_OneCall_asks_place {f  : Addr} {fd  : FuncData} (F : Fun K "asks_place" "OneCall.asks_place" s_OneCall_asks_place f fd) : FnOk P w K mg base CX0 1 f fd ["self"] (sp_OneCall_asks_place K) := by
  refine F.ok sc_OneCall_asks_place (fun vs H Q E h => ?_) (fun cdv A outer s H vs Q E hr h => ?_)
  · obtain ⟨p, rfl, _⟩ := h
    rfl
  obtain ⟨p, rfl, h⟩ := h
  have hu64 := hr.units
  have hu0 := hr.units0
  have hu := hu_of hr
  refine ⟨_, (pss_one (ps_ret pe_bl)), ?_⟩
  clean_wf
  exact h

def frb (m : List (Int × Int)) (x : Cll) : Bool := decide (ct m x.c = x.k - 1) && (decide (x.kd = "own") || cov m (posI x.cs))

def tkb (m : List (Int × Int)) (x : Cll) (o : Option Nm) : Bool := frb m x && (!decide (x.kd = "one") || decide (o = some (x.n, x.c, x.k)))

def NaV (H : Hp) (v : V) : Option Nm → Prop
  | none => v = .non
  | some q => NmAt H v q
theorem NaV.up {H H' : Hp} (s : SmH H H') {v : V} {o : Option Nm} (h : NaV H v o) : NaV H' v o := by
  cases o with
  | none => exact h
  | some q => obtain ⟨a, e1, e2⟩ := h; exact ⟨a, e1, s _ _ e2⟩
def naD : Option Nm → PyData
  | none => .none
  | some q => nmD q
theorem na_dl {K : PySem.W.Frag} {H : Hp} {v : V} {o : Option Nm} (h : NaV H v o) : Dl K H v (naD o) := by
  cases o with
  | none => obtain rfl : v = .non := h; exact .inl .none
  | some q => exact .inl (NmAt.dp h)
theorem na_lay (o : Option Nm) : (naD o).canLay0 = true := by
  cases o with
  | none => rfl
  | some q => exact nm_lay q
theorem na_dep (o : Option Nm) : (naD o).depth ≤ 60 := by
  cases o with
  | none => show 0 ≤ 60; decide
  | some q => show 1 ≤ 60; decide
theorem nm_eq (q r : Nm) : (nmD q).eqv (nmD r) = decide (r = q) := by
  have e : (nmD q).eqv (nmD r) = (decide (q.1 = r.1) && (decide (q.2.1 = r.2.1) && (decide (q.2.2 = r.2.2) && true))) := by rfl
  rw [e]
  obtain ⟨a, b, c⟩ := q
  obtain ⟨x, y, z⟩ := r
  by_cases h : (x, y, z) = (a, b, c)
  · cases h
    simp
  · rw [decide_eq_false h]
    simp at h ⊢
    intro h1 h2 h3
    exact h h1.symm h2.symm h3.symm
theorem na_eq (q : Nm) (o : Option Nm) : (nmD q).eqv (naD o) = decide (o = some q) := by
  cases o with
  | none => rfl
  | some r =>
    show (nmD q).eqv (nmD r) = _
    rw [nm_eq]
    by_cases z : r = q
    · rw [z, decide_eq_true rfl, decide_eq_true rfl]
    · rw [decide_eq_false z, decide_eq_false (fun w => z (Option.some.inj w))]
def sp_rank_of (K : PySem.W.Frag) (mg : Str → Option Value) : Sp := fun vs H Q _ => ∃ (v : V), vs = [v] ∧ ∃ x, CllA K mg H v x ∧ ∀ H' t, Same H H' → H t = none → H' t = some (.tup [.int x.c, .int x.k]) → Q (.ref t) H'
theorem sc_rank_of : FnScope ["call"] ["call"] (defScope s_rank_of) := ⟨rfl, rfl, rfl, by decide +kernel, rfl, by decide +kernel, by decide +kernel⟩
set_option maxHeartbeats 1000000 in
theorem ok_rank_of {f f_Call_rank C_HeardCall C_OneCall C_OwnCall : Addr} {fd fd_Call_rank : FuncData} (F : Fun K "rank_of" "rank_of" s_rank_of f fd)
    (G_Call_rank : FnOk P w K mg base CX0 1 f_Call_rank fd_Call_rank ["self"] (sp_Call_rank K)) (B_Call_rank : Binds K fd_Call_rank ["self"] []) (T_HeardCall : TCall K C_HeardCall) (T_OneCall : TCall K C_OneCall) (T_OwnCall : TCall K C_OwnCall) (m_HeardCall : mg "HeardCall" = some (.ref C_HeardCall)) (m_OneCall : mg "OneCall" = some (.ref C_OneCall)) (m_OwnCall : mg "OwnCall" = some (.ref C_OwnCall)) (mt_HeardCall_rank : Meth K C_HeardCall "rank" f_Call_rank) (mt_OneCall_rank : Meth K C_OneCall "rank" f_Call_rank) (mt_OwnCall_rank : Meth K C_OwnCall "rank" f_Call_rank) : FnOk P w K mg base CX0 2 f fd ["call"] (sp_rank_of K mg) := by
  refine F.ok sc_rank_of (fun vs H Q E h => ?_) (fun cdv A outer s H vs Q E hr h => ?_)
  · obtain ⟨v, rfl, _⟩ := h
    rfl
  obtain ⟨v, rfl, h⟩ := h
  have hu64 := hr.units
  have hu0 := hr.units0
  have hu := hu_of hr
  refine ⟨_, (pss_one (ps_ret (pe_methS0 (MOk.cons T_OwnCall.cl mt_OwnCall_rank G_Call_rank B_Call_rank (MOk.cons T_HeardCall.cl mt_HeardCall_rank G_Call_rank B_Call_rank (MOk.cons T_OneCall.cl mt_OneCall_rank G_Call_rank B_Call_rank MOk.nil))) (pv 0) hr))), ?_⟩
  obtain ⟨x, ⟨p, C, dx, t, xs, rfl, hk, hT, hp, ht, hx, hc⟩, kk⟩ := h
  rcases hk with ⟨_, e⟩ | ⟨_, e⟩ | ⟨_, e⟩
  · rw [m_OwnCall] at e
    cases e
    clean_wf
    exact ⟨p, rfl, _, dx, _, _, _, _, _, hT, hp, kk⟩
  · rw [m_HeardCall] at e
    cases e
    clean_wf
    exact ⟨p, rfl, _, dx, _, _, _, _, _, hT, hp, kk⟩
  · rw [m_OneCall] at e
    cases e
    clean_wf
    exact ⟨p, rfl, _, dx, _, _, _, _, _, hT, hp, kk⟩
theorem kd_oo : decide (("own" : Str) = "own") = true := by decide +kernel
theorem kd_ho : decide (("heard" : Str) = "own") = false := by decide +kernel
theorem kd_no : decide (("one" : Str) = "own") = false := by decide +kernel
theorem kd_on : decide (("own" : Str) = "one") = false := by decide +kernel
theorem kd_hn : decide (("heard" : Str) = "one") = false := by decide +kernel
theorem kd_nn : decide (("one" : Str) = "one") = true := by decide +kernel
def sp_can_be_taken (K : PySem.W.Frag) (mg : Str → Option Value) : Sp := fun vs H Q _ => ∃ (v : V) (d : Addr) (y : V), vs = [v, .ref d, y] ∧ ∃ x m o, CllA K mg H v x ∧ Rd H d (.dK (dI m)) ∧ Ck m ∧ NaV H y o ∧ ∀ H', Same H H' → Q (.bl (tkb m x o)) H'
theorem sc_can_be_taken : FnScope ["call", "counts", "name"] ["call", "counts", "name"] (defScope s_can_be_taken) := ⟨rfl, rfl, rfl, by decide +kernel, rfl, by decide +kernel, by decide +kernel⟩
set_option maxHeartbeats 2000000 in
theorem ok_can_be_taken {f f_Call_free f_HeardCall_free f_Call_name f_Call_asks_place f_OneCall_asks_place C_HeardCall C_OneCall C_OwnCall : Addr} {fd fd_Call_free fd_HeardCall_free fd_Call_name fd_Call_asks_place fd_OneCall_asks_place : FuncData} (F : Fun K "can_be_taken" "can_be_taken" s_can_be_taken f fd)
    (G_Call_free : FnOk P w K mg base CX0 3 f_Call_free fd_Call_free ["self", "counts"] (sp_Call_free K mg)) (B_Call_free : Binds K fd_Call_free ["self", "counts"] [])
    (G_HeardCall_free : FnOk P w K mg base CX0 3 f_HeardCall_free fd_HeardCall_free ["self", "counts"] (sp_HeardCall_free K mg)) (B_HeardCall_free : Binds K fd_HeardCall_free ["self", "counts"] [])
    (G_Call_name : FnOk P w K mg base CX0 3 f_Call_name fd_Call_name ["self"] (sp_Call_name K)) (B_Call_name : Binds K fd_Call_name ["self"] [])
    (G_Call_asks_place : FnOk P w K mg base CX0 3 f_Call_asks_place fd_Call_asks_place ["self"] (sp_Call_asks_place K)) (B_Call_asks_place : Binds K fd_Call_asks_place ["self"] [])
    (G_OneCall_asks_place : FnOk P w K mg base CX0 3 f_OneCall_asks_place fd_OneCall_asks_place ["self"] (sp_OneCall_asks_place K)) (B_OneCall_asks_place : Binds K fd_OneCall_asks_place ["self"] []) (T_HeardCall : TCall K C_HeardCall) (T_OneCall : TCall K C_OneCall) (T_OwnCall : TCall K C_OwnCall) (m_HeardCall : mg "HeardCall" = some (.ref C_HeardCall)) (m_OneCall : mg "OneCall" = some (.ref C_OneCall)) (m_OwnCall : mg "OwnCall" = some (.ref C_OwnCall)) (mt_HeardCall_asks_place : Meth K C_HeardCall "asks_place" f_Call_asks_place) (mt_HeardCall_free : Meth K C_HeardCall "free" f_HeardCall_free) (mt_HeardCall_name : Meth K C_HeardCall "name" f_Call_name) (mt_OneCall_asks_place : Meth K C_OneCall "asks_place" f_OneCall_asks_place) (mt_OneCall_free : Meth K C_OneCall "free" f_HeardCall_free) (mt_OneCall_name : Meth K C_OneCall "name" f_Call_name) (mt_OwnCall_asks_place : Meth K C_OwnCall "asks_place" f_Call_asks_place) (mt_OwnCall_free : Meth K C_OwnCall "free" f_Call_free) (mt_OwnCall_name : Meth K C_OwnCall "name" f_Call_name) : FnOk P w K mg base CX0 4 f fd ["call", "counts", "name"] (sp_can_be_taken K mg) := by
  refine F.ok sc_can_be_taken (fun vs H Q E h => ?_) (fun cdv A outer s H vs Q E hr h => ?_)
  · obtain ⟨v, d, y, rfl, _⟩ := h
    rfl
  obtain ⟨v, d, y, rfl, h⟩ := h
  have hu64 := hr.units
  have hu0 := hr.units0
  have hu := hu_of hr
  refine ⟨_, (pss_one (ps_ret (pe_and (pe_methS (MOk.cons T_OwnCall.cl mt_OwnCall_free G_Call_free B_Call_free (MOk.cons T_HeardCall.cl mt_HeardCall_free G_HeardCall_free B_HeardCall_free (MOk.cons T_OneCall.cl mt_OneCall_free G_HeardCall_free B_HeardCall_free MOk.nil))) (pv 0) hr (pa_cons (pv 1) pa_nil)) (pe_one (pe_or (pe_not (pe_methS0 (MOk.cons T_OwnCall.cl mt_OwnCall_asks_place G_Call_asks_place B_Call_asks_place (MOk.cons T_HeardCall.cl mt_HeardCall_asks_place G_Call_asks_place B_Call_asks_place (MOk.cons T_OneCall.cl mt_OneCall_asks_place G_OneCall_asks_place B_OneCall_asks_place MOk.nil))) (pv 0) hr)) (pe_one (pe_cmpR (op_eqK (K := K) rfl hu64) (pe_methS0 (MOk.cons T_OwnCall.cl mt_OwnCall_name G_Call_name B_Call_name (MOk.cons T_HeardCall.cl mt_HeardCall_name G_Call_name B_Call_name (MOk.cons T_OneCall.cl mt_OneCall_name G_Call_name B_Call_name MOk.nil))) (pv 0) hr) (pv 2) (nomark _)))))))), ?_⟩
  obtain ⟨x, m, o, ⟨p, C, dx, t, xs, rfl, hk, hT, hp, ht, hx, hc⟩, hd, cm, hy, kk⟩ := h
  obtain ⟨kd, n, c, k, w, cs⟩ := x
  have hk : KdC mg kd C := hk
  have hp : H p = some (.ins C dx (cfl (.int n) (.int c) (.int k) (.int w) (.ref t))) := hp
  have hx : Prs H xs cs := hx
  have hc : Ck cs := hc
  rcases hk with ⟨rfl, e⟩ | ⟨rfl, e⟩ | ⟨rfl, e⟩
  · have ev : tkb m ⟨"own", n, c, k, w, cs⟩ o = decide (ct m c = k - 1) := by
      unfold tkb frb
      rw [kd_oo, kd_on]
      simp
    rw [ev] at kk
    rw [m_OwnCall] at e
    cases e
    clean_wf
    refine ⟨p, d, rfl, _, dx, m, _, c, k, _, _, m_OwnCall, hp, hd, ?_⟩
    clean_wf
    refine ite2 (fun h1 => ?_) fun h1 => ?_
    · clean_wf
      refine ⟨p, rfl, ?_⟩
      clean_wf
      have := kk H (.refl _)
      rw [h1] at this
      exact this
    · have h1 := Bool.eq_false_iff.mpr h1
      have := kk H (.refl _)
      rw [h1] at this
      exact this
  · have ev : tkb m ⟨"heard", n, c, k, w, cs⟩ o = (decide (ct m c = k - 1) && cov m (posI cs)) := by
      unfold tkb frb
      rw [kd_ho, kd_hn]
      simp
    rw [ev] at kk
    rw [m_HeardCall] at e
    cases e
    clean_wf
    refine ⟨p, d, rfl, _, dx, m, _, c, k, _, t, xs, cs, .inl m_HeardCall, hp, hd, ht, hx, cm, hc, fun H1 s1 => ?_⟩
    have hp1 := s1 _ _ hp
    clean_wf
    refine ite2 (fun h1 => ?_) fun h1 => ?_
    · clean_wf
      refine ⟨p, rfl, ?_⟩
      clean_wf
      have := kk H1 s1
      rw [h1] at this
      exact this
    · have h1 := Bool.eq_false_iff.mpr h1
      have := kk H1 s1
      rw [h1] at this
      exact this
  · have ev : tkb m ⟨"one", n, c, k, w, cs⟩ o = ((decide (ct m c = k - 1) && cov m (posI cs)) && decide (o = some (n, c, k))) := by
      unfold tkb frb
      rw [kd_no, kd_nn]
      simp
    rw [ev] at kk
    rw [m_OneCall] at e
    cases e
    clean_wf
    refine ⟨p, d, rfl, _, dx, m, _, c, k, _, t, xs, cs, .inr m_OneCall, hp, hd, ht, hx, cm, hc, fun H1 s1 => ?_⟩
    have hp1 := s1 _ _ hp
    clean_wf
    refine ite2 (fun h1 => ?_) fun h1 => ?_
    · clean_wf
      refine ⟨p, rfl, ?_⟩
      clean_wf
      refine ⟨p, rfl, _, dx, _, _, _, _, _, hT, hp1, fun H2 u s2 hu2 g2 => ?_⟩
      clean_wf
      refine ⟨nmD (n, c, k), naD o, .inl (NmAt.dp ⟨u, rfl, g2⟩), na_dl (hy.up (.same (s1.trans s2))), nm_lay _, na_lay _, by have := na_dep o; omega, ?_⟩
      rw [na_eq]
      have := kk H2 (s1.trans s2)
      rw [h1, Bool.true_and] at this
      exact this
    · have h1 := Bool.eq_false_iff.mpr h1
      have := kk H1 s1
      rw [h1, Bool.false_and] at this
      exact this
theorem x_dget1 {td ty : TE} {σ : St} {H : Hp} {Q : VK} (h : td σ H fun x H1 => ∃ a, x = .ref a ∧ IsD H1 a ∧ ty σ H1 fun y H2 => ∃ o, DGet H2 a y o ∧ Q (o.getD .non) H2) : tDGet1 td ty σ H Q := h

structure RkA (K : PySem.W.Frag) (mg : Str → Option Value) (H : Hp) (D : Addr) (L : Int → Int → Option (V × Cll)) : Prop where
  dc : ∃ kvs, H D = some (.dT kvs) ∧ ∀ a b, valV kvs [Sum.inl a, Sum.inl b] = (L a b).map (·.1)
  cl : ∀ a b v x, L a b = some (v, x) → CllA K mg H v x ∧ x.c = a ∧ x.k = b
theorem RkA.same {H H' : Hp} {D : Addr} {L : Int → Int → Option (V × Cll)} (h : RkA K mg H D L) (s : Same H H') : RkA K mg H' D L := by
  obtain ⟨⟨kvs, e1, e2⟩, e3⟩ := h
  exact ⟨⟨kvs, s _ _ e1, e2⟩, fun a b v x e => ⟨(e3 a b v x e).1.up (.same s), (e3 a b v x e).2⟩⟩

def tk1 (L : Int → Int → Option (V × Cll)) (m : List (Int × Int)) (o : Option Nm) (h : Int) : Option (V × Cll) := (L h (ct m h + 1)).bind fun q => if tkb m q.2 o = true then some q else none
def fst (hs : List Int) (L : Int → Int → Option (V × Cll)) (m : List (Int × Int)) (o : Option Nm) : Option (V × Cll) := hs.findSome? (tk1 L m o)
def fsv : Option (V × Cll) → V
  | none => .non
  | some q => q.1
def sp_first_to_take (K : PySem.W.Frag) (mg : Str → Option Value) : Sp := fun vs H Q _ => ∃ (a D d : Addr) (y : V), vs = [.ref a, .ref D, .ref d, y] ∧ ∃ hs L m o, SqL K H a (hs.map V.int) ∧ RkA K mg H D L ∧ Rd H d (.dK (dI m)) ∧ Ck m ∧ NaV H y o ∧ ∀ H', Same H H' → Q (fsv (fst hs L m o)) H'
theorem sc_first_to_take : FnScope ["callers", "ranked", "counts", "name", "caller", "call"] ["callers", "ranked", "counts", "name"] (defScope s_first_to_take) := ⟨rfl, rfl, rfl, by decide +kernel, rfl, by decide +kernel, by decide +kernel⟩
set_option maxHeartbeats 2000000 in
theorem ok_first_to_take {f f_count_of f_can_be_taken C_HeardCall C_OneCall C_OwnCall : Addr} {fd fd_count_of fd_can_be_taken : FuncData} (F : Fun K "first_to_take" "first_to_take" s_first_to_take f fd)
    (G_count_of : FnOk P w K mg base CX0 4 f_count_of fd_count_of ["counts", "hand"] (sp_count_of K)) (C_count_of : Cal K mg "count_of" f_count_of fd_count_of ["counts", "hand"])
    (G_can_be_taken : FnOk P w K mg base CX0 4 f_can_be_taken fd_can_be_taken ["call", "counts", "name"] (sp_can_be_taken K mg)) (C_can_be_taken : Cal K mg "can_be_taken" f_can_be_taken fd_can_be_taken ["call", "counts", "name"]) (T_HeardCall : TCall K C_HeardCall) (T_OneCall : TCall K C_OneCall) (T_OwnCall : TCall K C_OwnCall) (m_HeardCall : mg "HeardCall" = some (.ref C_HeardCall)) (m_OneCall : mg "OneCall" = some (.ref C_OneCall)) (m_OwnCall : mg "OwnCall" = some (.ref C_OwnCall)) : FnOk P w K mg base CX0 5 f fd ["callers", "ranked", "counts", "name"] (sp_first_to_take K mg) := by
  refine F.ok sc_first_to_take (fun vs H Q E h => ?_) (fun cdv A outer s H vs Q E hr h => ?_)
  · obtain ⟨a, D, d, y, rfl, _⟩ := h
    rfl
  obtain ⟨a, D, d, y, rfl, h⟩ := h
  have hu64 := hr.units
  have hu0 := hr.units0
  have hu := hu_of hr
  refine ⟨_, (pss_cons (ps_for PassesOwn.never rfl (pi_listK (K := K) rfl (pv 0)) (pg_name (i := 4) sc_first_to_take.nd rfl (Or.inl rfl))
      (pss_cons (ps_set (i := 5) sc_first_to_take.nd rfl (Or.inl rfl) (pe_dget1 hu (pv 1) (pe_tup (pa_cons (pv 4) (pa_cons (pe_op op_add (pcall G_count_of C_count_of hr (pa_cons (pv 2) (pa_cons (pv 4) pa_nil))) pe_int) pa_nil))) ⟨rfl, rfl, rfl, rfl⟩))
      (pss_one (ps_if (PW.pt (pw_and (pt_cmpR op_notN (pv 5) pe_non (nomark _)) (pw_and1 (pt_callK K rfl (pcall G_can_be_taken C_can_be_taken hr (pa_cons (pv 5) (pa_cons (pv 2) (pa_cons (pv 3) pa_nil)))))))) (pss_one (ps_ret (pv 5))) pss_nil))))
      (pss_one (ps_ret pe_non))), ?_⟩
  obtain ⟨hs, L, m, o, hS, R, hd, cm, hy, kk⟩ := h
  refine x_seq ?_
  clean_wf
  refine for_list (xs := hs.map V.int) (fun i σ A => ∃ v4 v5, σ = [some (.ref a), some (.ref D), some (.ref d), some y, v4, v5] ∧ Same H A ∧ (hs.take i).findSome? (tk1 L m o) = none) ⟨none, none, rfl, .refl _, rfl⟩ (fun i σ A _ z => by obtain ⟨_, _, _, z, _⟩ := z; exact z.seq hS) ?_ ?_
  · rintro i x σ A hx ⟨v4, v5, rfl, sA, hn⟩
    obtain ⟨h, hh, rfl⟩ := int_get hx
    have RA := R.same sA
    have hdA := same_rd sA hd
    obtain ⟨⟨kvs, gD, gv⟩, gc⟩ := id RA
    have ff : fst hs L m o = ((tk1 L m o h).or ((hs.drop (i + 1)).findSome? (tk1 L m o))) := by
      unfold fst
      have hi := (List.getElem?_eq_some_iff.mp hh).1
      have e : hs = hs.take i ++ (h :: hs.drop (i + 1)) := by
        conv => lhs; rw [← List.take_append_drop i hs, List.drop_eq_getElem_cons hi, (List.getElem?_eq_some_iff.mp hh).2]
      conv => lhs; rw [e, List.findSome?_append, hn, Option.none_or, List.findSome?_cons]
      cases tk1 L m o h <;> rfl
    refine x_seq ?_
    clean_wf
    refine x_dget1 ?_
    clean_wf
    refine ⟨D, rfl, .inr ⟨kvs, .inl gD⟩, ?_⟩
    clean_wf
    refine ⟨d, m, h, rfl, hdA, ?_⟩
    clean_wf
    intro t A1 ht s1 g1
    have gD1 := s1 _ _ gD
    refine ⟨_, DGet.t (k := [Sum.inl h, Sum.inl (ct m h + 1)]) gD1 g1, ?_⟩
    rw [gv]
    cases z : L h (ct m h + 1) with
    | none =>
      have tn : tk1 L m o h = none := by unfold tk1; rw [z]; rfl
      rw [Option.map_none, Option.getD_none]
      clean_wf
      rw [show decide (V.non = V.non) = true from decide_eq_true rfl]
      clean_wf
      refine ⟨_, _, rfl, sA.trans s1, ?_⟩
      rw [take_get hh, List.findSome?_append, hn, Option.none_or, List.findSome?_cons, tn]
      rfl
    | some q =>
      obtain ⟨v, x⟩ := q
      have cx := (gc _ _ _ _ z).1
      obtain ⟨p, C, dx, t', xs', ev, _⟩ := id cx
      have cx1 := cx.up (.same s1)
      subst ev
      rw [Option.map_some, Option.getD_some]
      clean_wf
      rw [show decide (V.ref p = V.non) = false from decide_eq_false (by intro z; cases z)]
      clean_wf
      refine ⟨.ref p, d, y, rfl, x, m, o, cx1, same_rd s1 hdA, cm, hy.up (.same (sA.trans s1)), fun A2 s2 => ?_⟩
      clean_wf
      refine ite2 (fun h2 => ?_) fun h2 => ?_
      · have ts : tk1 L m o h = some (.ref p, x) := by unfold tk1; rw [z]; show (if tkb m x o = true then _ else _) = _; rw [if_pos h2]
        clean_wf
        have := kk A2 (sA.trans (s1.trans s2))
        rw [ff, ts] at this
        exact this
      · have tn : tk1 L m o h = none := by unfold tk1; rw [z]; show (if tkb m x o = true then _ else _) = _; rw [if_neg h2]
        refine ⟨_, _, rfl, sA.trans (s1.trans s2), ?_⟩
        rw [take_get hh, List.findSome?_append, hn, Option.none_or, List.findSome?_cons, tn]
        rfl
  rintro σ A ⟨v4, v5, rfl, sA, hn⟩
  rw [show hs.take (hs.map V.int).length = hs by rw [List.length_map, List.take_length]] at hn
  clean_wf
  have := kk A sA
  unfold fst at this
  rw [hn] at this
  exact this

def frl (hs : List Int) (l : Int) : List Int := (hs.filter fun h => decide (l ≤ h)) ++ hs.filter fun h => decide (h < l)
def sp_callers_from (K : PySem.W.Frag) : Sp := fun vs H Q _ => ∃ (a : Addr) (l : Int), vs = [.ref a, .int l] ∧ ∃ hs : List Int, SqL K H a (hs.map V.int) ∧ hs.length ≤ 400 ∧ ∀ H' q, Same H H' → H q = none → H' q = some (.lst ((frl hs l).map V.int)) → Q (.ref q) H'
theorem sc_callers_from : FnScope ["callers", "last"] ["callers", "last"] (defScope s_callers_from) := ⟨rfl, rfl, rfl, by decide +kernel, rfl, by decide +kernel, by decide +kernel⟩
set_option maxHeartbeats 2000000 in
theorem ok_callers_from {f  : Addr} {fd  : FuncData} (F : Fun K "callers_from" "callers_from" s_callers_from f fd) : FnOk P w K mg base CX0 1 f fd ["callers", "last"] (sp_callers_from K) := by
  refine F.ok sc_callers_from (fun vs H Q E h => ?_) (fun cdv A outer s H vs Q E hr h => ?_)
  · obtain ⟨a, l, rfl, _⟩ := h
    rfl
  obtain ⟨a, l, rfl, h⟩ := h
  have hu64 := hr.units
  have hu0 := hr.units0
  have hu := hu_of hr
  refine ⟨_, (pss_one (ps_ret (pe_op op_cat (pe_comp ["last", "caller"] [some 1, none] rfl rfl (by kernel_rfl) (pi_listK (K := K) rfl (pv 0)) (fun _ _ _ _ _ nd => pg_name (i := 1) nd rfl (Or.inl rfl)) (fun _ _ _ _ _ => (pif_one (pt_cmpR op_ge (pv 1) (pv 0) (nomark _)))) (fun _ _ _ _ _ => (pv 1))) (pe_comp ["last", "caller"] [some 1, none] rfl rfl (by kernel_rfl) (pi_listK (K := K) rfl (pv 0)) (fun _ _ _ _ _ nd => pg_name (i := 1) nd rfl (Or.inl rfl)) (fun _ _ _ _ _ => (pif_one (pt_cmpR op_lt (pv 1) (pv 0) (nomark _)))) (fun _ _ _ _ _ => (pv 1)))))), ?_⟩
  obtain ⟨hs, hS, lh, kk⟩ := h
  clean_wf
  intro D hD
  refine comp_list (K := K) (a := a) (xs := hs.map V.int) (fun i σ A => ∃ v, σ = [some (.int l), v] ∧ Same H A ∧ A D = some (.lst (((hs.take i).filter fun h => decide (l ≤ h)).map V.int))) ⟨none, rfl, same_upd hD, upd_same⟩ ?_ ?_ ?_
  · rintro i σ A _ ⟨_, _, z, _⟩
    exact z.seq hS
  · rintro i x σ A hx ⟨v, rfl, sA, gA⟩
    obtain ⟨h, hh, rfl⟩ := int_get hx
    have hi := (List.getElem?_eq_some_iff.mp hh).1
    have lf := List.length_filter_le (fun h => decide (l ≤ h)) (hs.take i)
    have lt := List.length_take_le i hs
    clean_wf
    refine ite2 (fun h1 => ?_) fun h1 => ?_
    · clean_wf
      refine ⟨_, gA, by rw [List.length_map]; exact small1000 (by omega), _, rfl, fun b o z => ?_, ?_⟩
      · rw [upd_ne (ne_of_none z hD)]
        exact sA b o z
      · rw [upd_same, take_get hh, List.filter_append, List.map_append]
        congr 2
        simp at h1
        simp [h1]
    · refine ⟨_, rfl, sA, ?_⟩
      rw [gA, take_get hh, List.filter_append, List.map_append]
      congr 1
      simp at h1
      simp [h1]
  rintro σ A ⟨v, rfl, sA, gA⟩
  rw [show hs.take (hs.map V.int).length = hs by rw [List.length_map, List.take_length]] at gA
  have hS1 := sA.seq hS
  clean_wf
  intro D2 hD2
  refine comp_list (K := K) (a := a) (xs := hs.map V.int) (fun i σ B => ∃ v, σ = [some (.int l), v] ∧ Same A B ∧ B D2 = some (.lst (((hs.take i).filter fun h => decide (h < l)).map V.int))) ⟨none, rfl, same_upd hD2, upd_same⟩ ?_ ?_ ?_
  · rintro i σ B _ ⟨_, _, z, _⟩
    exact z.seq hS1
  · rintro i x σ B hx ⟨v, rfl, sB, gB⟩
    obtain ⟨h, hh, rfl⟩ := int_get hx
    have hi := (List.getElem?_eq_some_iff.mp hh).1
    have lf := List.length_filter_le (fun h => decide (h < l)) (hs.take i)
    have lt := List.length_take_le i hs
    clean_wf
    refine ite2 (fun h1 => ?_) fun h1 => ?_
    · clean_wf
      refine ⟨_, gB, by rw [List.length_map]; exact small1000 (by omega), _, rfl, fun b o z => ?_, ?_⟩
      · rw [upd_ne (ne_of_none z hD2)]
        exact sB b o z
      · rw [upd_same, take_get hh, List.filter_append, List.map_append]
        congr 2
        simp at h1
        simp [h1]
    · refine ⟨_, rfl, sB, ?_⟩
      rw [gB, take_get hh, List.filter_append, List.map_append]
      congr 1
      simp at h1
      simp [h1]
  rintro σ B ⟨v, rfl, sB, gB⟩
  rw [show hs.take (hs.map V.int).length = hs by rw [List.length_map, List.take_length]] at gB
  have l1 := List.length_filter_le (fun h => decide (l ≤ h)) hs
  have l2 := List.length_filter_le (fun h => decide (h < l)) hs
  refine x_cat (sB _ _ gA) gB (by rw [List.length_map, List.length_map]; omega) fun q B1 hq s1 g1 => ?_
  rw [← List.map_append] at g1
  exact kk B1 q (sA.trans (sB.trans s1)) ((sA.trans sB).free hq) g1
def nxo (ns : List Nm) (m : List (Int × Int)) : Option Nm := ns.find? fun p => !decide (cvd m p)
theorem nxo_at {m : List (Int × Int)} : ∀ {ns : List Nm} {j : Nat}, (∀ k (hk : k < ns.length), k < j → cvd m ns[k]) → (∀ hj : j < ns.length, ¬ cvd m ns[j]) → j ≤ ns.length → nxo ns m = ns[j]?
  | [], j, _, _, _ => by simp [nxo]
  | p :: ns, 0, _, h, _ => by
    have := h (by simp)
    unfold nxo
    rw [List.find?_cons_of_pos (by simpa using this)]
    rfl
  | p :: ns, j + 1, h1, h2, h3 => by
    have hp := h1 0 (by simp) (by omega)
    have ih := nxo_at (m := m) (ns := ns) (j := j) (fun k hk hkj => h1 (k + 1) (Nat.succ_lt_succ hk) (by omega)) (fun hj => h2 (Nat.succ_lt_succ hj)) (by simpa using h3)
    unfold nxo at ih ⊢
    rw [List.find?_cons_of_neg (by simpa using hp), ih]
    simp
def frm (hs : List Int) : Option Int → List Int
  | none => hs
  | some l => frl hs l

def LkC (cs : List (V × Cll)) (a b : Int) : Option (V × Cll) := cs.reverse.find? fun q => decide (q.2.c = a ∧ q.2.k = b)

inductive Fw (hs : List Int) (L : Int → Int → Option (V × Cll)) (ns : List Nm) (m0 : List (Int × Int)) : List (V × Cll) → Option Int → List (Int × Int) → Prop
  | start : Fw hs L ns m0 [] none m0
  | step {rw : List (V × Cll)} {last : Option Int} {m : List (Int × Int)} {v : V} {x : Cll} : Fw hs L ns m0 rw last m → fst (frm hs last) L m (nxo ns m) = some (v, x) → Fw hs L ns m0 (rw ++ [(v, x)]) (some x.c) (putI m x.c x.k)
theorem flt {α : Type} {p q : α → Bool} : ∀ {l : List α}, (∀ a ∈ l, q a = true → p a = true) → ∀ {x : α}, x ∈ l → p x = true → q x = false → (l.filter q).length < (l.filter p).length
  | a :: l, h, x, hx, px, qx => by
    have hl : (l.filter q).length ≤ (l.filter p).length := by
      have : ∀ (l' : List α), (∀ a ∈ l', q a = true → p a = true) → (l'.filter q).length ≤ (l'.filter p).length := by
        intro l'
        induction l' with
        | nil => intro _; exact Nat.le_refl _
        | cons b l' ih =>
          intro hb
          have i := ih fun a ha => hb a (List.mem_cons_of_mem _ ha)
          have := hb b List.mem_cons_self
          rw [List.filter_cons, List.filter_cons]
          cases z : q b
          · cases w : p b <;> simp <;> omega
          · rw [this z]; simp; omega
      exact this l fun b hb => h b (List.mem_cons_of_mem _ hb)
    rcases List.mem_cons.mp hx with z | z
    · rw [← z, List.filter_cons, List.filter_cons, px, qx]
      simp
      omega
    · have i := flt (l := l) (fun b hb => h b (List.mem_cons_of_mem _ hb)) z px qx
      have ha := h a List.mem_cons_self
      rw [List.filter_cons, List.filter_cons]
      cases y : q a
      · cases w : p a <;> simp <;> omega
      · rw [ha y]; simp; omega
def mz (cs : List Cll) (m : List (Int × Int)) : Nat := (cs.filter fun q => decide (ct m q.c < q.k)).length
theorem mz_lt {cs : List Cll} {m : List (Int × Int)} {x : Cll} (hx : x ∈ cs) (hk : x.k = ct m x.c + 1) : mz cs (putI m x.c x.k) < mz cs m := by
  unfold mz
  refine flt (fun q _ h => ?_) hx (decide_eq_true (by omega)) (decide_eq_false ?_)
  · have h := of_decide_eq_true h
    rw [ct_put] at h
    refine decide_eq_true ?_
    by_cases z : q.c = x.c
    · rw [if_pos z] at h; rw [z]; omega
    · rw [if_neg z] at h; exact h
  · rw [ct_put, if_pos rfl]
    omega
theorem fst_mem {hs : List Int} {L : Int → Int → Option (V × Cll)} {m : List (Int × Int)} {o : Option Nm} {v : V} {x : Cll} (h : fst hs L m o = some (v, x)) : ∃ h ∈ hs, L h (ct m h + 1) = some (v, x) ∧ tkb m x o = true := by
  unfold fst at h
  obtain ⟨h', hm, e⟩ := List.exists_of_findSome?_eq_some h
  refine ⟨h', hm, ?_⟩
  unfold tk1 at e
  cases z : L h' (ct m h' + 1) with
  | none => rw [z] at e; cases e
  | some q =>
    rw [z] at e
    have e : (if tkb m q.2 o = true then some q else none) = some (v, x) := e
    by_cases w : tkb m q.2 o = true
    · rw [if_pos w] at e
      cases e
      exact ⟨rfl, w⟩
    · rw [if_neg w] at e; cases e
theorem lkc_mem {cs : List (V × Cll)} {a b : Int} {q : V × Cll} (h : LkC cs a b = some q) : q ∈ cs ∧ q.2.c = a ∧ q.2.k = b := by
  unfold LkC at h
  have h1 := List.mem_of_find?_eq_some h
  have h2 := List.find?_some h
  have h2 := of_decide_eq_true h2
  exact ⟨List.mem_reverse.mp h1, h2⟩
theorem valT_fold {k : List Key} : ∀ (ps : List (List Key × V)) (acc : List (List Key × V)), valV (ps.foldl (fun acc p => putK acc p.1 p.2) acc) k = ((ps.reverse.find? fun p => decide (p.1 = k)).map (·.2)).or (valV acc k) := by
  intro ps
  induction ps with
  | nil => intro acc; rfl
  | cons p ps ih =>
    intro acc
    rw [List.foldl_cons, ih, List.reverse_cons, List.find?_append]
    cases z : ps.reverse.find? fun p => decide (p.1 = k) with
    | some q => rfl
    | none =>
      rw [Option.none_or, valV_put, List.find?_cons]
      by_cases w : k = p.1
      · rw [if_pos w, decide_eq_true w.symm]
        rfl
      · rw [if_neg w, decide_eq_false (fun u => w u.symm)]
        rfl
abbrev Cls' (K : PySem.W.Frag) (mg : Str → Option Value) (H : Hp) : List V → List Cll → Prop := Paired (CllA K mg H)
theorem cls_up {H H' : Hp} (s : KpC H H') {vs : List V} {cs : List Cll} (h : Cls' K mg H vs cs) : Cls' K mg H' vs cs := Paired.mapP h fun _ _ z => z.up s

def rkp (q : V × Cll) : List Key × V := ([Sum.inl q.2.c, Sum.inl q.2.k], q.1)
theorem lkc_val (cs : List (V × Cll)) (a b : Int) : valV (mergeT (cs.map rkp)) [Sum.inl a, Sum.inl b] = (LkC cs a b).map (·.1) := by
  unfold mergeT
  rw [valT_fold]
  have e : (valV ([] : List (List Key × V)) [Sum.inl a, Sum.inl b]) = none := rfl
  rw [e, Option.or_none, ← List.map_reverse, List.find?_map, Option.map_map]
  unfold LkC
  have e2 : ((fun p : List Key × V => decide (p.1 = [Sum.inl a, Sum.inl b])) ∘ rkp) = fun q : V × Cll => decide (q.2.c = a ∧ q.2.k = b) := by
    funext q
    show decide (([Sum.inl q.2.c, Sum.inl q.2.k] : List Key) = [Sum.inl a, Sum.inl b]) = _
    congr 1
    simp
  rw [e2]
  rfl
theorem prsT_up {H H' : Hp} (s : SmH H H') {xs : List V} {ps : List (List Key × V)} (h : PrsT H xs ps) : PrsT H' xs ps := Paired.mapP h fun _ _ ⟨a, b, e1, e2, e3⟩ => ⟨a, b, e1, s _ _ e2, s _ _ e3⟩
theorem prsT_snoc {H : Hp} : ∀ {xs : List V} {ps : List (List Key × V)} {x : V} {p : List Key × V}, PrsT H xs ps → (∃ a b, x = .ref a ∧ H a = some (.tup [.ref b, p.2]) ∧ H b = some (.tup (p.1.map kV))) → PrsT H (xs ++ [x]) (ps ++ [p])
  | _, _, _, _, .nil, h => .cons h .nil
  | _, _, _, _, .cons r t, h => .cons r (prsT_snoc t h)
theorem zip_take {α β : Type} : ∀ (l : List α) (m : List β) (i : Nat) {a : α} {b : β}, l[i]? = some a → m[i]? = some b → (l.zip m).take (i + 1) = (l.zip m).take i ++ [(a, b)] := by
  intro l m i a b h1 h2
  exact take_get (by rw [List.getElem?_zip_eq_some]; exact ⟨h1, h2⟩)
theorem isMx_max2 {m n : List (Int × Int)} {k b : Int} (h : IsMx [m, n] k b) : b = max (ct m k) (ct n k) := by
  obtain ⟨⟨q, hq, e⟩, u⟩ := h
  have u1 := u m (by simp)
  have u2 := u n (by simp)
  simp at hq
  rcases hq with z | z <;> rw [z] at e <;> omega
theorem zip_mem {α β : Type} {F : α → β → Prop} : ∀ {l : List α} {m : List β} {q : α × β}, Paired F l m → q ∈ l.zip m → F q.1 q.2
  | _, _, _, .nil, h => by simp at h
  | _, _, q, .cons r t, h => by
    rw [List.zip_cons_cons] at h
    rcases List.mem_cons.mp h with z | z
    · rw [z]; exact r
    · exact zip_mem t z
theorem sq_pt {K : PySem.W.Frag} {H A : Hp} {b : Addr} {xs : List V} (s : ∀ o, H b = some o → A b = some o) (h : SqL K H b xs ∨ SqT K H b xs) : SqL K A b xs ∨ SqT K A b xs := by
  rcases h with h | h
  · refine .inl ?_
    rcases h with (h | ⟨z, h⟩) | h
    · exact .inl (.inl (s _ h))
    · exact .inl (.inr ⟨z, s _ h⟩)
    · exact .inr h
  · refine .inr ?_
    rcases h with (h | ⟨z, h⟩) | h
    · exact .inl (.inl (s _ h))
    · exact .inl (.inr ⟨z, s _ h⟩)
    · exact .inr h
theorem td_put {m : List (Int × Int)} {k v : Int} (t : Td m) (k0 : 0 ≤ k) (k1 : k < 63) (hv : 0 < v) : Td (putI m k v) := by
  refine ⟨t.toCk.put k0 k1 (by omega), fun e he => ?_⟩
  rcases put_vals _ _ _ _ he with z | z
  · rw [z]; exact hv
  · exact t.ps e z
theorem name_now {K : PySem.W.Frag} {A : Hp} {Q' : VK} {b : Addr} {xs : List V} {ns : List Nm} {m : List (Int × Int)} {j : Nat} (hP : SqL K A b xs ∨ SqT K A b xs) (hn : Nms A xs ns) (h1 : j ≤ ns.length) (h2 : ∀ k (hk : k < ns.length), k < j → cvd m ns[k]) (h3 : ∀ hj : j < ns.length, ¬ cvd m ns[j]) (q : ∀ y, NaV A y (nxo ns m) → Q' y A) : sp_name_at K [.ref b, .int j] A Q' E0 := by
  have e := nxo_at h2 h3 h1
  refine ⟨b, j, rfl, xs, hP, by omega, fun v hv => q v ?_, fun hv => q .non ?_⟩
  · rw [Int.toNat_natCast] at hv
    obtain ⟨p, hp, na⟩ := hn.get hv
    rw [e, hp]
    exact na
  · rw [Int.toNat_natCast] at hv
    have := hn.len
    rw [e, List.getElem?_eq_none (by omega)]
    rfl
def sp_run (K : PySem.W.Frag) (mg : Str → Option Value) : Sp := fun vs H Q _ => ∃ (d a b : Addr), vs = [.ref d, .ref a, .ref b] ∧ ∃ m ws cs xs ns, Rd H d (.dK (dI m)) ∧ Ck m ∧ SqL K H a ws ∧ Cls' K mg H ws cs ∧ cs.length ≤ 60 ∧ (∀ x ∈ cs, 0 ≤ x.c ∧ x.c < 63) ∧ (SqL K H b xs ∨ SqT K H b xs) ∧ Nms H xs ns ∧
  ∀ H' t l r hs m0 rw last m', Same H H' → H l = none → H r = none → H' t = some (.tup [.ref l, .ref r]) → H' l = some (.lst ((rw : List (V × Cll)).map (·.1))) → H' r = some (.dK (dI m')) → Td m' → hs.Pairwise (· < ·) → (∀ h, h ∈ hs ↔ ∃ x ∈ cs, x.c = h) → Td m0 → (∀ k, ct m0 k = ct m k) → Fw hs (LkC (ws.zip cs)) ns m0 rw last m' → fst (frm hs last) (LkC (ws.zip cs)) m' (nxo ns m') = none → Q (.ref t) H'
theorem sc_run : FnScope ["counts", "calls", "places", "reached", "ranked", "callers", "row", "at", "call"] ["counts", "calls", "places"] (defScope s_run) := ⟨rfl, rfl, rfl, by decide +kernel, rfl, by decide +kernel, by decide +kernel⟩
set_option maxHeartbeats 8000000 in
theorem ok_run {f f_joined f_first_open f_name_at f_rank_of f_first_to_take f_callers_from C_HeardCall C_OneCall C_OwnCall : Addr} {fd fd_joined fd_first_open fd_name_at fd_rank_of fd_first_to_take fd_callers_from : FuncData} (F : Fun K "run" "run" s_run f fd)
    (G_joined : FnOk P w K mg base CX0 5 f_joined fd_joined ["one", "other"] (sp_joined K)) (C_joined : Cal K mg "joined" f_joined fd_joined ["one", "other"])
    (G_first_open : FnOk P w K mg base CX0 5 f_first_open fd_first_open ["places", "counts", "start"] (sp_first_open K)) (C_first_open : Cal K mg "first_open" f_first_open fd_first_open ["places", "counts", "start"])
    (G_name_at : FnOk P w K mg base CX0 5 f_name_at fd_name_at ["places", "at"] (sp_name_at K)) (C_name_at : Cal K mg "name_at" f_name_at fd_name_at ["places", "at"])
    (G_rank_of : FnOk P w K mg base CX0 5 f_rank_of fd_rank_of ["call"] (sp_rank_of K mg)) (C_rank_of : Cal K mg "rank_of" f_rank_of fd_rank_of ["call"])
    (G_first_to_take : FnOk P w K mg base CX0 5 f_first_to_take fd_first_to_take ["callers", "ranked", "counts", "name"] (sp_first_to_take K mg)) (C_first_to_take : Cal K mg "first_to_take" f_first_to_take fd_first_to_take ["callers", "ranked", "counts", "name"])
    (G_callers_from : FnOk P w K mg base CX0 5 f_callers_from fd_callers_from ["callers", "last"] (sp_callers_from K)) (C_callers_from : Cal K mg "callers_from" f_callers_from fd_callers_from ["callers", "last"]) (h_dict : mg "dict" = none) (h_set : mg "set" = none) (h_sorted : mg "sorted" = none) (T_HeardCall : TCall K C_HeardCall) (T_OneCall : TCall K C_OneCall) (T_OwnCall : TCall K C_OwnCall) (m_HeardCall : mg "HeardCall" = some (.ref C_HeardCall)) (m_OneCall : mg "OneCall" = some (.ref C_OneCall)) (m_OwnCall : mg "OwnCall" = some (.ref C_OwnCall)) : FnOk P w K mg base CX0 6 f fd ["counts", "calls", "places"] (sp_run K mg) := by
  refine F.ok sc_run (fun vs H Q E h => ?_) (fun cdv A outer s H vs Q E hr h => ?_)
  · obtain ⟨d, a, b, rfl, _⟩ := h
    rfl
  obtain ⟨d, a, b, rfl, h⟩ := h
  have hu64 := hr.units
  have hu0 := hr.units0
  have hu := hu_of hr
  refine ⟨_, (pss_cons (ps_set (i := 3) sc_run.nd rfl (Or.inl rfl) (pcall G_joined C_joined hr (pa_cons (pv 0) (pa_cons pe_dnewK pa_nil))))
      (pss_cons (ps_set (i := 4) sc_run.nd rfl (Or.inl rfl) (pe_callTy (call_dictTT rfl (Nat.lt_of_le_of_lt (Nat.add_le_add_left (by decide) _) hu64)) (by rfl) h_dict PyProof.Rows.boot_dict (pa_cons (pe_comp ["call"] [none] rfl rfl (by kernel_rfl) (pi_listK (K := K) rfl (pv 1)) (fun _ _ _ _ _ nd => pg_name (i := 0) nd rfl (Or.inl rfl)) (fun _ _ _ _ _ => pif_nil) (fun _ _ _ _ _ => (pe_tup (pa_cons (pcall G_rank_of C_rank_of hr (pa_cons (pv 0) pa_nil)) (pa_cons (pv 0) pa_nil))))) pa_nil)))
      (pss_cons (ps_set (i := 5) sc_run.nd rfl (Or.inl rfl) (pe_callB (call_sortedS rfl) (by rfl) h_sorted PyProof.Rows.boot_sorted (pa_cons (pe_callTy (call_setI rfl) (by rfl) h_set (show bootBuiltins "set" = some (.type "set") by decide +kernel) (pa_cons (pe_comp ["call"] [none] rfl rfl (by kernel_rfl) (pi_listK (K := K) rfl (pv 1)) (fun _ _ _ _ _ nd => pg_name (i := 0) nd rfl (Or.inl rfl)) (fun _ _ _ _ _ => pif_nil) (fun _ _ _ _ _ => (pe_fldK (K := K) rfl (pv 0) rfl))) pa_nil)) pa_nil)))
      (pss_cons (ps_set (i := 6) sc_run.nd rfl (Or.inl rfl) (pe_lst pa_nil))
      (pss_cons (ps_set (i := 7) sc_run.nd rfl (Or.inl rfl) (pcall G_first_open C_first_open hr (pa_cons (pv 2) (pa_cons (pv 3) (pa_cons pe_int pa_nil)))))
      (pss_cons (ps_set (i := 8) sc_run.nd rfl (Or.inl rfl) (pcall G_first_to_take C_first_to_take hr (pa_cons (pv 5) (pa_cons (pv 4) (pa_cons (pv 3) (pa_cons (pcall G_name_at C_name_at hr (pa_cons (pv 2) (pa_cons (pv 7) pa_nil))) pa_nil))))))
      (pss_cons (ps_while PassesOwn.never (pt_cmpR op_notN (pv 8) pe_non (nomark _))
      (pss_cons (ps_expr (pe_appendK (K := K) rfl (pe_bm PySem.F.plainAttrs_list PySem.F.slot_list_append PySem.F.type_list_append mt_append (pv 6) (pa_cons (pv 8) pa_nil))))
      (pss_cons (ps_dput hu (pv 3) (pe_fldK (K := K) rfl (pv 8) rfl) (pe_fldK (K := K) rfl (pv 8) rfl) rfl)
      (pss_cons (ps_set (i := 7) sc_run.nd rfl (Or.inl rfl) (pcall G_first_open C_first_open hr (pa_cons (pv 2) (pa_cons (pv 3) (pa_cons (pv 7) pa_nil)))))
      (pss_one (ps_set (i := 8) sc_run.nd rfl (Or.inl rfl) (pcall G_first_to_take C_first_to_take hr (pa_cons (pcall G_callers_from C_callers_from hr (pa_cons (pv 5) (pa_cons (pe_fldK (K := K) rfl (pv 8) rfl) pa_nil))) (pa_cons (pv 4) (pa_cons (pv 3) (pa_cons (pcall G_name_at C_name_at hr (pa_cons (pv 2) (pa_cons (pv 7) pa_nil))) pa_nil)))))))))))
      (pss_one (ps_ret (pe_tup (pa_cons (pv 6) (pa_cons (pv 3) pa_nil)))))))))))), ?_⟩
  obtain ⟨m, ws, cs, xs, ns, hd, cm, hS, hc, lc, rg, hP, hn, kk⟩ := h
  have lw : ws.length = cs.length := Paired.length hc
  have lx := hn.len
  clean_wf
  intro e0 H1 he0 s1 g1
  clean_wf
  refine ⟨d, e0, m, [], rfl, same_rd s1 hd, .inl g1, cm, Ck.nil, fun H2 r m0 s2 hr g2 tm0 mx => ?_⟩
  have ctm0 : ∀ k, ct m0 k = ct m k := fun k => by
    have := isMx_max2 (mx k)
    have c0 := cm.ct k
    have e : ct [] k = 0 := rfl
    rw [e] at this
    omega
  have s02 := s1.trans s2
  have hS2 := s02.seq hS
  have hc2 := cls_up (.same s02) hc
  clean_wf
  intro E hE
  refine comp_list (K := K) (a := a) (xs := ws) (fun i σ A => ∃ v ys, σ = [v] ∧ Same H2 A ∧ A E = some (.lst ys) ∧ ys.length = i ∧ PrsT A ys (((ws.zip cs).take i).map rkp)) ⟨none, [], rfl, same_upd hE, upd_same, rfl, .nil⟩ ?_ ?_ ?_
  · rintro i σ A _ ⟨_, _, _, z, _⟩
    exact z.seq hS2
  · rintro i x σ A hx ⟨v, ys, rfl, sA, gE, ly, pr⟩
    obtain ⟨y, hy, cy⟩ := paired_at hc2 hx
    have hi := (List.getElem?_eq_some_iff.mp hy).1
    clean_wf
    refine ⟨x, rfl, y, cy.up (.same sA), fun A1 t t1 ht g1' => ?_⟩
    clean_wf
    intro u A2 hu2 t2 g2'
    have gE2 := t2 _ _ (t1 _ _ gE)
    have kp : SmH A2 (upd A2 E (.lst (ys ++ [V.ref u]))) := SmH.lst gE2
    refine ⟨ys, gE2, small1000 (by omega), _, ys ++ [.ref u], rfl, fun b' o z => ?_, upd_same, by rw [List.length_append, ly]; rfl, ?_⟩
    · rw [upd_ne (ne_of_none z hE)]
      exact t2 _ _ (t1 _ _ (sA b' o z))
    · rw [zip_take ws cs i hx hy, List.map_append]
      exact prsT_snoc (prsT_up (fun a xs z => kp _ _ (t2 _ _ (t1 _ _ z))) pr) ⟨u, t, rfl, kp _ _ g2', kp _ _ (t2 _ _ g1')⟩
  rintro σ H3 ⟨v, ys, rfl, s3, gE, ly, pr⟩
  rw [show (ws.zip cs).take ws.length = ws.zip cs by rw [List.take_of_length_le]; rw [List.length_zip]; omega] at pr
  refine ⟨E, ys, _, rfl, gE, pr, by have := Paired.length pr; omega, fun D hD => ?_⟩
  have s4 := same_upd (o := .dT (mergeT ((ws.zip cs).map rkp))) hD
  have gD : (upd H3 D (.dT (mergeT ((ws.zip cs).map rkp)))) D = some (.dT (mergeT ((ws.zip cs).map rkp))) := upd_same
  generalize upd H3 D (.dT (mergeT ((ws.zip cs).map rkp))) = H4 at s4 gD ⊢
  have s24 : Same H2 H4 := s3.trans s4
  have hc4 := cls_up (.same s24) hc2
  have RK : RkA K mg H4 D (LkC (ws.zip cs)) := ⟨⟨_, gD, lkc_val _⟩, fun a b v x e => by
    obtain ⟨e1, e2, e3⟩ := lkc_mem e
    exact ⟨zip_mem hc4 e1, e2, e3⟩⟩
  have hS4 := s24.seq hS2
  clean_wf
  intro E2 hE2
  refine comp_list (K := K) (a := a) (xs := ws) (fun i σ A => ∃ v, σ = [v] ∧ Same H4 A ∧ A E2 = some (.lst (((cs.take i).map (·.c)).map V.int))) ⟨none, rfl, same_upd hE2, upd_same⟩ ?_ ?_ ?_
  · rintro i σ A _ ⟨_, _, z, _⟩
    exact z.seq hS4
  · rintro i x σ A hx ⟨v, rfl, sA, gA⟩
    obtain ⟨y, hy, cy⟩ := paired_at hc4 hx
    have hi := (List.getElem?_eq_some_iff.mp hy).1
    obtain ⟨p, C, dx, t, xs', rfl, hk, hT, hp, _⟩ := cy.up (.same sA)
    obtain ⟨cl, n1, n2, n3, n4, n5⟩ := id hT
    clean_wf
    refine ⟨_, gA, ?_, _, rfl, fun b o z => ?_, ?_⟩
    · rw [List.length_map, List.length_map, List.length_take]
      exact small1000 (by omega)
    · rw [upd_ne (ne_of_none z hE2)]
      exact sA b o z
    · rw [upd_same, take_get hy, List.map_append, List.map_append]
      rfl
  rintro σ H5 ⟨v, rfl, s5, gE2⟩
  rw [lw, List.take_length] at gE2
  refine ⟨E2, cs.map (·.c), rfl, SqL.of gE2, by rw [List.length_map]; omega, fun q ks hq ndk mk => ?_⟩
  refine ⟨q, ks, rfl, upd_same, ndk, ?_, fun cl hs hcl pm so => ?_⟩
  · exact hs_len ndk fun k hk => by
      obtain ⟨x, hx, e⟩ := List.mem_map.mp ((mk k).mp hk)
      rw [← e]
      exact rg x hx
  generalize SetO _ _ q ks = so' at hcl ⊢
  have s56 := same_upd (o := so') hq
  have s6 := same_upd (o := .lst (hs.map V.int)) hcl
  have g6 : (upd (upd H5 q so') cl (.lst (hs.map V.int))) cl = some (.lst (hs.map V.int)) := upd_same
  generalize upd (upd H5 q so') cl (.lst (hs.map V.int)) = H6 at s6 g6 ⊢
  generalize upd H5 q so' = H5' at s56 s6 hcl
  have s46 : Same H4 H6 := s5.trans (s56.trans s6)
  have hsl : hs.Pairwise (· < ·) := by
    have := List.pairwise_and_iff.mpr ⟨so, pm.nodup_iff.mpr ndk⟩
    exact this.imp fun h => by omega
  have hsm : ∀ h, h ∈ hs ↔ ∃ x ∈ cs, x.c = h := fun h => by
    rw [pm.mem_iff, mk h]
    exact List.mem_map
  have lhs : hs.length ≤ 400 := by
    have : hs.length < 64 := hs_len (pm.nodup_iff.mpr ndk) fun k hk => by
      obtain ⟨x, hx, e⟩ := (hsm k).mp hk
      rw [← e]
      exact rg x hx
    omega
  clean_wf
  intro l H7 hl s7 g7
  have s27 : Same H2 H7 := s24.trans (s46.trans s7)
  have s07 := s02.trans s27
  have gr7 := s27 _ _ g2
  have hP7 : SqL K H7 b xs ∨ SqT K H7 b xs := sq_pt (fun o e => s07 _ _ e) hP
  have hn7 : Nms H7 xs ns := hn.up (.same s07)
  have gc7 := s7 _ _ g6
  have RK7 := RK.same (s46.trans s7)
  have nlr : l ≠ r := fun z => by rw [z, (s24.trans s46) _ _ g2] at hl; cases hl
  have ncl : cl ≠ l := fun z => by rw [← z, g6] at hl; cases hl
  clean_wf
  refine ⟨b, r, 0, rfl, xs, m0, ns, hP7, .inl gr7, hn7, Nat.zero_le _, fun k _ h => absurd h (Nat.not_lt_zero _), fun j j1 j2 j3 => ?_⟩
  clean_wf
  refine name_now hP7 hn7 j1 j2 j3 fun y hy => ?_
  clean_wf
  refine ⟨cl, D, r, y, rfl, hs, _, m0, nxo ns m0, SqL.of gc7, RK7, .inl gr7, tm0.toCk, hy, fun H8 s8 => ?_⟩
  have hl8 := s8 _ _ g7
  have gr8 := s8 _ _ gr7
  have gc8 := s8 _ _ gc7
  have RK8 := RK7.same s8
  have hP8 : SqL K H8 b xs ∨ SqT K H8 b xs := sq_pt (fun o e => s8 _ _ e) hP7
  have hn8 : Nms H8 xs ns := hn7.up (.same s8)
  have s08 := s07.trans s8
  have frl : H l = none := (s02.trans (s24.trans s46)).free hl
  have frr : H r = none := s1.free hr
  have bl : ∀ o, H8 b = some o → (SqL K H b xs ∨ SqT K H b xs) → True := fun _ _ _ => trivial
  clean_wf
  refine ⟨fun M σ A => ∃ rw last mm j, M = mz cs mm ∧ σ = [some (.ref d), some (.ref a), some (.ref b), some (.ref r), some (.ref D), some (.ref cl), some (.ref l), some (.int (j : Nat)), some (fsv (fst (frm hs last) (LkC (ws.zip cs)) mm (nxo ns mm)))] ∧ (∀ x o, H8 x = some o → x ≠ l → x ≠ r → A x = some o) ∧ A l = some (.lst ((rw : List (V × Cll)).map (·.1))) ∧ A r = some (.dK (dI mm)) ∧ Td mm ∧ Fw hs (LkC (ws.zip cs)) ns m0 rw last mm ∧ j ≤ ns.length ∧ (∀ k (hk : k < ns.length), k < j → cvd mm ns[k]) ∧ rw.length + mz cs mm ≤ 60, ⟨_, [], none, m0, j, rfl, rfl, fun x o e _ _ => e, hl8, gr8, tm0, .start, j1, j2, ?_⟩, ?_⟩
  · have := List.length_filter_le (fun q : Cll => decide (ct m0 q.c < q.k)) cs
    unfold mz
    rw [List.length_nil]
    omega
  rintro M σ A ⟨rw', last, mm, j', rfl, rfl, kA, gl, gr, tmm, fw, q1, q2, q3⟩
  have nbl : ∀ {x : Addr} {o : HO}, H8 x = some o → (∀ ys, o ≠ .lst ys) → (∀ kvs, o ≠ .dK kvs) → A x = some o := fun e n1 n2 => kA _ _ e (fun z => by rw [z, hl8] at e; cases e; exact n1 _ rfl) (fun z => by rw [z, gr8] at e; cases e; exact n2 _ rfl)
  have kpc : KpC H8 A := ⟨fun p C dx fs e => nbl e (by intro _ z; cases z) (by intro _ z; cases z), fun a xs e => nbl e (by intro _ z; cases z) (by intro _ z; cases z)⟩
  have hPA : SqL K A b xs ∨ SqT K A b xs := by
    refine sq_pt (fun o e => ?_) hP
    exact kA _ _ (s08 _ _ e) (fun z => by rw [z, frl] at e; cases e) (fun z => by rw [z, frr] at e; cases e)
  have hnA : Nms A xs ns := hn8.up kpc.2
  have gcA := kA _ _ gc8 ncl (fun z => by rw [z, gr8] at gc8; cases gc8)
  have RKA : RkA K mg A D (LkC (ws.zip cs)) := by
    obtain ⟨⟨kvs, e1, e2⟩, e3⟩ := RK8
    exact ⟨⟨kvs, nbl e1 (by intro _ z; cases z) (by intro _ z; cases z), e2⟩, fun a b v x e => ⟨(e3 a b v x e).1.up kpc, (e3 a b v x e).2⟩⟩
  cases z : fst (frm hs last) (LkC (ws.zip cs)) mm (nxo ns mm) with
  | none =>
    clean_wf
    rw [show decide (fsv none = V.non) = true from decide_eq_true rfl]
    clean_wf
    intro t A1 ht s9 g9
    refine kk A1 t l r hs m0 rw' last mm (fun x o e => s9 _ _ (kA _ _ (s08 _ _ e) (fun z => by rw [z, frl] at e; cases e) (fun z => by rw [z, frr] at e; cases e))) frl frr g9 (s9 _ _ gl) (s9 _ _ gr) tmm hsl hsm tm0 ctm0 fw z
  | some q =>
    obtain ⟨v, x⟩ := q
    obtain ⟨hh, hhm, eL, tk⟩ := fst_mem z
    obtain ⟨cx, ec, ek⟩ := RKA.cl _ _ _ _ eL
    obtain ⟨p, C, dx, t, xs', rfl, hk, hT, hp, ht, hpx, hcs⟩ := id cx
    obtain ⟨cl', n1, n2, n3, n4, n5⟩ := id hT
    have xm : x ∈ cs := by
      have := (lkc_mem eL).1
      exact (List.of_mem_zip this).2
    have xr := rg x xm
    have ek' : x.k = ct mm x.c + 1 := by rw [ek, ec]
    have kp0 : 0 < x.k := by have := tmm.toCk.ct x.c; omega
    have ml := mz_lt xm ek'
    rw [show fsv (some (V.ref p, x)) = V.ref p from rfl]
    clean_wf
    rw [show decide (V.ref p = V.non) = false from decide_eq_false (by intro z; cases z)]
    refine ite2 (fun _ => ?_) fun z => absurd rfl z
    refine ⟨_, fun _ _ z => z, ?_⟩
    have ls : (rw'.map (·.1)).length < sizeLine := small1000 (by rw [List.length_map]; omega)
    clean_wf
    intro A1 b1 g1'
    have hp1 := b1.of gl hp (by intro z; cases z)
    have gr1 := b1.at nlr.symm gr
    have nd := tmm.nd
    have lm := tmm.toCk.len
    clean_wf
    intro A2 b2 g2'
    have fr2 : ∀ x o, H8 x = some o → x ≠ l → x ≠ r → A2 x = some o := fun x o e n1 n2 => b2.at n2 (b1.at n1 (kA x o e n1 n2))
    have nbl2 : ∀ {x : Addr} {o : HO}, A x = some o → (∀ ys, o ≠ .lst ys) → (∀ kvs, o ≠ .dK kvs) → A2 x = some o := fun e n1 n2 => b2.at (fun z => by rw [z, gr] at e; cases e; exact n2 _ rfl) (b1.at (fun z => by rw [z, gl] at e; cases e; exact n1 _ rfl) e)
    have kpc2 : KpC A A2 := ⟨fun p C dx fs e => nbl2 e (by intro _ z; cases z) (by intro _ z; cases z), fun a xs e => nbl2 e (by intro _ z; cases z) (by intro _ z; cases z)⟩
    have hPA2 : SqL K A2 b xs ∨ SqT K A2 b xs := by
      refine sq_pt (fun o e => ?_) hP
      exact fr2 _ _ (s08 _ _ e) (fun z => by rw [z, frl] at e; cases e) (fun z => by rw [z, frr] at e; cases e)
    have hnA2 : Nms A2 xs ns := hnA.up kpc2.2
    have gcA2 := fr2 _ _ gc8 ncl (fun z => by rw [z, gr8] at gc8; cases gc8)
    have hp2 := kpc2.1 _ _ _ _ hp
    have RKA2 : RkA K mg A2 D (LkC (ws.zip cs)) := by
      obtain ⟨⟨kvs, e1, e2⟩, e3⟩ := RKA
      exact ⟨⟨kvs, nbl2 e1 (by intro _ z; cases z) (by intro _ z; cases z), e2⟩, fun a b v x e => ⟨(e3 a b v x e).1.up kpc2, (e3 a b v x e).2⟩⟩
    have tm2 := td_put tmm xr.1 xr.2 kp0
    have mono : ∀ k, ct mm k ≤ ct (putI mm x.c x.k) k := fun k => by
      rw [ct_put]
      by_cases w : k = x.c
      · rw [if_pos w, w]; omega
      · rw [if_neg w]; exact Int.le_refl _
    clean_wf
    refine ⟨b, r, j', rfl, xs, putI mm x.c x.k, ns, hPA2, .inl g2', hnA2, q1, fun k hk h => Int.le_trans (q2 k hk h) (mono _), fun j2 a1 a2 a3 => ?_⟩
    clean_wf
    refine ⟨cl, x.c, rfl, hs, SqL.of gcA2, lhs, fun A3 cf s3' hcf g3' => ?_⟩
    clean_wf
    refine name_now (sq_pt (fun o e => s3' _ _ e) hPA2) (hnA2.up (.same s3')) a1 a2 a3 fun y hy => ?_
    clean_wf
    refine ⟨cf, D, r, y, rfl, _, _, putI mm x.c x.k, nxo ns (putI mm x.c x.k), SqL.of g3', RKA2.same s3', .inl (s3' _ _ g2'), tm2.toCk, hy, fun A4 s4' => ?_⟩
    refine ⟨mz cs (putI mm x.c x.k), ml, rw' ++ [(.ref p, x)], some x.c, putI mm x.c x.k, j2, rfl, rfl, fun x o e n1 n2 => s4' _ _ (s3' _ _ (fr2 x o e n1 n2)), ?_, s4' _ _ (s3' _ _ g2'), tm2, .step fw z, a1, a2, ?_⟩
    · rw [List.map_append]
      exact s4' _ _ (s3' _ _ (b2.at nlr g1'))
    · rw [List.length_append]
      show rw'.length + 1 + _ ≤ 60
      omega

def askb (m : List (Int × Int)) (x : Cll) : Bool := decide (x.kd = "one") && frb m x

def LaR (zs : List (V × Cll)) (m : List (Int × Int)) : Option (V × Cll) → Prop
  | none => ∀ q ∈ zs, askb m q.2 = false
  | some q => q ∈ zs ∧ askb m q.2 = true ∧ ∀ q' ∈ zs, askb m q'.2 = true → HT.lexLt [q'.2.c, q'.2.k] [q.2.c, q.2.k] = false
def sp_least_asking (K : PySem.W.Frag) (mg : Str → Option Value) : Sp := fun vs H Q _ => ∃ (a d : Addr), vs = [.ref a, .ref d] ∧ ∃ ws cs m, SqL K H a ws ∧ Cls' K mg H ws cs ∧ cs.length ≤ 60 ∧ Rd H d (.dK (dI m)) ∧ Ck m ∧ ∀ H' o, Same H H' → LaR (ws.zip cs) m o → Q (fsv o) H'
theorem sc_least_asking : FnScope ["calls", "counts"] ["calls", "counts"] (defScope s_least_asking) := ⟨rfl, rfl, rfl, by decide +kernel, rfl, by decide +kernel, by decide +kernel⟩
set_option maxHeartbeats 4000000 in
theorem ok_least_asking {f f_Call_free f_HeardCall_free f_Call_asks_place f_OneCall_asks_place f_rank_of C_HeardCall C_OneCall C_OwnCall : Addr} {fd fd_Call_free fd_HeardCall_free fd_Call_asks_place fd_OneCall_asks_place fd_rank_of : FuncData} (F : Fun K "least_asking" "least_asking" s_least_asking f fd)
    (G_Call_free : FnOk P w K mg base CX0 3 f_Call_free fd_Call_free ["self", "counts"] (sp_Call_free K mg)) (B_Call_free : Binds K fd_Call_free ["self", "counts"] [])
    (G_HeardCall_free : FnOk P w K mg base CX0 3 f_HeardCall_free fd_HeardCall_free ["self", "counts"] (sp_HeardCall_free K mg)) (B_HeardCall_free : Binds K fd_HeardCall_free ["self", "counts"] [])
    (G_Call_asks_place : FnOk P w K mg base CX0 3 f_Call_asks_place fd_Call_asks_place ["self"] (sp_Call_asks_place K)) (B_Call_asks_place : Binds K fd_Call_asks_place ["self"] [])
    (G_OneCall_asks_place : FnOk P w K mg base CX0 3 f_OneCall_asks_place fd_OneCall_asks_place ["self"] (sp_OneCall_asks_place K)) (B_OneCall_asks_place : Binds K fd_OneCall_asks_place ["self"] [])
    (G_rank_of : FnOk P w K mg base CX0 2 f_rank_of fd_rank_of ["call"] (sp_rank_of K mg)) (C_rank_of : Cal K mg "rank_of" f_rank_of fd_rank_of ["call"]) (h_min : mg "min" = none) (T_HeardCall : TCall K C_HeardCall) (T_OneCall : TCall K C_OneCall) (T_OwnCall : TCall K C_OwnCall) (m_HeardCall : mg "HeardCall" = some (.ref C_HeardCall)) (m_OneCall : mg "OneCall" = some (.ref C_OneCall)) (m_OwnCall : mg "OwnCall" = some (.ref C_OwnCall)) (mt_HeardCall_asks_place : Meth K C_HeardCall "asks_place" f_Call_asks_place) (mt_HeardCall_free : Meth K C_HeardCall "free" f_HeardCall_free) (mt_OneCall_asks_place : Meth K C_OneCall "asks_place" f_OneCall_asks_place) (mt_OneCall_free : Meth K C_OneCall "free" f_HeardCall_free) (mt_OwnCall_asks_place : Meth K C_OwnCall "asks_place" f_Call_asks_place) (mt_OwnCall_free : Meth K C_OwnCall "free" f_Call_free) : FnOk P w K mg base CX0 4 f fd ["calls", "counts"] (sp_least_asking K mg) := by
  refine F.ok sc_least_asking (fun vs H Q E h => ?_) (fun cdv A outer s H vs Q E hr h => ?_)
  · obtain ⟨a, d, rfl, _⟩ := h
    rfl
  obtain ⟨a, d, rfl, h⟩ := h
  have hu64 := hr.units
  have hu0 := hr.units0
  have hu := hu_of hr
  refine ⟨_, (pss_one (ps_ret (pe_minkey (K := K) rfl rfl (Nat.lt_of_le_of_lt (Nat.add_le_add_left (by decide) _) hu64) (pa_cons (pe_comp ["counts", "call"] [some 1, none] rfl rfl (by kernel_rfl) (pi_listK (K := K) rfl (pv 0)) (fun _ _ _ _ _ nd => pg_name (i := 1) nd rfl (Or.inl rfl)) (fun _ _ _ _ _ => (pif_one (PW.pt (pw_and (pt_callK K rfl (pe_methS0 (MOk.cons T_OwnCall.cl mt_OwnCall_asks_place G_Call_asks_place B_Call_asks_place (MOk.cons T_HeardCall.cl mt_HeardCall_asks_place G_Call_asks_place B_Call_asks_place (MOk.cons T_OneCall.cl mt_OneCall_asks_place G_OneCall_asks_place B_OneCall_asks_place MOk.nil))) (pv 1) hr)) (pw_and1 (pt_callK K rfl (pe_methS (MOk.cons T_OwnCall.cl mt_OwnCall_free G_Call_free B_Call_free (MOk.cons T_HeardCall.cl mt_HeardCall_free G_HeardCall_free B_HeardCall_free (MOk.cons T_OneCall.cl mt_OneCall_free G_HeardCall_free B_HeardCall_free MOk.nil))) (pv 1) hr (pa_cons (pv 0) pa_nil)))))))) (fun _ _ _ _ _ => (pv 1))) pa_nil) pe_non (by rfl) h_min G_rank_of C_rank_of.mg C_rank_of.bd (by rfl) hr))), ?_⟩
  obtain ⟨ws, cs, m, hS, hc, lc, hd, cm, kk⟩ := h
  have lw : ws.length = cs.length := Paired.length hc
  clean_wf
  intro E hE
  refine comp_list (K := K) (a := a) (xs := ws) (fun i σ A => ∃ v zs, σ = [some (.ref d), v] ∧ Same H A ∧ A E = some (.lst ((zs : List (V × Cll)).map (·.1))) ∧ zs = ((ws.zip cs).take i).filter fun q => askb m q.2) ⟨none, [], rfl, same_upd hE, upd_same, rfl⟩ ?_ ?_ ?_
  · rintro i σ A _ ⟨_, _, _, z, _⟩
    exact z.seq hS
  · rintro i v σ A hx ⟨v0, zs, rfl, sA, gE, ez⟩
    obtain ⟨x, hy, cy⟩ := paired_at hc hx
    have hi := (List.getElem?_eq_some_iff.mp hy).1
    have tk := zip_take ws cs i hx hy
    have lz : zs.length ≤ i := by
      rw [ez]
      exact Nat.le_trans (List.length_filter_le _ _) (List.length_take_le _ _)
    have hdA := same_rd sA hd
    have yes : askb m x = true → zs ++ [(v, x)] = ((ws.zip cs).take (i + 1)).filter fun q => askb m q.2 := fun w => by
      rw [tk, List.filter_append, ← ez]
      simp [w]
    have no : askb m x = false → zs = ((ws.zip cs).take (i + 1)).filter fun q => askb m q.2 := fun w => by
      rw [tk, List.filter_append, ← ez]
      simp [w]
    obtain ⟨p, C, dx, t, xs', rfl, hk, hT, hp, ht, hpx, hcs⟩ := cy.up (.same sA)
    obtain ⟨kd, n, c, k, w, css⟩ := x
    have hk : KdC mg kd C := hk
    have hp : A p = some (.ins C dx (cfl (.int n) (.int c) (.int k) (.int w) (.ref t))) := hp
    have hpx : Prs A xs' css := hpx
    have hcs : Ck css := hcs
    rcases hk with ⟨rfl, e⟩ | ⟨rfl, e⟩ | ⟨rfl, e⟩
    · rw [m_OwnCall] at e
      cases e
      clean_wf
      refine ⟨p, rfl, ?_⟩
      clean_wf
      exact ⟨_, zs, rfl, sA, gE, no (by unfold askb; rw [kd_on]; rfl)⟩
    · rw [m_HeardCall] at e
      cases e
      clean_wf
      refine ⟨p, rfl, ?_⟩
      clean_wf
      exact ⟨_, zs, rfl, sA, gE, no (by unfold askb; rw [kd_hn]; rfl)⟩
    · have ev : askb m ⟨"one", n, c, k, w, css⟩ = (decide (ct m c = k - 1) && cov m (posI css)) := by
        unfold askb frb
        rw [kd_no, kd_nn]
        simp
      rw [m_OneCall] at e
      cases e
      clean_wf
      refine ⟨p, rfl, ?_⟩
      clean_wf
      refine ⟨p, d, rfl, _, dx, m, _, c, k, _, t, xs', css, .inr m_OneCall, hp, hdA, ht, hpx, cm, hcs, fun A1 s1 => ?_⟩
      clean_wf
      refine ite2 (fun h1 => ?_) fun h1 => ?_
      · have gE1 := s1 _ _ gE
        clean_wf
        refine ⟨_, gE1, by rw [List.length_map]; exact small1000 (by omega), _, zs ++ [(.ref p, ⟨"one", n, c, k, w, css⟩)], rfl, fun b o z => ?_, by rw [upd_same, List.map_append]; rfl, yes (by rw [ev]; exact h1)⟩
        rw [upd_ne (ne_of_none z hE)]
        exact s1 _ _ (sA b o z)
      · exact ⟨_, zs, rfl, sA.trans s1, s1 _ _ gE, no (by rw [ev]; exact Bool.eq_false_iff.mpr h1)⟩
  rintro σ A ⟨v, zs, rfl, sA, gE, ez⟩
  rw [show (ws.zip cs).take ws.length = ws.zip cs by rw [List.take_of_length_le]; rw [List.length_zip]; omega] at ez
  have hcA := cls_up (.same sA) hc
  have zin : ∀ q ∈ zs, q ∈ ws.zip cs ∧ askb m q.2 = true := fun q hq => by
    rw [ez] at hq
    exact List.mem_filter.mp hq
  have zat : ∀ {i : Nat} {v : V}, (zs.map (·.1))[i]? = some v → ∃ q, zs[i]? = some q ∧ q.1 = v := fun {i v} h => by
    rw [List.getElem?_map] at h
    cases w : zs[i]? with
    | none => rw [w] at h; cases h
    | some q => rw [w] at h; exact ⟨q, rfl, Option.some.inj h⟩
  clean_wf
  refine ⟨E, zs.map (·.1), zs.map (fun q => [q.2.c, q.2.k]), rfl, SqL.of gE, by rw [List.length_map, List.length_map], fun v hv => ?_, fun i v k H3 Q' hv hk s3 hq => ?_, fun e => ?_, fun i v kb H' hv hkb best s' => ?_⟩
  · obtain ⟨q, hq, rfl⟩ := List.mem_map.mp hv
    obtain ⟨p, _, _, _, _, e, _⟩ := zip_mem hcA (zin q hq).1
    exact ⟨p, e⟩
  · obtain ⟨q, hq2, rfl⟩ := zat hv
    rw [List.getElem?_map, hq2] at hk
    cases hk
    have cq := (zip_mem hcA (zin q (List.mem_of_getElem? hq2)).1).up (.same s3)
    exact ⟨q.1, rfl, q.2, cq, fun H4 t s4 _ g4 => hq H4 t s4 (SqT.of g4)⟩
  · refine kk A none sA fun q hq => ?_
    have e0 : zs = [] := List.map_eq_nil_iff.mp e
    rw [ez] at e0
    have := List.filter_eq_nil_iff.mp e0 q hq
    exact Bool.eq_false_iff.mpr this
  · obtain ⟨q, hq2, rfl⟩ := zat hv
    rw [List.getElem?_map, hq2] at hkb
    cases hkb
    obtain ⟨z1, z2⟩ := zin q (List.mem_of_getElem? hq2)
    refine kk H' (some q) (sA.trans s') ⟨z1, z2, fun q' hq' ha => ?_⟩
    have : q' ∈ zs := by rw [ez]; exact List.mem_filter.mpr ⟨hq', ha⟩
    obtain ⟨j', hj'⟩ := List.getElem?_of_mem this
    exact (best j' [q'.2.c, q'.2.k] (by rw [List.getElem?_map, hj']; rfl)).1
end
end K25


namespace K25
open PySem L2
abbrev s_placed : Stmt := top 17
section
variable {P : Program} {w : World} {K : PySem.W.Frag} {mg : Str → Option Value} {base : Heap}

def Rk1 (zs : List (V × Cll)) : Prop := ∀ q ∈ zs, ∀ r ∈ zs, q.2.c = r.2.c → q.2.k = r.2.k → q = r
theorem lkc_one {zs : List (V × Cll)} (u : Rk1 zs) {q : V × Cll} (h : q ∈ zs) : LkC zs q.2.c q.2.k = some q := by
  cases z : LkC zs q.2.c q.2.k with
  | none =>
    unfold LkC at z
    have := List.find?_eq_none.mp z q (List.mem_reverse.mpr h)
    exact absurd (decide_eq_true ⟨rfl, rfl⟩) this
  | some r =>
    obtain ⟨e1, e2, e3⟩ := lkc_mem z
    rw [u r e1 q h e2 e3]
theorem mz_congr {cs : List Cll} {m m' : List (Int × Int)} (h : ∀ k, ct m k = ct m' k) : mz cs m = mz cs m' := by
  unfold mz
  congr 1
  refine congrArg (fun f => cs.filter f) ?_
  funext q
  rw [h]
theorem fw_mz {hs : List Int} {ws : List V} {cs : List Cll} {ns : List Nm} {m0 : List (Int × Int)} {rw : List (V × Cll)} {last : Option Int} {m : List (Int × Int)} (h : Fw hs (LkC (ws.zip cs)) ns m0 rw last m) : rw.length + mz cs m ≤ mz cs m0 := by
  induction h with
  | start => rw [List.length_nil]; omega
  | step f e ih =>
    obtain ⟨h, _, e1, _⟩ := fst_mem e
    obtain ⟨e2, e3, e4⟩ := lkc_mem e1
    have := mz_lt (List.of_mem_zip e2).2 (by rw [e3]; exact e4)
    rw [List.length_append, List.length_singleton]
    omega
theorem fw_some {hs : List Int} {L : Int → Int → Option (V × Cll)} {ns : List Nm} {m0 : List (Int × Int)} {rw : List (V × Cll)} {last : Option Int} {m : List (Int × Int)} (h : Fw hs L ns m0 rw last m) (e : fst (frm hs last) L m (nxo ns m) = none) (n : fst hs L m0 (nxo ns m0) ≠ none) : 0 < rw.length := by
  cases h with
  | start => exact absurd e n
  | step => rw [List.length_append, List.length_singleton]; omega
theorem ask_nm {m : List (Int × Int)} {x : Cll} (h : askb m x = true) : x.kd = "one" ∧ ct m x.c = x.k - 1 := by
  unfold askb frb at h
  simp at h
  exact ⟨h.1, h.2.1⟩
theorem ask_tk {m : List (Int × Int)} {x : Cll} (h : askb m x = true) : tkb m x (some (x.n, x.c, x.k)) = true := by
  unfold askb at h
  unfold tkb
  simp at h ⊢
  exact h.2
theorem ask_fst {hs : List Int} {zs : List (V × Cll)} (u : Rk1 zs) {m : List (Int × Int)} {q : V × Cll} (h : q ∈ zs) (ha : askb m q.2 = true) (hh : q.2.c ∈ hs) : fst hs (LkC zs) m (some (q.2.n, q.2.c, q.2.k)) ≠ none := by
  intro z
  unfold fst at z
  have := List.findSome?_eq_none_iff.mp z _ hh
  unfold tk1 at this
  rw [show ct m q.2.c + 1 = q.2.k by have := (ask_nm ha).2; omega, lkc_one u h] at this
  have this : (if tkb m q.2 (some (q.2.n, q.2.c, q.2.k)) = true then some q else none) = none := this
  rw [if_pos (ask_tk ha)] at this
  cases this
theorem nxo_new {m : List (Int × Int)} {ns : List Nm} {j : Nat} {p : Nm} (h1 : ∀ k (hk : k < ns.length), k < j → cvd m ns[k]) (h2 : j ≤ ns.length) (h3 : ¬ cvd m p) : nxo (ns.take j ++ [p]) m = some p := by
  unfold nxo
  rw [List.find?_append]
  have : (ns.take j).find? (fun p => !decide (cvd m p)) = none := by
    rw [List.find?_eq_none]
    intro q hq
    obtain ⟨k, hk⟩ := List.getElem?_of_mem hq
    rw [List.getElem?_take] at hk
    by_cases w : k < j
    · rw [if_pos w] at hk
      obtain ⟨w2, e⟩ := List.getElem?_eq_some_iff.mp hk
      have := h1 k w2 w
      rw [e] at this
      simp [this]
    · rw [if_neg w] at hk; cases hk
  rw [this, Option.none_or, List.find?_cons_of_pos (by simpa using h3)]
theorem ct_askb {m m' : List (Int × Int)} (h : ∀ k, ct m k = ct m' k) (x : Cll) : askb m x = askb m' x := by
  unfold askb frb cov
  simp only [h]

def HsO (cs : List Cll) (hs : List Int) : Prop := hs.Pairwise (· < ·) ∧ ∀ h, h ∈ hs ↔ ∃ x ∈ cs, x.c = h

def Rn (ws : List V) (cs : List Cll) (m : List (Int × Int)) (ns : List Nm) (rw : List (V × Cll)) (m' : List (Int × Int)) : Prop := ∃ hs m0 last, HsO cs hs ∧ Td m0 ∧ (∀ k, ct m0 k = ct m k) ∧ Fw hs (LkC (ws.zip cs)) ns m0 rw last m' ∧ fst (frm hs last) (LkC (ws.zip cs)) m' (nxo ns m') = none

def Fo (ns : List Nm) (m : List (Int × Int)) (j : Nat) : Prop := j ≤ ns.length ∧ (∀ k (hk : k < ns.length), k < j → cvd m ns[k]) ∧ ∀ hj : j < ns.length, ¬ cvd m ns[j]

inductive Pw (ws : List V) (cs : List Cll) (m : List (Int × Int)) (ns : List Nm) : List (V × Cll) → List Nm → List (Int × Int) → Prop
  | start {rw : List (V × Cll)} {m' : List (Int × Int)} : Rn ws cs m ns rw m' → Pw ws cs m ns rw ns m'
  | step {row rw : List (V × Cll)} {gs : List Nm} {m1 m2 : List (Int × Int)} {q : V × Cll} {j : Nat} : Pw ws cs m ns row gs m1 → LaR (ws.zip cs) m1 (some q) → Fo gs m1 j → Rn ws cs m1 (gs.take j ++ [(q.2.n, q.2.c, q.2.k)]) rw m2 → Pw ws cs m ns (row ++ rw) (gs.take j ++ [(q.2.n, q.2.c, q.2.k)]) m2
theorem rn_mz {ws : List V} {cs : List Cll} {m : List (Int × Int)} {ns : List Nm} {rw : List (V × Cll)} {m' : List (Int × Int)} (h : Rn ws cs m ns rw m') : rw.length + mz cs m' ≤ mz cs m := by
  obtain ⟨hs, m0, last, _, _, e, f, _⟩ := h
  have := fw_mz f
  rw [mz_congr e] at this
  exact this
theorem rn_some {ws : List V} {cs : List Cll} {m : List (Int × Int)} {gs : List Nm} {rw : List (V × Cll)} {m' : List (Int × Int)} {q : V × Cll} {j : Nat} (u : Rk1 (ws.zip cs)) (la : LaR (ws.zip cs) m (some q)) (fo : Fo gs m j) (h : Rn ws cs m (gs.take j ++ [(q.2.n, q.2.c, q.2.k)]) rw m') : 0 < rw.length := by
  obtain ⟨hs, m0, last, ⟨_, hm⟩, _, e, f, g⟩ := h
  obtain ⟨l1, l2, _⟩ := la
  have a0 : askb m0 q.2 = true := by rw [ct_askb e]; exact l2
  have qh : q.2.c ∈ hs := (hm _).mpr ⟨q.2, (List.of_mem_zip l1).2, rfl⟩
  refine fw_some f g ?_
  rw [nxo_new (fun k hk hj => ?_) fo.1 ?_]
  · exact ask_fst u l1 a0 qh
  · show ¬ (q.2.k ≤ ct m0 q.2.c)
    have := (ask_nm a0).2
    omega
  · show _ ≤ ct m0 _
    rw [e]
    exact fo.2.1 k hk hj
theorem cut_take (xs : List V) (k : Nat) (h : k ≤ xs.length) : cutV xs none (some (k : Int)) = xs.take k := by
  unfold cutV
  have e1 : HT.sIx xs.length 0 none = 0 := rfl
  have e2 : HT.sIx xs.length xs.length (some (k : Int)) = k := by
    show (if (k : Int) < 0 then ((k : Int) + (xs.length : Nat)).toNat else min (k : Int).toNat xs.length) = k
    rw [if_neg (by omega), Int.toNat_natCast]
    omega
  rw [e1, e2, List.drop_zero, Nat.sub_zero]
theorem nms_take {H : Hp} : ∀ {xs : List V} {ns : List Nm} (k : Nat), Nms H xs ns → Nms H (xs.take k) (ns.take k)
  | _, _, 0, _ => .nil
  | _, _, k + 1, .nil => .nil
  | _, _, k + 1, .cons r t => .cons r (nms_take k t)
theorem kd_nh : decide (("one" : Str) = "heard") = false := by decide +kernel
def sp_placed (K : PySem.W.Frag) (mg : Str → Option Value) : Sp := fun vs H Q _ => ∃ (d a b : Addr), vs = [.ref d, .ref a, .ref b] ∧ ∃ m ws cs xs ns, Rd H d (.dK (dI m)) ∧ Ck m ∧ SqL K H a ws ∧ Cls' K mg H ws cs ∧ cs.length ≤ 60 ∧ Rk1 (ws.zip cs) ∧ (∀ x ∈ cs, 0 ≤ x.c ∧ x.c < 63) ∧ (SqL K H b xs ∨ SqT K H b xs) ∧ Nms H xs ns ∧ ns.length ≤ 300 ∧
  ∀ H' t l g rw ys gs m', Same H H' → H l = none → H g = none → H' t = some (.tup [.ref l, .ref g]) → H' l = some (.lst ((rw : List (V × Cll)).map (·.1))) → H' g = some (.lst ys) → Nms H' ys gs → Pw ws cs m ns rw gs m' → LaR (ws.zip cs) m' none → Q (.ref t) H'
theorem sc_placed : FnScope ["counts", "calls", "places", "given", "told", "row", "call"] ["counts", "calls", "places"] (defScope s_placed) := ⟨rfl, rfl, rfl, by decide +kernel, rfl, by decide +kernel, by decide +kernel⟩
set_option maxHeartbeats 8000000 in
theorem ok_placed {f f_first_open f_Call_name f_run f_least_asking C_HeardCall C_OneCall C_OwnCall : Addr} {fd fd_first_open fd_Call_name fd_run fd_least_asking : FuncData} (F : Fun K "placed" "placed" s_placed f fd)
    (G_first_open : FnOk P w K mg base CX0 6 f_first_open fd_first_open ["places", "counts", "start"] (sp_first_open K)) (C_first_open : Cal K mg "first_open" f_first_open fd_first_open ["places", "counts", "start"])
    (G_Call_name : FnOk P w K mg base CX0 6 f_Call_name fd_Call_name ["self"] (sp_Call_name K)) (B_Call_name : Binds K fd_Call_name ["self"] [])
    (G_run : FnOk P w K mg base CX0 6 f_run fd_run ["counts", "calls", "places"] (sp_run K mg)) (C_run : Cal K mg "run" f_run fd_run ["counts", "calls", "places"])
    (G_least_asking : FnOk P w K mg base CX0 6 f_least_asking fd_least_asking ["calls", "counts"] (sp_least_asking K mg)) (C_least_asking : Cal K mg "least_asking" f_least_asking fd_least_asking ["calls", "counts"]) (h_list : mg "list" = none) (T_HeardCall : TCall K C_HeardCall) (T_OneCall : TCall K C_OneCall) (T_OwnCall : TCall K C_OwnCall) (m_HeardCall : mg "HeardCall" = some (.ref C_HeardCall)) (m_OneCall : mg "OneCall" = some (.ref C_OneCall)) (m_OwnCall : mg "OwnCall" = some (.ref C_OwnCall)) (mt_HeardCall_name : Meth K C_HeardCall "name" f_Call_name) (mt_OneCall_name : Meth K C_OneCall "name" f_Call_name) (mt_OwnCall_name : Meth K C_OwnCall "name" f_Call_name) : FnOk P w K mg base CX0 7 f fd ["counts", "calls", "places"] (sp_placed K mg) := by
  refine F.ok sc_placed (fun vs H Q E h => ?_) (fun cdv A outer s H vs Q E hr h => ?_)
  · obtain ⟨d, a, b, rfl, _⟩ := h
    rfl
  obtain ⟨d, a, b, rfl, h⟩ := h
  have hu64 := hr.units
  have hu0 := hr.units0
  have hu := hu_of hr
  refine ⟨_, (pss_cons (ps_set (i := 3) sc_placed.nd rfl (Or.inl rfl) (pe_callTy (call_listK (K := K) rfl) (by rfl) h_list PyProof.Rows.boot_list (pa_cons (pv 2) pa_nil)))
      (pss_cons (ps_set (i := 4) sc_placed.nd rfl (Or.inl rfl) (pcall G_run C_run hr (pa_cons (pv 0) (pa_cons (pv 1) (pa_cons (pv 3) pa_nil)))))
      (pss_cons (ps_set (i := 5) sc_placed.nd rfl (Or.inl rfl) (pe_ix (ix_tupK (K := K) rfl) (pv 4) pe_int (fun _ _ => rfl)))
      (pss_cons (ps_set (i := 6) sc_placed.nd rfl (Or.inl rfl) (pcall G_least_asking C_least_asking hr (pa_cons (pv 1) (pa_cons (pe_ix (ix_tupK (K := K) rfl) (pv 4) pe_int (fun _ _ => rfl)) pa_nil))))
      (pss_cons (ps_while PassesOwn.never (pt_cmpR op_notN (pv 6) pe_non (nomark _))
      (pss_cons (ps_set (i := 3) sc_placed.nd rfl (Or.inl rfl) (pe_op op_cat (pe_slice (sl_listK (K := K) rfl) (pv 3) po_none (po_some (pcall G_first_open C_first_open hr (pa_cons (pv 3) (pa_cons (pe_ix (ix_tupK (K := K) rfl) (pv 4) pe_int (fun _ _ => rfl)) (pa_cons pe_int pa_nil)))))) (pe_lst (pa_cons (pe_methS0 (MOk.cons T_OwnCall.cl mt_OwnCall_name G_Call_name B_Call_name (MOk.cons T_HeardCall.cl mt_HeardCall_name G_Call_name B_Call_name (MOk.cons T_OneCall.cl mt_OneCall_name G_Call_name B_Call_name MOk.nil))) (pv 6) hr) pa_nil))))
      (pss_cons (ps_set (i := 4) sc_placed.nd rfl (Or.inl rfl) (pcall G_run C_run hr (pa_cons (pe_ix (ix_tupK (K := K) rfl) (pv 4) pe_int (fun _ _ => rfl)) (pa_cons (pv 1) (pa_cons (pv 3) pa_nil)))))
      (pss_cons (ps_set (i := 5) sc_placed.nd rfl (Or.inl rfl) (pe_op op_cat (pv 5) (pe_ix (ix_tupK (K := K) rfl) (pv 4) pe_int (fun _ _ => rfl))))
      (pss_one (ps_set (i := 6) sc_placed.nd rfl (Or.inl rfl) (pcall G_least_asking C_least_asking hr (pa_cons (pv 1) (pa_cons (pe_ix (ix_tupK (K := K) rfl) (pv 4) pe_int (fun _ _ => rfl)) pa_nil)))))))))
      (pss_one (ps_ret (pe_tup (pa_cons (pv 5) (pa_cons (pv 3) pa_nil)))))))))), ?_⟩
  obtain ⟨m, ws, cs, xs, ns, hd, cm, hS, hc, lc, u, rg, hP, hn, ln, kk⟩ := h
  have lw : ws.length = cs.length := Paired.length hc
  have lx := hn.len
  clean_wf
  refine ⟨b, xs, rfl, hP, fun g0 hg0 => ?_⟩
  have s1 := same_upd (o := .lst xs) hg0
  have g1 : (upd H g0 (.lst xs)) g0 = some (.lst xs) := upd_same
  generalize upd H g0 (.lst xs) = H1 at s1 g1 ⊢
  clean_wf
  refine ⟨d, a, g0, rfl, m, ws, cs, xs, ns, same_rd s1 hd, cm, s1.seq hS, cls_up (.same s1) hc, lc, rg, .inl (SqL.of g1), hn.up (.same s1), fun H2 t l r hs m0 rw last m' s2 hl hr gt gl gr tm' hp1 hp2 tm0 e0 fw fe => ?_⟩
  have rn : Rn ws cs m ns rw m' := ⟨hs, m0, last, ⟨hp1, hp2⟩, tm0, e0, fw, fe⟩
  have gT : SqT K H2 t [.ref l, .ref r] := SqT.of gt
  have s02 := s1.trans s2
  clean_wf
  refine ⟨a, r, rfl, ws, cs, m', s02.seq hS, cls_up (.same s02) hc, lc, .inl gr, tm'.toCk, fun H3 o s3 la => ?_⟩
  have m60 : mz cs m ≤ 60 := Nat.le_trans (List.length_filter_le _ _) lc
  clean_wf
  refine ⟨fun M σ A => ∃ t l ll r g row ys gs mm o, M = mz cs mm ∧ σ = [some (.ref d), some (.ref a), some (.ref b), some (.ref g), some (.ref t), some (.ref l), some (fsv o)] ∧ Same H A ∧ H l = none ∧ H g = none ∧ A t = some (.tup [.ref ll, .ref r]) ∧ A l = some (.lst ((row : List (V × Cll)).map (·.1))) ∧ A r = some (.dK (dI mm)) ∧ Td mm ∧ A g = some (.lst ys) ∧ Nms A ys gs ∧ Pw ws cs m ns row gs mm ∧ LaR (ws.zip cs) mm o ∧ row.length + mz cs mm ≤ 60 ∧ gs.length ≤ ns.length + row.length, ⟨_, t, l, l, r, g0, rw, xs, ns, m', o, rfl, rfl, s02.trans s3, s1.free hl, hg0, s3 _ _ gt, s3 _ _ gl, s3 _ _ gr, tm', s3 _ _ (s2 _ _ g1), hn.up (.same (s02.trans s3)), .start rn, la, by have := rn_mz rn; omega, by omega⟩, ?_⟩
  clear la gT gt gl gr g1 hl hr hg0 rn fw fe
  rintro M σ A ⟨t, l, ll, r, g, row, ys, gs, mm, o, rfl, rfl, sA, hl, hg, gt, gl, gr, tmm, gg, nm, pw, la, q1, q2⟩
  have ly := nm.len
  cases o with
  | none =>
    clean_wf
    rw [show decide (fsv none = V.non) = true from decide_eq_true rfl]
    clean_wf
    intro t' A1 ht' s9 g9
    exact kk A1 t' l g row ys gs mm (sA.trans s9) hl hg g9 (s9 _ _ gl) (s9 _ _ gg) (nm.up (.same s9)) pw la
  | some q =>
    obtain ⟨v, n, kk2⟩ := id la
    obtain ⟨vq, x⟩ := q
    have cx : CllA K mg A vq x := zip_mem (cls_up (.same sA) hc) v
    obtain ⟨p, C, dx, tt, xs', rfl, hk, hT, hp, ht, hpx, hcs⟩ := id cx
    have ek := (ask_nm n).1
    obtain ⟨kd, nn, c, k, w, css⟩ := x
    have ek : kd = "one" := ek
    subst ek
    have hp : A p = some (.ins C dx (cfl (.int nn) (.int c) (.int k) (.int w) (.ref tt))) := hp
    have hk : KdC mg "one" C := hk
    rcases hk with ⟨z, _⟩ | ⟨z, _⟩ | ⟨_, e⟩
    · exact absurd z (of_decide_eq_false kd_no)
    · exact absurd z (of_decide_eq_false kd_nh)
    rw [m_OneCall] at e
    cases e
    rw [show fsv (some (V.ref p, (⟨"one", nn, c, k, w, css⟩ : Cll))) = V.ref p from rfl]
    clean_wf
    rw [show decide (V.ref p = V.non) = false from decide_eq_false (by intro z; cases z)]
    refine ite2 (fun _ => ?_) fun z => absurd rfl z
    refine ⟨_, fun _ _ z => z, ?_⟩
    have gTA : SqT K A t [.ref ll, .ref r] := SqT.of gt
    clean_wf
    refine ⟨g, r, 0, rfl, ys, mm, gs, .inl (SqL.of gg), .inl gr, nm, Nat.zero_le _, fun k _ h => absurd h (Nat.not_lt_zero _), fun j j1 j2 j3 => ?_⟩
    have hSg : SqL K A g ys := SqL.of gg
    clean_wf
    intro c1 A1 hc1 t1 gc1
    rw [cut_take _ _ (by omega)] at gc1
    have hp1 := t1 _ _ hp
    clean_wf
    refine ⟨p, rfl, _, dx, _, _, _, _, _, hT, hp1, fun A2 u2 t2 hu2 g2 => ?_⟩
    clean_wf
    intro e1 A3 he1 t3 g3
    have gc3 := t3 _ _ (t2 _ _ gc1)
    have lt := List.length_take_le j ys
    refine x_cat gc3 g3 (by rw [List.length_singleton]; omega) fun g' A4 hg' t4 g4 => ?_
    have tA4 : Same A A4 := t1.trans (t2.trans (t3.trans t4))
    have nm4 : Nms A4 (ys.take j ++ [.ref u2]) (gs.take j ++ [(nn, c, k)]) := Nms.snoc (nms_take j (nm.up (.same tA4))) ⟨u2, rfl, t4 _ _ (t3 _ _ g2)⟩
    have gT4 : SqT K A4 t [.ref ll, .ref r] := SqT.of (tA4 _ _ gt)
    have s04 := sA.trans tA4
    clean_wf
    refine ⟨r, a, g', rfl, mm, ws, cs, _, _, .inl (tA4 _ _ gr), tmm.toCk, s04.seq hS, cls_up (.same s04) hc, lc, rg, .inl (SqL.of g4), nm4, fun A5 t5' l5 r5 hs5 m5 rw5 last5 mm5 s5 hl5 hr5 gt5 gl5 gr5 tm5 hp5 hp6 tm6 e5 fw5 fe5 => ?_⟩
    have rn5 : Rn ws cs mm (gs.take j ++ [(nn, c, k)]) rw5 mm5 := ⟨hs5, m5, last5, ⟨hp5, hp6⟩, tm6, e5, fw5, fe5⟩
    have fo : Fo gs mm j := ⟨j1, j2, j3⟩
    have pos := rn_some u la fo rn5
    have mz5 := rn_mz rn5
    have gT5 : SqT K A5 t5' [.ref l5, .ref r5] := SqT.of gt5
    have gl05 := s5 _ _ (tA4 _ _ gl)
    clean_wf
    refine x_cat gl05 gl5 (by rw [List.length_map, List.length_map]; omega) fun l6 A6 hl6 t6 g6 => ?_
    rw [← List.map_append] at g6
    have gT6 : SqT K A6 t5' [.ref l5, .ref r5] := SqT.of (t6 _ _ gt5)
    have s06 := s04.trans (s5.trans t6)
    clean_wf
    refine ⟨a, r5, rfl, ws, cs, mm5, s06.seq hS, cls_up (.same s06) hc, lc, .inl (t6 _ _ gr5), tm5.toCk, fun A7 o7 s7 la7 => ?_⟩
    refine ⟨mz cs mm5, by omega, t5', l6, l5, r5, g', row ++ rw5, ys.take j ++ [.ref u2], gs.take j ++ [(nn, c, k)], mm5, o7, rfl, rfl, s06.trans s7, (s04.trans s5).free hl6, (sA.trans (t1.trans (t2.trans t3))).free hg', s7 _ _ (t6 _ _ gt5), s7 _ _ g6, s7 _ _ (t6 _ _ gr5), tm5, s7 _ _ (t6 _ _ (s5 _ _ g4)), nm4.up (.same (s5.trans (t6.trans s7))), .step pw la fo rn5, la7, ?_, ?_⟩
    · rw [List.length_append]
      omega
    · rw [List.length_append, List.length_append, List.length_singleton]
      have := List.length_take_le j gs
      omega
end
end K25


namespace K25
open PySem L2
abbrev s__law_cell_at : Stmt := top 33
abbrev s__law_hands : Stmt := top 34
abbrev s__law_start : Stmt := top 35
abbrev s_OwnCall_kind : Stmt := inClass (top 27) 1
abbrev s_HeardCall_kind : Stmt := inClass (top 28) 0
abbrev s_OneCall_kind : Stmt := inClass (top 29) 0
abbrev s_Call_told : Stmt := inClass (top 26) 7
section
variable {P : Program} {w : World} {K : PySem.W.Frag} {mg : Str → Option Value} {base : Heap}
def Clo (cs : List Cll) (ns : List Nm) (m : List (Int × Int)) : Prop := ∀ x ∈ cs, tkb m x (nxo ns m) = false
theorem frm_mem {hs : List Int} {last : Option Int} {h : Int} (hh : h ∈ hs) : h ∈ frm hs last := by
  cases last with
  | none => exact hh
  | some l =>
    show h ∈ frl hs l
    unfold frl
    rw [List.mem_append, List.mem_filter, List.mem_filter]
    by_cases z : l ≤ h
    · exact .inl ⟨hh, decide_eq_true z⟩
    · exact .inr ⟨hh, decide_eq_true (by omega)⟩
theorem clo_of {hs : List Int} {ws : List V} {cs : List Cll} {ns : List Nm} {last : Option Int} {m : List (Int × Int)} (hm : ∀ h, h ∈ hs ↔ ∃ x ∈ cs, x.c = h) (u : Rk1 (ws.zip cs)) (lw : ws.length = cs.length) (e : fst (frm hs last) (LkC (ws.zip cs)) m (nxo ns m) = none) : Clo cs ns m := by
  intro x hx
  obtain ⟨i, hi⟩ := List.getElem?_of_mem hx
  have hil := (List.getElem?_eq_some_iff.mp hi).1
  have hz : (ws[i]'(by omega), x) ∈ ws.zip cs := List.mem_of_getElem? (i := i) (by rw [List.getElem?_zip_eq_some]; exact ⟨List.getElem?_eq_getElem _, hi⟩)
  cases w : tkb m x (nxo ns m) with
  | false => rfl
  | true =>
    exfalso
    unfold fst at e
    have := List.findSome?_eq_none_iff.mp e _ (frm_mem ((hm x.c).mpr ⟨x, hx, rfl⟩))
    have ek : ct m x.c + 1 = x.k := by
      unfold tkb frb at w
      rw [Bool.and_eq_true, Bool.and_eq_true] at w
      have := of_decide_eq_true w.1.1
      omega
    unfold tk1 at this
    rw [ek, show LkC (ws.zip cs) x.c x.k = some (ws[i]'(by omega), x) from lkc_one u hz] at this
    have this : (if tkb m x (nxo ns m) = true then some (ws[i]'(by omega), x) else none) = none := this
    rw [if_pos w] at this
    cases this
def sp__law_cell_at (K : PySem.W.Frag) : Sp := fun vs H Q _ => ∃ (a : Addr) (k : Int), vs = [.ref a, .int k] ∧ ∃ ns : List Int, SqL K H a (ns.map V.int) ∧ 0 ≤ k ∧ ∀ c : Int, Q (.int c) H
theorem sc__law_cell_at : FnScope ["_law_script", "_law_k"] ["_law_script", "_law_k"] (defScope s__law_cell_at) := ⟨rfl, rfl, rfl, by decide +kernel, rfl, by decide +kernel, by decide +kernel⟩
theorem ok__law_cell_at {f  : Addr} {fd  : FuncData} (F : Fun K "_law_cell_at" "_law_cell_at" s__law_cell_at f fd) (h_len : mg "len" = none) : FnOk P w K mg base CX0 1 f fd ["_law_script", "_law_k"] (sp__law_cell_at K) := by
  refine F.ok sc__law_cell_at (fun vs H Q E h => ?_) (fun cdv A outer s H vs Q E hr h => ?_)
  · obtain ⟨a, k, rfl, _⟩ := h
    rfl
  obtain ⟨a, k, rfl, h⟩ := h
  have hu64 := hr.units
  have hu0 := hr.units0
  have hu := hu_of hr
  refine ⟨_, (pss_cons (ps_if (pt_cmpR op_lt (pv 1) (pe_callB (call_lenK (K := K) rfl) (by rfl) h_len PySem.boot_len (pa_cons (pv 0) pa_nil)) (nomark _)) (pss_one (ps_ret (pe_ix (ix_listK (K := K) rfl) (pv 0) (pv 1) (fun _ _ => rfl)))) pss_nil)
      (pss_one (ps_ret pe_int))), ?_⟩
  obtain ⟨ns, hS, h0, q⟩ := h
  clean_wf
  refine ite2 (fun h1 => ?_) fun h1 => ?_
  · have h1 : k < ((ns.map V.int).length : Nat) := of_decide_eq_true h1
    rw [List.length_map] at h1
    have hx : k.toNat < ns.length := by omega
    have hat : atI (ns.map V.int) k = some (V.int ns[k.toNat]) := atI_int h0 (by rw [List.getElem?_map, List.getElem?_eq_getElem hx]; rfl)
    clean_wf
    exact q _
  · clean_wf
    exact q _
def sp__law_hands (K : PySem.W.Frag) : Sp := fun vs H Q _ => ∃ (c : Int), vs = [.int c] ∧ ∀ H' l (hs : List Int), Same H H' → H l = none → H' l = some (.lst (hs.map V.int)) → hs.length = 4 → hs.Pairwise (· < ·) → (∀ h ∈ hs, 0 ≤ h ∧ h < 63) → Q (.ref l) H'
theorem sc__law_hands : FnScope ["_law_cell", "_law_hands_here", "_law_low", "_law_k", "_law_room"] ["_law_cell"] (defScope s__law_hands) := ⟨rfl, rfl, rfl, by decide +kernel, rfl, by decide +kernel, by decide +kernel⟩
theorem ok__law_hands {f  : Addr} {fd  : FuncData} (F : Fun K "_law_hands" "_law_hands" s__law_hands f fd) (h_range : mg "range" = none) : FnOk P w K mg base CX0 1 f fd ["_law_cell"] (sp__law_hands K) := by
  refine F.ok sc__law_hands (fun vs H Q E h => ?_) (fun cdv A outer s H vs Q E hr h => ?_)
  · obtain ⟨c, rfl, _⟩ := h
    rfl
  obtain ⟨c, rfl, h⟩ := h
  have hu64 := hr.units
  have hu0 := hr.units0
  have hu := hu_of hr
  refine ⟨_, (pss_cons (ps_set (i := 1) sc__law_hands.nd rfl (Or.inl rfl) (pe_lst pa_nil))
      (pss_cons (ps_set (i := 2) sc__law_hands.nd rfl (Or.inl rfl) pe_int)
      (pss_cons (ps_for PassesOwn.never rfl (pi_range1 rfl h_range (pa_cons pe_int pa_nil)) (pg_name (i := 3) sc__law_hands.nd rfl (Or.inl rfl))
      (pss_cons (ps_set (i := 4) sc__law_hands.nd rfl (Or.inl rfl) (pe_op op_sub (pe_op op_add pe_int (pv 3)) (pv 2)))
      (pss_cons (ps_expr (pe_appendK (K := K) rfl (pe_bm PySem.F.plainAttrs_list PySem.F.slot_list_append PySem.F.type_list_append mt_append (pv 1) (pa_cons (pe_op op_add (pv 2) (pe_op op_mod (pv 0) (pv 4))) pa_nil))))
      (pss_cons (ps_set (i := 0) sc__law_hands.nd rfl (Or.inl rfl) (pe_op op_fdivB (pv 0) (pv 4)))
      (pss_one (ps_set (i := 2) sc__law_hands.nd rfl (Or.inl rfl) (pe_op op_add (pe_ix (ix_listK (K := K) rfl) (pv 1) (pe_un un_neg pe_int) (fun _ _ => rfl)) pe_int)))))))
      (pss_one (ps_ret (pv 1)))))), ?_⟩
  clean_wf
  intro l H1 hl s1 g1
  clean_wf
  refine ⟨_, rfl, by decide, by decide, ?_⟩
  refine for_range (fun i σ A => ∃ v3 v4 c low hs, σ = [some (.int c), some (.ref l), some (.int low), v3, v4] ∧ Same H A ∧ A l = some (.lst ((hs : List Int).map V.int)) ∧ hs.length = i ∧ hs.Pairwise (· < ·) ∧ (∀ h ∈ hs, 0 ≤ h ∧ h < 63 ∧ h < low) ∧ 0 ≤ low ∧ low ≤ 59 + (i : Int)) ⟨none, none, c, 0, [], rfl, s1, g1, rfl, .nil, (fun _ z => nomatch z), Int.le_refl _, by omega⟩ ?_ ?_
  · rintro i σ A hi ⟨v3, v4, c, low, hs, rfl, sm, gl, ln, pw, rg, l0, l1⟩
    have i4 : (i : Int) < 4 := by omega
    have r1 : 0 < 60 + (0 + (i : Int)) - low := by omega
    have b0 := Int.emod_nonneg c (b := 60 + (0 + (i : Int)) - low) (by omega)
    have b1 := Int.emod_lt_of_pos c r1
    have ls : (hs.map V.int).length < sizeLine := small1000 (by rw [List.length_map]; omega)
    have dv : CDivB c (60 + (0 + (i : Int)) - low) := ⟨by omega, by omega⟩
    clean_wf
    intro A1 b1' g1'
    rw [show hs.map V.int ++ [V.int (low + c % (60 + (0 + (i : Int)) - low))] = (hs ++ [low + c % (60 + (0 + (i : Int)) - low)]).map V.int by rw [List.map_append]; rfl] at g1'
    have lst' : SqL K A1 l ((hs ++ [low + c % (60 + (0 + (i : Int)) - low)]).map V.int) := SqL.of g1'
    have hat : atI ((hs ++ [low + c % (60 + (0 + (i : Int)) - low)]).map V.int) (-1) = some (V.int (low + c % (60 + (0 + (i : Int)) - low))) := by
      rw [List.map_append]
      exact atI_last _ _
    clean_wf
    refine ⟨_, _, _, _, hs ++ [low + c % (60 + (0 + (i : Int)) - low)], rfl, b1'.same sm hl, g1', by rw [List.length_append, ln]; rfl, ?_, ?_, by omega, by push_cast; omega⟩
    · rw [List.pairwise_append]
      refine ⟨pw, List.pairwise_singleton _ _, fun a ha b hb => ?_⟩
      rw [List.mem_singleton.mp hb]
      have := rg a ha
      omega
    · intro h hh
      rcases List.mem_append.mp hh with z | z
      · have := rg h z
        omega
      · rw [List.mem_singleton.mp z]
        omega
  rintro σ A ⟨v3, v4, c, low, hs, rfl, sm, gl, ln, pw, rg, l0, l1⟩
  clean_wf
  exact h A l hs sm hl gl ln pw fun h hh => ⟨(rg h hh).1, (rg h hh).2.1⟩
theorem pow18p : (0 : Int) < (10 : Int) ^ (18 : Int).toNat := Int.pow_pos (by decide)
def sp__law_start (K : PySem.W.Frag) : Sp := fun vs H Q _ => ∃ (a : Addr) (c : Int), vs = [.ref a, .int c] ∧ ∃ hs : List Int, SqL K H a (hs.map V.int) ∧ hs.length = 4 ∧ (∀ h ∈ hs, 0 ≤ h ∧ h < 63) ∧ ∀ H' d m, Same H H' → H d = none → H' d = some (.dK (dI m)) → Ck m → Q (.ref d) H'
theorem sc__law_start : FnScope ["_law_hands_here", "_law_cell", "_law_found", "_law_k", "_law_way"] ["_law_hands_here", "_law_cell"] (defScope s__law_start) := ⟨rfl, rfl, rfl, by decide +kernel, rfl, by decide +kernel, by decide +kernel⟩
set_option maxHeartbeats 1000000 in
theorem ok__law_start {f  : Addr} {fd  : FuncData} (F : Fun K "_law_start" "_law_start" s__law_start f fd) (h_range : mg "range" = none) : FnOk P w K mg base CX0 1 f fd ["_law_hands_here", "_law_cell"] (sp__law_start K) := by
  refine F.ok sc__law_start (fun vs H Q E h => ?_) (fun cdv A outer s H vs Q E hr h => ?_)
  · obtain ⟨a, c, rfl, _⟩ := h
    rfl
  obtain ⟨a, c, rfl, h⟩ := h
  have hu64 := hr.units
  have hu0 := hr.units0
  have hu := hu_of hr
  refine ⟨_, (pss_cons (ps_set (i := 2) sc__law_start.nd rfl (Or.inl rfl) pe_dnewK)
      (pss_cons (ps_for PassesOwn.never rfl (pi_range1 rfl h_range (pa_cons pe_int pa_nil)) (pg_name (i := 3) sc__law_start.nd rfl (Or.inl rfl))
      (pss_cons (ps_set (i := 4) sc__law_start.nd rfl (Or.inl rfl) (pe_op op_mod (pe_op op_fdivB (pv 1) (pe_op op_add pe_int (pe_op op_mul pe_int (pv 3)))) pe_int))
      (pss_cons (ps_if (pt_cmpR op_eq (pv 4) pe_int (nomark _)) (pss_one (ps_dput hu (pv 2) (pe_ix (ix_listK (K := K) rfl) (pv 0) (pv 3) (fun _ _ => rfl)) (pe_op op_mod (pv 3) pe_int) rfl)) pss_nil)
      (pss_one (ps_if (pt_cmpR op_eq (pv 4) pe_int (nomark _)) (pss_one (ps_dput hu (pv 2) (pe_ix (ix_listK (K := K) rfl) (pv 0) (pv 3) (fun _ _ => rfl)) (pe_op op_mod (pe_op op_add (pv 1) (pe_op op_mul pe_int (pv 3))) (pe_op op_pow pe_int pe_int)) rfl)) pss_nil)))))
      (pss_one (ps_ret (pv 2))))), ?_⟩
  obtain ⟨hs, hS, lh, rg, kk⟩ := h
  have h18 := pow18p
  clean_wf
  intro d H1 hd s1 g1
  clean_wf
  refine ⟨_, rfl, by decide, by decide, ?_⟩
  refine for_range (fun i σ A => ∃ v3 v4 m, σ = [some (.ref a), some (.int c), some (.ref d), v3, v4] ∧ Same H A ∧ A d = some (.dK (dI m)) ∧ Ck m) ⟨none, none, [], rfl, s1, g1, Ck.nil⟩ ?_ ?_
  · rintro i σ A hi ⟨v3, v4, m, rfl, sm, gd, tm⟩
    have i4 : i < 4 := by omega
    have hx : hs[i]? = some hs[i] := List.getElem?_eq_getElem (by omega)
    have hr := rg _ (List.mem_of_getElem? hx)
    have hat : atI (hs.map V.int) (0 + (i : Int)) = some (V.int hs[i]) := by
      rw [Int.zero_add]
      exact atI_nat (by rw [List.getElem?_map, hx]; rfl)
    have hSA := sm.seq hS
    have dv : CDivB c (5 + 2 * (0 + (i : Int))) := ⟨by omega, by omega⟩
    have m2 : CMul 2 (0 + (i : Int)) := .inl ⟨by decide, by decide⟩
    have m7 : CMul 7 (0 + (i : Int)) := .inl ⟨by decide, by decide⟩
    have nd := tm.nd
    have lm := tm.len
    clean_wf
    refine x_seq ?_
    clean_wf
    refine ite2 (fun h1 => ?_) fun h1 => ?_
    · clean_wf
      intro B b1 g1'
      clean_wf
      refine ite2 (fun h2 => ?_) fun h2 => ?_
      · exfalso
        have h1 := of_decide_eq_true h1
        have h2 := of_decide_eq_true h2
        rw [h1] at h2
        cases h2
      · exact ⟨_, _, _, rfl, b1.same sm hd, g1', tm.put hr.1 hr.2 (Int.emod_nonneg _ (by decide))⟩
    · clean_wf
      refine ite2 (fun h2 => ?_) fun h2 => ?_
      · clean_wf
        intro B b1 g1'
        have := Int.emod_nonneg (c + 7 * (0 + (i : Int))) (b := (10 : Int) ^ (18 : Int).toNat) (by omega)
        exact ⟨_, _, _, rfl, b1.same sm hd, g1', tm.put hr.1 hr.2 (by omega)⟩
      · exact ⟨_, _, _, rfl, sm, gd, tm⟩
  rintro σ A ⟨v3, v4, m, rfl, sm, gd, tm⟩
  clean_wf
  exact kk A d m sm hd gd tm
theorem paired_snoc {α β : Type} {F : α → β → Prop} : ∀ {l : List α} {m : List β} {a : α} {b : β}, Paired F l m → F a b → Paired F (l ++ [a]) (m ++ [b])
  | _, _, _, _, .nil, h => .cons h .nil
  | _, _, _, _, .cons r t, h => .cons r (paired_snoc t h)
def TldA (H : Hp) (v : V) (x : Cll) : Prop := ∃ a t xs, v = .ref a ∧ H a = some (.tup [.int x.n, .int x.c, .int x.k, .str x.kd, .int x.w, .ref t]) ∧ H t = some (.tup xs) ∧ Prs H xs x.cs

structure Wf (x : Cll) : Prop where
  kd : x.kd = "own" ∨ x.kd = "heard" ∨ x.kd = "one"
  w : (if x.w < 0 then -x.w else x.w) < 10 ^ (60 : Int).toNat
  cs : Ck x.cs
  ow : x.kd = "own" → x.cs = []
  c0 : 0 ≤ x.c
  c1 : x.c < 63
abbrev Tls (H : Hp) : List V → List Cll → Prop := Paired (TldA H)
theorem TldA.up {H H' : Hp} (s : SmH H H') {v : V} {x : Cll} (h : TldA H v x) : TldA H' v x := by
  obtain ⟨a, t, xs, e1, e2, e3, e4⟩ := h
  exact ⟨a, t, xs, e1, s _ _ e2, s _ _ e3, e4.mono s⟩
theorem tls_up {H H' : Hp} (s : SmH H H') {vs : List V} {cs : List Cll} (h : Tls H vs cs) : Tls H' vs cs := Paired.mapP h fun _ _ z => z.up s

def tlD (x : Cll) : PyData := .tuple [.int x.n, .int x.c, .int x.k, .str x.kd, .int x.w, .tuple (x.cs.map prD)]
theorem TldA.dp {K : PySem.W.Frag} {H : Hp} {v : V} {x : Cll} (h : TldA H v x) : Dp K H v (tlD x) := by
  obtain ⟨a, t, xs, rfl, e2, e3, e4⟩ := h
  exact .tup (SqT.of e2) (.cons (.int _) (.cons (.int _) (.cons (.int _) (.cons (.str _) (.cons (.int _) (.cons (.tup (SqT.of e3) e4.dps) .nil))))))
theorem Tls.dps {K : PySem.W.Frag} {H : Hp} : ∀ {vs : List V} {cs : List Cll}, Tls H vs cs → Dps K H vs (cs.map tlD)
  | _, _, .nil => .nil
  | _, _, .cons r t => .cons r.dp (Tls.dps t)
theorem tl_lay {x : Cll} (wf : Wf x) : (tlD x).canLay0 = true := by
  have e : PyData.strOk x.kd = true := by
    rcases wf.kd with h | h | h <;> rw [h] <;> decide +kernel
  simp [tlD, PyData.canLay0, PyData.canLayAll0, prs_lay, e]
theorem tls_lay : ∀ {cs : List Cll}, (∀ x ∈ cs, Wf x) → PyData.canLayAll0 (cs.map tlD) = true
  | [], _ => rfl
  | p :: ns, h => by rw [List.map_cons, PyData.canLayAll0.eq_2, tl_lay (h p List.mem_cons_self), tls_lay fun x hx => h x (List.mem_cons_of_mem _ hx)]; rfl
theorem x_catT {K : PySem.W.Frag} {H : Hp} {Q : VK} {a b : Addr} {x : V} {xs ys : List V} {y : V} (h1 : H a = some (.tup (x :: xs))) (h2 : H b = some (.tup (y :: ys))) (hl : (x :: xs).length + (y :: ys).length ≤ 1000) (h : ∀ p H', H p = none → Same H H' → H' p = some (.tup (x :: xs ++ y :: ys)) → Q (.ref p) H') : rCatT K (.ref a) (.ref b) H Q :=
  ⟨a, b, _, _, rfl, rfl, SqT.of h1, SqT.of h2, List.cons_ne_nil _ _, Nat.le_of_lt (small1000 hl), fun z => absurd z (List.cons_ne_nil _ _), fun _ p hp => h p _ hp (same_upd hp) upd_same⟩
theorem tl_dep (x : Cll) : (tlD x).depth ≤ 60 := by
  have e : (tlD x).depth = PyData.depthAll [.int x.n, .int x.c, .int x.k, .str x.kd, .int x.w, .tuple (x.cs.map prD)] + 1 := rfl
  have e2 : PyData.depthAll [.int x.n, .int x.c, .int x.k, .str x.kd, .int x.w, .tuple (x.cs.map prD)] = max 0 (max 0 (max 0 (max 0 (max 0 (max (PyData.depthAll (x.cs.map prD) + 1) 0))))) := rfl
  have := prs_dep x.cs
  rw [e, e2]
  omega
theorem tl_dep3 (x : Cll) : (tlD x).depth ≤ 3 := by
  have e : (tlD x).depth = PyData.depthAll [.int x.n, .int x.c, .int x.k, .str x.kd, .int x.w, .tuple (x.cs.map prD)] + 1 := rfl
  have e2 : PyData.depthAll [.int x.n, .int x.c, .int x.k, .str x.kd, .int x.w, .tuple (x.cs.map prD)] = max 0 (max 0 (max 0 (max 0 (max 0 (max (PyData.depthAll (x.cs.map prD) + 1) 0))))) := rfl
  have := prs_dep x.cs
  rw [e, e2]
  omega
theorem sl6_03 {a b c d e f : V} : ¬ (HT.sIx [a, b, c, d, e, f].length 0 none = 0 ∧ HT.sIx [a, b, c, d, e, f].length [a, b, c, d, e, f].length (some 3) = [a, b, c, d, e, f].length) := by
  show ¬ (HT.sIx 6 0 none = 0 ∧ HT.sIx 6 6 (some 3) = 6)
  decide
theorem sl6_13 {a b c d e f : V} : ¬ (HT.sIx [a, b, c, d, e, f].length 0 (some 1) = 0 ∧ HT.sIx [a, b, c, d, e, f].length [a, b, c, d, e, f].length (some 3) = [a, b, c, d, e, f].length) := by
  show ¬ (HT.sIx 6 0 (some 1) = 0 ∧ HT.sIx 6 6 (some 3) = 6)
  decide
def sp_OwnCall_kind (K : PySem.W.Frag) : Sp := fun vs H Q _ => ∃ (p : Addr), vs = [.ref p] ∧ Q (.str "own") H
def sp_HeardCall_kind (K : PySem.W.Frag) : Sp := fun vs H Q _ => ∃ (p : Addr), vs = [.ref p] ∧ Q (.str "heard") H
def sp_OneCall_kind (K : PySem.W.Frag) : Sp := fun vs H Q _ => ∃ (p : Addr), vs = [.ref p] ∧ Q (.str "one") H
theorem sc_OwnCall_kind : FnScope ["self"] ["self"] (defScope s_OwnCall_kind) := ⟨rfl, rfl, rfl, by decide +kernel, rfl, by decide +kernel, by decide +kernel⟩
theorem ok_OwnCall_kind {f  : Addr} {fd  : FuncData} (F : Fun K "kind" "OwnCall.kind" s_OwnCall_kind f fd) : FnOk P w K mg base CX0 1 f fd ["self"] (sp_OwnCall_kind K) := by
  refine F.ok sc_OwnCall_kind (fun vs H Q E h => ?_) (fun cdv A outer s H vs Q E hr h => ?_)
  · obtain ⟨p, rfl, _⟩ := h
    rfl
  obtain ⟨p, rfl, h⟩ := h
  have hu64 := hr.units
  have hu0 := hr.units0
  have hu := hu_of hr
  refine ⟨_, (pss_one (ps_ret pe_str)), ?_⟩
  clean_wf
  exact h
theorem sc_HeardCall_kind : FnScope ["self"] ["self"] (defScope s_HeardCall_kind) := ⟨rfl, rfl, rfl, by decide +kernel, rfl, by decide +kernel, by decide +kernel⟩
theorem ok_HeardCall_kind {f  : Addr} {fd  : FuncData} (F : Fun K "kind" "HeardCall.kind" s_HeardCall_kind f fd) : FnOk P w K mg base CX0 1 f fd ["self"] (sp_HeardCall_kind K) := by
  refine F.ok sc_HeardCall_kind (fun vs H Q E h => ?_) (fun cdv A outer s H vs Q E hr h => ?_)
  · obtain ⟨p, rfl, _⟩ := h
    rfl
  obtain ⟨p, rfl, h⟩ := h
  have hu64 := hr.units
  have hu0 := hr.units0
  have hu := hu_of hr
  refine ⟨_, (pss_one (ps_ret pe_str)), ?_⟩
  clean_wf
  exact h
theorem sc_OneCall_kind : FnScope ["self"] ["self"] (defScope s_OneCall_kind) := ⟨rfl, rfl, rfl, by decide +kernel, rfl, by decide +kernel, by decide +kernel⟩
theorem ok_OneCall_kind {f  : Addr} {fd  : FuncData} (F : Fun K "kind" "OneCall.kind" s_OneCall_kind f fd) : FnOk P w K mg base CX0 1 f fd ["self"] (sp_OneCall_kind K) := by
  refine F.ok sc_OneCall_kind (fun vs H Q E h => ?_) (fun cdv A outer s H vs Q E hr h => ?_)
  · obtain ⟨p, rfl, _⟩ := h
    rfl
  obtain ⟨p, rfl, h⟩ := h
  have hu64 := hr.units
  have hu0 := hr.units0
  have hu := hu_of hr
  refine ⟨_, (pss_one (ps_ret pe_str)), ?_⟩
  clean_wf
  exact h
def sp_Call_told (K : PySem.W.Frag) (mg : Str → Option Value) : Sp := fun vs H Q _ => ∃ (v : V), vs = [v] ∧ ∃ x, CllA K mg H v x ∧ ∀ H' t, Same H H' → H t = none → TldA H' (.ref t) x → Q (.ref t) H'
theorem sc_Call_told : FnScope ["self"] ["self"] (defScope s_Call_told) := ⟨rfl, rfl, rfl, by decide +kernel, rfl, by decide +kernel, by decide +kernel⟩
set_option maxHeartbeats 2000000 in
theorem ok_Call_told {f f_OwnCall_kind f_HeardCall_kind f_OneCall_kind C_HeardCall C_OneCall C_OwnCall : Addr} {fd fd_OwnCall_kind fd_HeardCall_kind fd_OneCall_kind : FuncData} (F : Fun K "told" "Call.told" s_Call_told f fd)
    (G_OwnCall_kind : FnOk P w K mg base CX0 1 f_OwnCall_kind fd_OwnCall_kind ["self"] (sp_OwnCall_kind K)) (B_OwnCall_kind : Binds K fd_OwnCall_kind ["self"] [])
    (G_HeardCall_kind : FnOk P w K mg base CX0 1 f_HeardCall_kind fd_HeardCall_kind ["self"] (sp_HeardCall_kind K)) (B_HeardCall_kind : Binds K fd_HeardCall_kind ["self"] [])
    (G_OneCall_kind : FnOk P w K mg base CX0 1 f_OneCall_kind fd_OneCall_kind ["self"] (sp_OneCall_kind K)) (B_OneCall_kind : Binds K fd_OneCall_kind ["self"] []) (T_HeardCall : TCall K C_HeardCall) (T_OneCall : TCall K C_OneCall) (T_OwnCall : TCall K C_OwnCall) (m_HeardCall : mg "HeardCall" = some (.ref C_HeardCall)) (m_OneCall : mg "OneCall" = some (.ref C_OneCall)) (m_OwnCall : mg "OwnCall" = some (.ref C_OwnCall)) (mt_HeardCall_kind : Meth K C_HeardCall "kind" f_HeardCall_kind) (mt_OneCall_kind : Meth K C_OneCall "kind" f_OneCall_kind) (mt_OwnCall_kind : Meth K C_OwnCall "kind" f_OwnCall_kind) : FnOk P w K mg base CX0 2 f fd ["self"] (sp_Call_told K mg) := by
  refine F.ok sc_Call_told (fun vs H Q E h => ?_) (fun cdv A outer s H vs Q E hr h => ?_)
  · obtain ⟨v, rfl, _⟩ := h
    rfl
  obtain ⟨v, rfl, h⟩ := h
  have hu64 := hr.units
  have hu0 := hr.units0
  have hu := hu_of hr
  refine ⟨_, (pss_one (ps_ret (pe_tup (pa_cons (pe_fldK (K := K) rfl (pv 0) rfl) (pa_cons (pe_fldK (K := K) rfl (pv 0) rfl) (pa_cons (pe_fldK (K := K) rfl (pv 0) rfl) (pa_cons (pe_methS0 (MOk.cons T_OwnCall.cl mt_OwnCall_kind G_OwnCall_kind B_OwnCall_kind (MOk.cons T_HeardCall.cl mt_HeardCall_kind G_HeardCall_kind B_HeardCall_kind (MOk.cons T_OneCall.cl mt_OneCall_kind G_OneCall_kind B_OneCall_kind MOk.nil))) (pv 0) hr) (pa_cons (pe_fldK (K := K) rfl (pv 0) rfl) (pa_cons (pe_fldK (K := K) rfl (pv 0) rfl) pa_nil))))))))), ?_⟩
  obtain ⟨x, ⟨p, C, dx, t, xs, rfl, hk, hT, hp, ht, hx, hc⟩, kk⟩ := h
  obtain ⟨kd, n, c, k, w, cs⟩ := x
  have hk : KdC mg kd C := hk
  have hp : H p = some (.ins C dx (cfl (.int n) (.int c) (.int k) (.int w) (.ref t))) := hp
  have hx : Prs H xs cs := hx
  obtain ⟨cl, n1, n2, n3, n4, n5⟩ := id hT
  rcases hk with ⟨rfl, e⟩ | ⟨rfl, e⟩ | ⟨rfl, e⟩
  · rw [m_OwnCall] at e
    cases e
    clean_wf
    refine ⟨p, rfl, ?_⟩
    clean_wf
    intro u H1 hu1 s1 g1
    exact kk H1 u s1 hu1 ⟨u, t, xs, rfl, g1, s1 _ _ ht, hx.mono (SmH.same s1)⟩
  · rw [m_HeardCall] at e
    cases e
    clean_wf
    refine ⟨p, rfl, ?_⟩
    clean_wf
    intro u H1 hu1 s1 g1
    exact kk H1 u s1 hu1 ⟨u, t, xs, rfl, g1, s1 _ _ ht, hx.mono (SmH.same s1)⟩
  · rw [m_OneCall] at e
    cases e
    clean_wf
    refine ⟨p, rfl, ?_⟩
    clean_wf
    intro u H1 hu1 s1 g1
    exact kk H1 u s1 hu1 ⟨u, t, xs, rfl, g1, s1 _ _ ht, hx.mono (SmH.same s1)⟩
end
end K25


namespace K25
open PySem L2
abbrev s__law_causes : Stmt := top 36
abbrev s__law_calls : Stmt := top 37
section
variable {P : Program} {w : World} {K : PySem.W.Frag} {mg : Str → Option Value} {base : Heap}
def sp__law_causes (K : PySem.W.Frag) : Sp := fun vs H Q _ => ∃ (a d : Addr) (c : Int), vs = [.ref a, .ref d, .int c] ∧ ∃ hs : List Int, ∃ m, SqL K H a (hs.map V.int) ∧ hs.length = 4 ∧ hs.Pairwise (· < ·) ∧ (∀ h ∈ hs, 0 ≤ h ∧ h < 63) ∧ Rd H d (.dK (dI m)) ∧ Ck m ∧ ∀ H' t xs ps, Same H H' → H' t = some (.tup xs) → Prs H' xs ps → Ck ps → Q (.ref t) H'
theorem sc__law_causes : FnScope ["_law_hands_here", "_law_made", "_law_cell", "_law_found", "_law_hand", "_law_way", "_law_much"] ["_law_hands_here", "_law_made", "_law_cell"] (defScope s__law_causes) := ⟨rfl, rfl, rfl, by decide +kernel, rfl, by decide +kernel, by decide +kernel⟩
set_option maxHeartbeats 1000000 in
theorem ok__law_causes {f  : Addr} {fd  : FuncData} (F : Fun K "_law_causes" "_law_causes" s__law_causes f fd) (h_int : mg "int" = none) (h_tuple : mg "tuple" = none) : FnOk P w K mg base CX0 1 f fd ["_law_hands_here", "_law_made", "_law_cell"] (sp__law_causes K) := by
  refine F.ok sc__law_causes (fun vs H Q E h => ?_) (fun cdv A outer s H vs Q E hr h => ?_)
  · obtain ⟨a, d, c, rfl, _⟩ := h
    rfl
  obtain ⟨a, d, c, rfl, h⟩ := h
  have hu64 := hr.units
  have hu0 := hr.units0
  have hu := hu_of hr
  refine ⟨_, (pss_cons (ps_set (i := 3) sc__law_causes.nd rfl (Or.inl rfl) (pe_lst pa_nil))
      (pss_cons (ps_for PassesOwn.never rfl (pi_listK (K := K) rfl (pv 0)) (pg_name (i := 4) sc__law_causes.nd rfl (Or.inl rfl))
      (pss_cons (ps_set (i := 5) sc__law_causes.nd rfl (Or.inl rfl) (pe_op op_mod (pv 2) pe_int))
      (pss_cons (ps_set (i := 6) sc__law_causes.nd rfl (Or.inl rfl) (pe_op op_sub (pe_op op_add (pe_dget2 hu (pv 1) (pv 4) pe_int ⟨rfl, rfl, rfl, rfl⟩) (pe_callTy call_int1 (by rfl) h_int PyProof.Rows.boot_int (pa_cons (pe_cmpR op_eq (pv 5) pe_int (nomark _)) pa_nil))) (pe_callTy call_int1 (by rfl) h_int PyProof.Rows.boot_int (pa_cons (pe_cmpR op_eq (pv 5) pe_int (nomark _)) pa_nil))))
      (pss_cons (ps_if (PW.pt (pw_and (pt_cmpR op_gt (pv 5) pe_int (nomark _)) (pw_and1 (pt_cmpR op_gt (pv 6) pe_int (nomark _))))) (pss_one (ps_expr (pe_appendK (K := K) rfl (pe_bm PySem.F.plainAttrs_list PySem.F.slot_list_append PySem.F.type_list_append mt_append (pv 3) (pa_cons (pe_tup (pa_cons (pv 4) (pa_cons (pv 6) pa_nil))) pa_nil))))) pss_nil)
      (pss_one (ps_set (i := 2) sc__law_causes.nd rfl (Or.inl rfl) (pe_op op_fdiv (pv 2) pe_int)))))))
      (pss_one (ps_ret (pe_callTy (call_tupleK (K := K) rfl) (by rfl) h_tuple PyProof.Rows.boot_tuple (pa_cons (pv 3) pa_nil)))))), ?_⟩
  obtain ⟨hs, m, hS, lh, up, rg, hd, cm, kk⟩ := h
  clean_wf
  intro l H1 hl s1 g1
  have hS1 := s1.seq hS
  clean_wf
  refine for_list (xs := hs.map V.int) (fun i σ A => ∃ v4 v5 v6 c xs ps, σ = [some (.ref a), some (.ref d), some (.int c), some (.ref l), v4, v5, v6] ∧ Same H A ∧ A l = some (.lst xs) ∧ Prs A xs ps ∧ ps.length ≤ i ∧ (∀ p ∈ ps, 0 < p.2 ∧ p.1 ∈ hs.take i) ∧ (ps.map (·.1)).Nodup) ⟨none, none, none, c, [], [], rfl, s1, g1, .nil, Nat.le_refl _, (fun _ z => nomatch z), .nil⟩ (fun i σ A _ z => by obtain ⟨_, _, _, _, _, _, _, z, _⟩ := z; exact z.seq hS) ?_ ?_
  · rintro i x σ A hx ⟨v4, v5, v6, c, xs, ps, rfl, sm, gl, pr, lp, pp, nd⟩
    obtain ⟨h, hh, rfl⟩ := int_get hx
    have hdA := same_rd sm hd
    have hi := (List.getElem?_eq_some_iff.mp hh).1
    have hmem : h ∈ hs := List.mem_of_getElem? hh
    have hnt : h ∉ hs.take i := fun z => by
      obtain ⟨j, hj⟩ := List.getElem?_of_mem z
      rw [List.getElem?_take] at hj
      by_cases w : j < i
      · rw [if_pos w] at hj
        obtain ⟨hjl, ej⟩ := List.getElem?_eq_some_iff.mp hj
        obtain ⟨hil, ei⟩ := List.getElem?_eq_some_iff.mp hh
        have := List.pairwise_iff_getElem.mp up j i hjl hil w
        omega
      · rw [if_neg w] at hj; cases hj
    have lx := pr.len
    have ls : xs.length < sizeLine := small1000 (by omega)
    have c8 : CDivB c 8 := ⟨by decide, by decide⟩
    have no : ∀ v4 v5 v6, ∃ v4' v5' v6' c' xs' ps', [some (V.ref a), some (V.ref d), some (V.int (c / 8)), some (V.ref l), v4, v5, v6] = [some (V.ref a), some (V.ref d), some (V.int c'), some (V.ref l), v4', v5', v6'] ∧ Same H A ∧ A l = some (.lst xs') ∧ Prs A xs' ps' ∧ ps'.length ≤ i + 1 ∧ (∀ p ∈ ps', 0 < p.2 ∧ p.1 ∈ hs.take (i + 1)) ∧ (ps'.map (·.1)).Nodup := fun v4 v5 v6 =>
      ⟨v4, v5, v6, _, xs, ps, rfl, sm, gl, pr, by omega, fun p hp => ⟨(pp p hp).1, by rw [take_get hh]; exact List.mem_append_left _ (pp p hp).2⟩, nd⟩
    clean_wf
    refine .inr ⟨_, rfl, ?_⟩
    clean_wf
    refine .inr ⟨_, rfl, ?_⟩
    clean_wf
    refine x_seq ?_
    clean_wf
    generalize (lkI m h).getD 0 + (if decide (c % 8 = 7) = true then 1 else 0) - (if decide (c % 8 = 6) = true then 1 else 0) = mu
    refine ite2 (fun h1 => ?_) fun h1 => ?_
    · clean_wf
      refine ite2 (fun h2 => ?_) fun h2 => ?_
      · have h2 : 0 < mu := by simpa using h2
        clean_wf
        intro t A1 ht s1' g1'
        have gl1 := s1' _ _ gl
        clean_wf
        intro A2 b2 g2
        clean_wf
        have sH : SmH A A2 := (SmH.same s1').trans (SmH.but b2 gl1 (by intro _ z; cases z))
        refine ⟨_, _, _, _, _, ps ++ [(h, mu)], rfl, b2.same (sm.trans s1') hl, g2, Prs.snoc (pr.mono sH) ⟨t, rfl, b2.of gl1 g1' (by intro z; cases z)⟩, by rw [List.length_append]; exact Nat.succ_le_succ lp, fun p hp => ?_, ?_⟩
        · rw [take_get hh]
          rcases List.mem_append.mp hp with z | z
          · exact ⟨(pp p z).1, List.mem_append_left _ (pp p z).2⟩
          · rw [List.mem_singleton.mp z]
            exact ⟨h2, List.mem_append_right _ List.mem_cons_self⟩
        · rw [List.map_append, List.nodup_append]
          refine ⟨nd, by simp, fun x hx y hy => ?_⟩
          obtain ⟨p, hp, rfl⟩ := List.mem_map.mp hx
          have : y = h := by simpa using hy
          rw [this]
          intro z
          exact hnt (z ▸ (pp p hp).2)
      · clean_wf
        exact no _ _ _
    · clean_wf
      exact no _ _ _
  rintro σ A ⟨v4, v5, v6, c, xs, ps, rfl, sm, gl, pr, lp, pp, nd⟩
  clean_wf
  intro t A1 ht s1' g1'
  exact kk A1 t xs ps (sm.trans s1') g1' (pr.mono (SmH.same s1')) ⟨nd, fun p hp => by have := (pp p hp).1; omega, fun p hp => rg _ (List.mem_of_mem_take (pp p hp).2)⟩

def Inc (cs : List Cll) : Prop := cs.Pairwise fun x y => x.c = y.c → x.k ≠ y.k
theorem inc_snoc {cs : List Cll} {x : Cll} (u : Inc cs) (h : ∀ y ∈ cs, y.c = x.c → y.k < x.k) : Inc (cs ++ [x]) := by
  unfold Inc
  rw [List.pairwise_append]
  refine ⟨u, List.pairwise_singleton _ _, fun a ha b hb e => ?_⟩
  rw [List.mem_singleton.mp hb] at e ⊢
  have := h a ha e
  omega
theorem rk1_of {ws : List V} {cs : List Cll} (u : Inc cs) : Rk1 (ws.zip cs) := by
  intro q hq r hr e1 e2
  obtain ⟨i, hi⟩ := List.getElem?_of_mem hq
  obtain ⟨j, hj⟩ := List.getElem?_of_mem hr
  have hi2 := (List.getElem?_zip_eq_some.mp hi).2
  have hj2 := (List.getElem?_zip_eq_some.mp hj).2
  obtain ⟨il, ei⟩ := List.getElem?_eq_some_iff.mp hi2
  obtain ⟨jl, ej⟩ := List.getElem?_eq_some_iff.mp hj2
  rcases Nat.lt_trichotomy i j with w | w | w
  · have := List.pairwise_iff_getElem.mp u i j il jl w
    rw [ei, ej] at this
    exact absurd e2 (this e1)
  · rw [w, hj] at hi
    exact (Option.some.inj hi).symm
  · have := List.pairwise_iff_getElem.mp u j i jl il w
    rw [ei, ej] at this
    exact absurd e2.symm (this e1.symm)
def sp__law_calls (K : PySem.W.Frag) : Sp := fun vs H Q _ => ∃ (a : Addr) (n : Int) (d b : Addr), vs = [.ref a, .int n, .ref d, .ref b] ∧ ∃ hs : List Int, ∃ m, ∃ ns : List Int, SqL K H a (hs.map V.int) ∧ hs.length = 4 ∧ hs.Pairwise (· < ·) ∧ (∀ h ∈ hs, 0 ≤ h ∧ h < 63) ∧ Rd H d (.dK (dI m)) ∧ Ck m ∧ SqL K H b (ns.map V.int) ∧ ns.length ≤ 24 ∧
  ∀ H' t l o ws cs xs qs, Same H H' → H l = none → H o = none → H' t = some (.tup [.ref l, .ref o]) → H' l = some (.lst ws) → Tls H' ws cs → cs.length ≤ 24 → Inc cs → (∀ x ∈ cs, Wf x) → H' o = some (.lst xs) → Nms H' xs qs → qs.length ≤ 24 → Q (.ref t) H'
theorem sc__law_calls : FnScope ["_law_hands_here", "_law_number", "_law_start_here", "_law_cells", "_law_made", "_law_calls_here", "_law_ones", "_law_cell", "_law_hand", "_law_kind", "_law_causes_here", "_law_name"] ["_law_hands_here", "_law_number", "_law_start_here", "_law_cells"] (defScope s__law_calls) := ⟨rfl, rfl, rfl, by decide +kernel, rfl, by decide +kernel, by decide +kernel⟩
set_option maxHeartbeats 4000000 in
theorem ok__law_calls {f f__law_causes : Addr} {fd fd__law_causes : FuncData} (F : Fun K "_law_calls" "_law_calls" s__law_calls f fd)
    (G__law_causes : FnOk P w K mg base CX0 1 f__law_causes fd__law_causes ["_law_hands_here", "_law_made", "_law_cell"] (sp__law_causes K)) (C__law_causes : Cal K mg "_law_causes" f__law_causes fd__law_causes ["_law_hands_here", "_law_made", "_law_cell"]) (h_dict : mg "dict" = none) : FnOk P w K mg base CX0 2 f fd ["_law_hands_here", "_law_number", "_law_start_here", "_law_cells"] (sp__law_calls K) := by
  refine F.ok sc__law_calls (fun vs H Q E h => ?_) (fun cdv A outer s H vs Q E hr h => ?_)
  · obtain ⟨a, n, d, b, rfl, _⟩ := h
    rfl
  obtain ⟨a, n, d, b, rfl, h⟩ := h
  have hu64 := hr.units
  have hu0 := hr.units0
  have hu := hu_of hr
  refine ⟨_, (pss_cons (ps_set (i := 4) sc__law_calls.nd rfl (Or.inl rfl) (pe_callTy call_dict (by rfl) h_dict PyProof.Rows.boot_dict (pa_cons (pv 2) pa_nil)))
      (pss_cons (ps_set (i := 5) sc__law_calls.nd rfl (Or.inl rfl) (pe_lst pa_nil))
      (pss_cons (ps_set (i := 6) sc__law_calls.nd rfl (Or.inl rfl) (pe_lst pa_nil))
      (pss_cons (ps_for PassesOwn.never rfl (pi_listK (K := K) rfl (pv 3)) (pg_name (i := 7) sc__law_calls.nd rfl (Or.inl rfl))
      (pss_cons (ps_set (i := 8) sc__law_calls.nd rfl (Or.inl rfl) (pe_ix (ix_listK (K := K) rfl) (pv 0) (pe_op op_mod (pv 7) pe_int) (fun _ _ => rfl)))
      (pss_cons (ps_set (i := 9) sc__law_calls.nd rfl (Or.inl rfl) (pe_ix (ix_listK (K := K) rfl) (pe_lst (pa_cons pe_str (pa_cons pe_str (pa_cons pe_str (pa_cons pe_str pa_nil))))) (pe_op op_mod (pe_op op_fdiv (pv 7) pe_int) pe_int) (fun _ _ => rfl)))
      (pss_cons (ps_set (i := 10) sc__law_calls.nd rfl (Or.inl rfl) (pcall G__law_causes C__law_causes hr (pa_cons (pv 0) (pa_cons (pv 4) (pa_cons (pe_op op_fdiv (pv 7) pe_int) pa_nil)))))
      (pss_cons (ps_if (pt_cmpR op_eq (pv 9) pe_str (nomark _)) (pss_one (ps_set (i := 10) sc__law_calls.nd rfl (Or.inl rfl) (pe_tup pa_nil))) pss_nil)
      (pss_cons (ps_dput hu (pv 4) (pv 8) (pe_op op_add (pe_dget2 hu (pv 4) (pv 8) pe_int ⟨rfl, rfl, rfl, rfl⟩) pe_int) rfl)
      (pss_cons (ps_set (i := 11) sc__law_calls.nd rfl (Or.inl rfl) (pe_tup (pa_cons (pv 1) (pa_cons (pv 8) (pa_cons (pe_dget hu (pv 4) (pv 8) (fun _ _ => rfl)) pa_nil)))))
      (pss_cons (ps_if (pt_cmpR op_eq (pv 9) pe_str (nomark _)) (pss_one (ps_expr (pe_appendK (K := K) rfl (pe_bm PySem.F.plainAttrs_list PySem.F.slot_list_append PySem.F.type_list_append mt_append (pv 6) (pa_cons (pv 11) pa_nil))))) pss_nil)
      (pss_one (ps_if (pt_cmpR op_ne (pe_op op_mod (pe_op op_fdiv (pv 7) pe_int) pe_int) pe_int (nomark _)) (pss_one (ps_expr (pe_appendK (K := K) rfl (pe_bm PySem.F.plainAttrs_list PySem.F.slot_list_append PySem.F.type_list_append mt_append (pv 5) (pa_cons (pe_op (op_catTK (K := K) rfl) (pv 11) (pe_tup (pa_cons (pv 9) (pa_cons (pe_op op_mod (pe_op op_fdiv (pv 7) pe_int) (pe_op op_pow pe_int pe_int)) (pa_cons (pv 10) pa_nil))))) pa_nil))))) pss_nil))))))))))
      (pss_one (ps_ret (pe_tup (pa_cons (pv 5) (pa_cons (pv 6) pa_nil))))))))), ?_⟩
  obtain ⟨hs, m, ns, hS, lh, up, rg, hd, cm, hN, ln, kk⟩ := h
  clean_wf
  intro dm H1 hdm s1 g1
  clean_wf
  intro l H2 hl s2 g2
  clean_wf
  intro o H3 ho s3 g3
  have s02 := s1.trans s2
  have s03 := s02.trans s3
  have hN3 := s03.seq hN
  have hl0 : H l = none := s1.free hl
  have ho0 : H o = none := s02.free ho
  have nlm : l ≠ dm := fun z => by rw [z, g1] at hl; cases hl
  have nom : o ≠ dm := fun z => by rw [z, s2 _ _ g1] at ho; cases ho
  have nol : o ≠ l := fun z => by rw [z, g2] at ho; cases ho
  clean_wf
  refine for_list (xs := ns.map V.int) (fun i σ A => ∃ v7 v8 v9 v10 v11 ws cs xs qs mm, σ = [some (.ref a), some (.int n), some (.ref d), some (.ref b), some (.ref dm), some (.ref l), some (.ref o), v7, v8, v9, v10, v11] ∧ Same H A ∧ A l = some (.lst ws) ∧ A o = some (.lst xs) ∧ A dm = some (.dK (dI mm)) ∧ Ck mm ∧ Tls A ws cs ∧ cs.length ≤ i ∧ Nms A xs qs ∧ qs.length ≤ i ∧ Inc cs ∧ (∀ x ∈ cs, Wf x ∧ x.k ≤ ct mm x.c)) ⟨none, none, none, none, none, [], [], [], [], m, rfl, s03, s3 _ _ g2, g3, s3 _ _ (s2 _ _ g1), cm, .nil, Nat.le_refl _, .nil, Nat.le_refl _, .nil, (fun _ z => nomatch z)⟩ (fun i σ A _ z => by obtain ⟨_, _, _, _, _, _, _, _, _, _, _, z, _⟩ := z; exact z.seq hN) ?_ ?_
  · rintro i x σ A hx ⟨v7, v8, v9, v10, v11, ws, cs, xs, qs, mm, rfl, sm, gl, go, gm, cmm, hc, lc, nq, lq, u, rk⟩
    obtain ⟨c, hh, rfl⟩ := int_get hx
    have hi := (List.getElem?_eq_some_iff.mp hh).1
    have lw : ws.length = cs.length := Paired.length hc
    have lx := nq.len
    have c40 := Int.emod_nonneg c (show (4 : Int) ≠ 0 by decide)
    have c41 := Int.emod_lt_of_pos c (show (0 : Int) < 4 by decide)
    have hx4 : (c % 4).toNat < hs.length := by omega
    obtain ⟨h, hhs⟩ : ∃ h, hs[(c % 4).toNat]? = some h := ⟨_, List.getElem?_eq_getElem hx4⟩
    have hr := rg h (List.mem_of_getElem? hhs)
    have hat : atI (hs.map V.int) (c % 4) = some (V.int h) := atI_int c40 (by rw [List.getElem?_map, hhs]; rfl)
    obtain ⟨kd, hkd, ekd⟩ : ∃ kd, atI [V.str "own", V.str "heard", V.str "one", V.str "one"] (c / 4 % 4) = some (V.str kd) ∧ (kd = "own" ∨ kd = "heard" ∨ kd = "one") := by
      have k0 := Int.emod_nonneg (c / 4) (show (4 : Int) ≠ 0 by decide)
      have k1 := Int.emod_lt_of_pos (c / 4) (show (0 : Int) < 4 by decide)
      generalize c / 4 % 4 = j at k0 k1 ⊢
      rcases (by omega : j = 0 ∨ j = 1 ∨ j = 2 ∨ j = 3) with rfl | rfl | rfl | rfl
      · exact ⟨_, rfl, .inl rfl⟩
      · exact ⟨_, rfl, .inr (.inl rfl)⟩
      · exact ⟨_, rfl, .inr (.inr rfl)⟩
      · exact ⟨_, rfl, .inr (.inr rfl)⟩
    have hSA := sm.seq hS
    clean_wf
    intro k0 A1 hk0 t1 gk1
    have sk1 : SqL K A1 k0 [V.str "own", V.str "heard", V.str "one", V.str "one"] := SqL.of gk1
    have gm1 := t1 _ _ gm
    clean_wf
    refine ⟨a, dm, c / 128, rfl, hs, mm, t1.seq hSA, lh, up, rg, .inl gm1, cmm, fun A2 t ys ps t2 gt pr ck => ?_⟩
    have t12 := t1.trans t2
    refine x_cut (fun σ' A3 => ∃ t ys ps, σ' = [some (.ref a), some (.int n), some (.ref d), some (.ref b), some (.ref dm), some (.ref l), some (.ref o), some (.int c), some (.int h), some (.str kd), some (.ref t), v11] ∧ Same A A3 ∧ A3 t = some (.tup ys) ∧ Prs A3 ys ps ∧ Ck ps ∧ (kd = "own" → ps = [])) ?_ fun N rest => ?_
    · rintro σ' A3 ⟨t, ys, ps, rfl, t3, gt, pr, ck, ow⟩
      have gm3 := t3 _ _ gm
      have nd := cmm.nd
      have lm := cmm.len
      clean_wf
      intro A4 b4 g4
      have hg4 : lkI (putI mm h (ct mm h + 1)) h = some (ct mm h + 1) := lk_put_same _ _ _
      have gl4 := b4.at nlm (t3 _ _ gl)
      have go4 := b4.at nom (t3 _ _ go)
      have m4 : SmH A A4 := (SmH.same t3).trans (SmH.but b4 gm3 (by intro _ z; cases z))
      have gt4 : A4 t = some (.tup ys) := b4.of gm3 gt (by intro z; cases z)
      have pr4 : Prs A4 ys ps := pr.mono (SmH.but b4 gm3 (by intro _ z; cases z))
      have sm4 : Same H A4 := b4.same (sm.trans t3) hdm
      clean_wf
      intro q A5 hq t5 g5
      refine x_cut (fun σ' A6 => ∃ xs qs, σ' = [some (.ref a), some (.int n), some (.ref d), some (.ref b), some (.ref dm), some (.ref l), some (.ref o), some (.int c), some (.int h), some (.str kd), some (.ref t), some (.ref q)] ∧ Same H A6 ∧ SmH A5 A6 ∧ A6 l = some (.lst ws) ∧ A6 dm = some (.dK (dI (putI mm h (ct mm h + 1)))) ∧ A6 o = some (.lst xs) ∧ Nms A6 xs qs ∧ qs.length ≤ i + 1) ?_ fun N rest => ?_
      · rintro σ' A6 ⟨xs, qs, rfl, sm6, m6, gl6, gm6, go6, nq6, lq6⟩
        have g56 := m6 _ _ g5
        have gt6 := m6 _ _ (t5 _ _ gt4)
        have pr6 : Prs A6 ys ps := pr4.mono ((SmH.same t5).trans m6)
        have h60 : (0 : Int) < (10 : Int) ^ (60 : Int).toNat := Int.pow_pos (by decide)
        have cn := cmm.ct h
        have cmp := cmm.put hr.1 hr.2 (show 0 ≤ ct mm h + 1 by omega)
        have rk6 : ∀ x ∈ cs, Wf x ∧ x.k ≤ ct (putI mm h (ct mm h + 1)) x.c := fun y hy => by
          obtain ⟨r1, r3⟩ := rk y hy
          refine ⟨r1, ?_⟩
          rw [ct_put]
          by_cases w : y.c = h
          · rw [if_pos w]; rw [w] at r3; omega
          · rw [if_neg w]; exact r3
        have m06 : SmH A A6 := m4.trans ((SmH.same t5).trans m6)
        clean_wf
        refine ite2 (fun _ => ?_) fun _ => ?_
        · clean_wf
          intro z1 A7 hz1 t7 g7
          have gt7 := t7 _ _ gt6
          clean_wf
          refine x_catT (t7 _ _ g56) g7 (by show 3 + 3 ≤ 1000; omega) fun z2 A8 hz2 t8 g8 => ?_
          have gl8 := t8 _ _ (t7 _ _ gl6)
          have ls : ws.length < sizeLine := small1000 (by omega)
          clean_wf
          intro A9 b9 g9
          have m89 : SmH A8 A9 := SmH.but b9 gl8 (by intro _ z; cases z)
          have m69 : SmH A6 A9 := (SmH.same (t7.trans t8)).trans m89
          have wb : (if c / 3 % 10 ^ (60 : Int).toNat < 0 then -(c / 3 % 10 ^ (60 : Int).toNat) else c / 3 % 10 ^ (60 : Int).toNat) < (10 : Int) ^ (60 : Int).toNat := by
            have b0 := Int.emod_nonneg (c / 3) (b := (10 : Int) ^ (60 : Int).toNat) (by omega)
            have b1 := Int.emod_lt_of_pos (c / 3) h60
            rw [if_neg (by omega)]
            exact b1
          refine ⟨_, _, _, _, _, ws ++ [.ref z2], cs ++ [⟨kd, n, h, ct mm h + 1, c / 3 % 10 ^ (60 : Int).toNat, ps⟩], xs, qs, putI mm h (ct mm h + 1), rfl, b9.same (sm6.trans (t7.trans t8)) hl0, g9, b9.at nol (t8 _ _ (t7 _ _ go6)), b9.at nlm.symm (t8 _ _ (t7 _ _ gm6)), cmp, ?_, by rw [List.length_append]; exact Nat.succ_le_succ lc, nq6.up m69, lq6, inc_snoc u fun y hy e => ?_, fun y hy => ?_⟩
          · exact paired_snoc (tls_up (m06.trans m69) hc) ⟨z2, t, ys, rfl, m89 _ _ g8, m89 _ _ (t8 _ _ gt7), pr6.mono m69⟩
          · have e : y.c = h := e
            have := (rk y hy).2
            rw [e] at this
            show y.k < ct mm h + 1
            omega
          · rcases List.mem_append.mp hy with z | z
            · exact rk6 y z
            · obtain rfl := List.mem_singleton.mp z
              refine ⟨⟨ekd, wb, ck, ow, hr.1, hr.2⟩, ?_⟩
              rw [ct_put, if_pos rfl]
              exact Int.le_refl _
        · exact ⟨_, _, _, _, _, ws, cs, xs, qs, putI mm h (ct mm h + 1), rfl, sm6, gl6, go6, gm6, cmp, tls_up m06 hc, by omega, nq6, lq6, u, rk6⟩
      · have gl5 := t5 _ _ gl4
        have go5 := t5 _ _ go4
        have gm5 := t5 _ _ g4
        have nq5 : Nms A5 xs qs := nq.up (m4.trans (SmH.same t5))
        have ls : xs.length < sizeLine := small1000 (by omega)
        clean_wf
        refine ite2 (fun _ => ?_) fun _ => ?_
        · clean_wf
          intro A6 b6 g6
          have m6 : SmH A5 A6 := SmH.but b6 go5 (by intro _ z; cases z)
          exact rest _ _ ⟨xs ++ [.ref q], qs ++ [(n, h, ct mm h + 1)], rfl, b6.same (sm4.trans t5) ho0, m6, b6.at nol.symm gl5, b6.at nom.symm gm5, g6, Nms.snoc (nq5.up m6) ⟨q, rfl, m6 _ _ g5⟩, by rw [List.length_append]; exact Nat.succ_le_succ lq⟩
        · exact rest _ _ ⟨xs, qs, rfl, sm4.trans t5, .refl _, gl5, gm5, go5, nq5, by omega⟩
    · clean_wf
      refine ite2 (fun h1 => ?_) fun h1 => ?_
      · clean_wf
        intro t' A3 ht' t3 g3'
        exact rest _ _ ⟨t', [], [], rfl, t12.trans t3, g3', .nil, Ck.nil, fun _ => rfl⟩
      · exact rest _ _ ⟨t, ys, ps, rfl, t12, gt, pr, ck, fun z => absurd (decide_eq_true z) h1⟩
  rintro σ A ⟨v7, v8, v9, v10, v11, ws, cs, xs, qs, mm, rfl, sm, gl, go, gm, cmm, hc, lc, nq, lq, u, rk⟩
  rw [List.length_map] at lc lq
  clean_wf
  intro t A1 ht t1 g1'
  exact kk A1 t l o ws cs xs qs (sm.trans t1) hl0 ho0 g1' (t1 _ _ gl) (tls_up (.same t1) hc) (by omega) u (fun x hx => (rk x hx).1) (t1 _ _ go) (nq.up (.same t1)) (by omega)
end
end K25


namespace K25
open PySem L2
abbrev s__law_by_count : Stmt := top 38
abbrev s__law_places : Stmt := top 39
section
variable {P : Program} {w : World} {K : PySem.W.Frag} {mg : Str → Option Value} {base : Heap}
def sp__law_by_count (K : PySem.W.Frag) : Sp := fun vs H Q _ => ∃ (v : V), vs = [v] ∧ ∃ q : Nm, NmAt H v q ∧ ∀ H' t, Same H H' → H' t = some (.tup [.int q.2.2, .int q.2.1]) → Q (.ref t) H'
theorem sc__law_by_count : FnScope ["_law_name"] ["_law_name"] (defScope s__law_by_count) := ⟨rfl, rfl, rfl, by decide +kernel, rfl, by decide +kernel, by decide +kernel⟩
theorem ok__law_by_count {f  : Addr} {fd  : FuncData} (F : Fun K "_law_by_count" "_law_by_count" s__law_by_count f fd) : FnOk P w K mg base CX0 1 f fd ["_law_name"] (sp__law_by_count K) := by
  refine F.ok sc__law_by_count (fun vs H Q E h => ?_) (fun cdv A outer s H vs Q E hr h => ?_)
  · obtain ⟨v, rfl, _⟩ := h
    rfl
  obtain ⟨v, rfl, h⟩ := h
  have hu64 := hr.units
  have hu0 := hr.units0
  have hu := hu_of hr
  refine ⟨_, (pss_one (ps_ret (pe_tup (pa_cons (pe_ix (ix_tupK (K := K) rfl) (pv 0) pe_int (fun _ _ => rfl)) (pa_cons (pe_ix (ix_tupK (K := K) rfl) (pv 0) pe_int (fun _ _ => rfl)) pa_nil))))), ?_⟩
  obtain ⟨q, ⟨b, rfl, hb⟩, kk⟩ := h
  have hT : SqT K H b [.int q.1, .int q.2.1, .int q.2.2] := SqT.of hb
  clean_wf
  intro t H1 ht s1 g1
  exact kk H1 t s1 g1
def nmk (q : Nm) : List Int := [q.1, q.2.1, q.2.2]
theorem nms_keys {K : PySem.W.Frag} {H : Hp} : ∀ {xs : List V} {ms : List Nm}, Nms H xs ms → Paired (fun v k => k ≠ [] ∧ ∃ t, v = .ref t ∧ SqT K H t (k.map V.int)) xs (ms.map nmk)
  | _, _, .nil => .nil
  | _, _, .cons ⟨a, e1, e2⟩ t => .cons ⟨by simp [nmk], a, e1, SqT.of e2⟩ (nms_keys t)
theorem nms_perm {H : Hp} : ∀ {xs ws : List V} {ms : List Nm}, Nms H xs ms → ws.Perm xs → ∃ ms', Nms H ws ms' ∧ ms'.length = ms.length := by
  intro xs ws ms h p
  induction p generalizing ms with
  | nil => exact ⟨ms, h, rfl⟩
  | cons x p ih =>
    cases h with
    | cons r t =>
      obtain ⟨ms', a, b⟩ := ih t
      exact ⟨_ :: ms', .cons r a, by rw [List.length_cons, List.length_cons, b]⟩
  | swap x y l =>
    cases h with
    | cons r t =>
      cases t with
      | cons r2 t2 => exact ⟨_, .cons r2 (.cons r t2), rfl⟩
  | trans p q ih1 ih2 =>
    obtain ⟨ms1, a, b⟩ := ih2 h
    obtain ⟨ms2, c, d⟩ := ih1 a
    exact ⟨ms2, c, d.trans b⟩
def sp__law_places (K : PySem.W.Frag) : Sp := fun vs H Q _ => ∃ (E : Addr) (c : Int), vs = [.ref E, .int c] ∧ ∃ ys ns, H E = some (.lst ys) ∧ Nms H ys ns ∧ ns.length ≤ 60 ∧ ∀ H' l xs ns, Same H H' → H l = none → H' l = some (.lst xs) → Nms H' xs ns → ns.length ≤ 60 → Q (.ref l) H'
theorem sc__law_places : FnScope ["_law_ones", "_law_cell", "_law_found", "_law_k"] ["_law_ones", "_law_cell"] (defScope s__law_places) := ⟨rfl, rfl, rfl, by decide +kernel, rfl, by decide +kernel, by decide +kernel⟩
set_option maxHeartbeats 4000000 in
theorem ok__law_places {f f__law_by_count : Addr} {fd fd__law_by_count : FuncData} (F : Fun K "_law_places" "_law_places" s__law_places f fd)
    (G__law_by_count : FnOk P w K mg base CX0 1 f__law_by_count fd__law_by_count ["_law_name"] (sp__law_by_count K)) (C__law_by_count : Cal K mg "_law_by_count" f__law_by_count fd__law_by_count ["_law_name"]) (h_len : mg "len" = none) (h_range : mg "range" = none) (h_sorted : mg "sorted" = none) : FnOk P w K mg base CX0 3 f fd ["_law_ones", "_law_cell"] (sp__law_places K) := by
  refine F.ok sc__law_places (fun vs H Q E h => ?_) (fun cdv A outer s H vs Q E hr h => ?_)
  · obtain ⟨E, c, rfl, _⟩ := h
    rfl
  obtain ⟨E, c, rfl, h⟩ := h
  have hu64 := hr.units
  have hu0 := hr.units0
  have hu := hu_of hr
  refine ⟨_, (pss_cons (ps_set (i := 2) sc__law_places.nd rfl (Or.inl rfl) (pe_lst pa_nil))
      (pss_cons (ps_for PassesOwn.never rfl (pi_range1 rfl h_range (pa_cons (pe_callB (call_lenK (K := K) rfl) (by rfl) h_len PySem.boot_len (pa_cons (pv 0) pa_nil)) pa_nil)) (pg_name (i := 3) sc__law_places.nd rfl (Or.inl rfl))
      (pss_one (ps_if (pt_cmpR op_eq (pe_op op_and (pe_op op_shr (pe_op op_fdiv (pv 1) pe_int) (pv 3)) pe_int) pe_int (nomark _)) (pss_one (ps_expr (pe_appendK (K := K) rfl (pe_bm PySem.F.plainAttrs_list PySem.F.slot_list_append PySem.F.type_list_append mt_append (pv 2) (pa_cons (pe_ix (ix_listK (K := K) rfl) (pv 0) (pv 3) (fun _ _ => rfl)) pa_nil))))) pss_nil)))
      (pss_cons (ps_if (pt_cmpR op_eq (pe_op op_mod (pv 1) pe_int) pe_int (nomark _)) (pss_one (ps_ret (pe_callB call_sortedTP (by rfl) h_sorted PyProof.Rows.boot_sorted (pa_cons (pv 2) pa_nil)))) pss_nil)
      (pss_cons (ps_if (pt_cmpR op_eq (pe_op op_mod (pv 1) pe_int) pe_int (nomark _)) (pss_one (ps_ret (pe_sortkey (K := K) rfl (pa_cons (pv 2) pa_nil) (by rfl) h_sorted G__law_by_count C__law_by_count.mg C__law_by_count.bd (by rfl) hr))) pss_nil)
      (pss_one (ps_ret (pv 2))))))), ?_⟩
  obtain ⟨ys, ns, gE, nm, ln, kk⟩ := h
  have ly := nm.len
  have sE : SqL K H E ys := SqL.of gE
  clean_wf
  intro l A1 hl s1 g1
  have hl0 := hl
  have sE1 := s1.seq sE
  have gE1 := s1 _ _ gE
  have nEl : E ≠ l := fun z => by rw [z] at gE; rw [gE] at hl; cases hl
  clean_wf
  refine ⟨_, rfl, by omega, by omega, ?_⟩
  refine for_range (fun i σ B => ∃ v4 xs ms, σ = [some (.ref E), some (.int c), some (.ref l), v4] ∧ Same H B ∧ B E = some (.lst ys) ∧ Nms B ys ns ∧ B l = some (.lst xs) ∧ Nms B xs ms ∧ ms.length ≤ i) ⟨none, [], [], rfl, s1, gE1, nm.up (.same s1), g1, .nil, Nat.le_refl _⟩ ?_ ?_
  · rintro i σ B hi ⟨v4, xs, ms, rfl, sB, gEB, nmB, gl, nx, lm⟩
    have hi' : i < ns.length := by omega
    obtain ⟨x, hx, na⟩ := nmB.at hi'
    have sEB : SqL K B E ys := SqL.of gEB
    have hat : atI ys (0 + (i : Int)) = some x := by
      rw [Int.zero_add]
      exact atI_nat hx
    have lx := nx.len
    have ls : xs.length < sizeLine := small1000 (by omega)
    clean_wf
    refine ite2 (fun _ => ?_) fun _ => ?_
    · clean_wf
      intro B1 b1 g1'
      have sH : SmH B B1 := SmH.but b1 gl (by intro _ z; cases z)
      exact ⟨_, xs ++ [x], ms ++ [ns[i]], rfl, b1.same sB hl0, b1.at nEl gEB, nmB.up sH, g1', Nms.snoc (nx.up sH) (na.up sH), by rw [List.length_append]; exact Nat.succ_le_succ lm⟩
    · exact ⟨_, xs, ms, rfl, sB, gEB, nmB, gl, nx, by omega⟩
  rintro σ B ⟨v4, xs, ms, rfl, sB, gEB, nmB, gl, nx, lm⟩
  rw [show ((ys.length : Nat) : Int).toNat = ys.length from Int.toNat_natCast _] at lm
  have lx := nx.len
  refine x_seq ?_
  clean_wf
  have fin : ∀ l' ws' B', B l' = none → ws'.Perm xs → Same B B' → B' l' = some (.lst ws') → Q (.ref l') B' := fun l' ws' B' h0 wp sm' g' => by
    obtain ⟨ms', n1, n2⟩ := nms_perm nx wp
    exact kk B' l' ws' ms' (sB.trans sm') (sB.free h0) g' (n1.up (.same sm')) (by omega)
  refine ite2 (fun _ => ?_) fun _ => ?_
  · clean_wf
    refine ⟨l, xs, ms.map nmk, rfl, SqL.of gl, by omega, nms_keys nx, fun l' ws' h0 wp => ?_⟩
    exact fin l' ws' _ h0 wp (same_upd h0) upd_same
  · refine x_seq ?_
    clean_wf
    refine ite2 (fun _ => ?_) fun _ => ?_
    · clean_wf
      refine ⟨l, xs, ms.map fun q => [q.2.2, q.2.1], rfl, SqL.of gl, by omega, by rw [List.length_map]; exact lx, fun k hk => ?_, fun i x k H3 Q' hx hk sm3 hq => ?_, fun D ws' B' h0 wp sm' g' => ?_⟩
      · obtain ⟨q, _, rfl⟩ := List.mem_map.mp hk
        simp
      · obtain ⟨q, hq2, na⟩ := nx.get hx
        rw [List.getElem?_map, hq2] at hk
        cases hk
        exact ⟨x, rfl, q, na.up (.same sm3), fun H4 t s4 g4 => hq H4 t s4 (SqT.of g4)⟩
      · exact fin D ws' B' h0 wp sm' g'
    · clean_wf
      exact kk B l xs ms sB hl0 gl nx (by omega)
end
end K25


namespace K25
open PySem L2
abbrev s__law_free : Stmt := top 40
abbrev s__law_reached : Stmt := top 41
section
variable {P : Program} {w : World} {K : PySem.W.Frag} {mg : Str → Option Value} {base : Heap}

def stt (m0 : List (Int × Int)) (rw : List (V × Cll)) : List (Int × Int) := rw.foldl (fun m q => putI m q.2.c q.2.k) m0
def lasto (rw : List (V × Cll)) : Option Int := rw.getLast?.map fun q => q.2.c
theorem stt_snoc (m0 : List (Int × Int)) (rw : List (V × Cll)) (q : V × Cll) : stt m0 (rw ++ [q]) = putI (stt m0 rw) q.2.c q.2.k := by
  unfold stt
  rw [List.foldl_append]
  rfl
theorem lasto_snoc (rw : List (V × Cll)) (q : V × Cll) : lasto (rw ++ [q]) = some q.2.c := by
  unfold lasto
  simp
section
variable {hs : List Int} {L : Int → Int → Option (V × Cll)} {ns : List Nm} {m0 m : List (Int × Int)} {rw : List (V × Cll)} {last : Option Int}
theorem fw_stt (fw : Fw hs L ns m0 rw last m) : m = stt m0 rw ∧ last = lasto rw := by
  induction fw with
  | start => exact ⟨rfl, rfl⟩
  | @step rw last m v x f e ih =>
    obtain ⟨e1, e2⟩ := ih
    exact ⟨by rw [stt_snoc, ← e1], by rw [lasto_snoc]⟩
theorem fw_at (fw : Fw hs L ns m0 rw last m) : ∀ i (hi : i < rw.length), fst (frm hs (lasto (rw.take i))) L (stt m0 (rw.take i)) (nxo ns (stt m0 (rw.take i))) = some rw[i] := by
  induction fw with
  | start => intro i hi; exact absurd hi (Nat.not_lt_zero _)
  | @step rw last m v x f e ih =>
    intro i hi
    obtain ⟨em, el⟩ := fw_stt f
    rcases Nat.lt_or_ge i rw.length with w | w
    · rw [List.take_append_of_le_length (Nat.le_of_lt w), List.getElem_append_left w]
      exact ih i w
    · have hi2 : i = rw.length := by
        rw [List.length_append, List.length_singleton] at hi
        omega
      subst hi2
      have e1 : (rw ++ [(v, x)]).take rw.length = rw := by simp
      have e2 : (rw ++ [(v, x)])[rw.length] = (v, x) := by simp
      rw [e1, e2, ← em, ← el]
      exact e
end
theorem tkb_ct {m m' : List (Int × Int)} (e : ∀ k, ct m' k = ct m k) (x : Cll) (o : Option Nm) : tkb m' x o = tkb m x o := by
  have e1 : ∀ n, cov m' n = cov m n := fun n => by unfold cov; simp only [e]
  unfold tkb frb
  rw [e, e1]
theorem nxo_ct {m m' : List (Int × Int)} (e : ∀ k, ct m' k = ct m k) (ns : List Nm) : nxo ns m' = nxo ns m := by
  unfold nxo cvd
  simp only [e]
theorem stt_ct {m m' : List (Int × Int)} (e : ∀ k, ct m' k = ct m k) (rw : List (V × Cll)) : ∀ k, ct (stt m' rw) k = ct (stt m rw) k := by
  induction rw generalizing m m' with
  | nil => exact e
  | cons q rw ih =>
    refine ih (m := putI m q.2.c q.2.k) (m' := putI m' q.2.c q.2.k) fun k => ?_
    rw [ct_put, ct_put, e]
def Rot (l : Option Int) (h h' : Int) : Prop := match l with
  | none => h < h'
  | some c => (c ≤ h ∧ (h' < c ∨ h < h')) ∨ (h < c ∧ h' < c ∧ h < h')
theorem frm_rot {hs : List Int} (up : hs.Pairwise (· < ·)) (l : Option Int) : (frm hs l).Pairwise (Rot l) := by
  cases l with
  | none => exact up
  | some c =>
    show ((hs.filter fun h => decide (c ≤ h)) ++ hs.filter fun h => decide (h < c)).Pairwise _
    rw [List.pairwise_append]
    refine ⟨?_, ?_, ?_⟩
    · refine (List.Pairwise.filter _ up).imp_of_mem fun ha _ w => ?_
      have ha := of_decide_eq_true (List.mem_filter.mp ha).2
      exact .inl ⟨ha, .inr w⟩
    · refine (List.Pairwise.filter _ up).imp_of_mem fun ha hb w => ?_
      have ha := of_decide_eq_true (List.mem_filter.mp ha).2
      have hb := of_decide_eq_true (List.mem_filter.mp hb).2
      exact .inr ⟨ha, hb, w⟩
    · intro a ha b hb
      have ha := of_decide_eq_true (List.mem_filter.mp ha).2
      have hb := of_decide_eq_true (List.mem_filter.mp hb).2
      exact .inl ⟨ha, .inl hb⟩

theorem fst_first {hs : List Int} {ws : List V} {cs : List Cll} {m : List (Int × Int)} {o : Option Nm} {l : Option Int} {v : V} {x : Cll} (up : hs.Pairwise (· < ·)) (hm : ∀ h, h ∈ hs ↔ ∃ x ∈ cs, x.c = h) (lw : ws.length = cs.length) (u : Rk1 (ws.zip cs)) (h : fst (frm hs l) (LkC (ws.zip cs)) m o = some (v, x)) :
    x ∈ cs ∧ tkb m x o = true ∧ x.k = ct m x.c + 1 ∧ ∀ y ∈ cs, tkb m y o = true → y.k = ct m y.c + 1 ∧ (y.c = x.c ∨ Rot l x.c y.c) := by
  have kk : ∀ y : Cll, tkb m y o = true → y.k = ct m y.c + 1 := fun y z => by
    unfold tkb frb at z
    rw [Bool.and_eq_true, Bool.and_eq_true] at z
    have := of_decide_eq_true z.1.1
    omega
  obtain ⟨h0, _, e1, e2⟩ := fst_mem h
  obtain ⟨f1, f2, f3⟩ := lkc_mem e1
  have xm : x ∈ cs := (List.of_mem_zip f1).2
  refine ⟨xm, e2, kk x e2, fun y hy ty => ⟨kk y ty, ?_⟩⟩
  unfold fst at h
  obtain ⟨l1, a, l2, el, ea, hn⟩ := List.findSome?_eq_some_iff.mp h
  have exa : x.c = a := by
    unfold tk1 at ea
    cases z : LkC (ws.zip cs) a (ct m a + 1) with
    | none => rw [z] at ea; cases ea
    | some q =>
      rw [z] at ea
      have ea : (if tkb m q.2 o = true then some q else none) = some (v, x) := ea
      obtain ⟨_, g2, _⟩ := lkc_mem z
      by_cases w : tkb m q.2 o = true
      · rw [if_pos w] at ea
        cases ea
        exact g2
      · rw [if_neg w] at ea; cases ea
  obtain ⟨i, hi⟩ := List.getElem?_of_mem hy
  have hil := (List.getElem?_eq_some_iff.mp hi).1
  have hz : (ws[i]'(by omega), y) ∈ ws.zip cs := List.mem_of_getElem? (i := i) (by rw [List.getElem?_zip_eq_some]; exact ⟨List.getElem?_eq_getElem _, hi⟩)
  have ty' : tk1 (LkC (ws.zip cs)) m o y.c = some (ws[i]'(by omega), y) := by
    unfold tk1
    rw [← kk y ty, show LkC (ws.zip cs) y.c y.k = some (ws[i]'(by omega), y) from lkc_one u hz]
    show (if tkb m y o = true then some (ws[i]'(by omega), y) else none) = _
    rw [if_pos ty]
  have ym : y.c ∈ frm hs l := by
    have : y.c ∈ hs := (hm y.c).mpr ⟨y, hy, rfl⟩
    exact frm_mem (last := l) this
  rw [el] at ym
  have pw := frm_rot up l
  rw [el] at pw
  rcases List.mem_append.mp ym with w | w
  · rw [hn _ w] at ty'
    cases ty'
  · rcases List.mem_cons.mp w with w | w
    · exact .inl (by rw [w, exa])
    · have := (List.pairwise_cons.mp (List.pairwise_append.mp pw).2.1).1 _ w
      rw [exa]
      exact .inr this

def Rks (H : Hp) (v : V) (y : Cll) : Prop := ∃ t, v = .ref t ∧ H t = some (.tup [.int y.c, .int y.k])
theorem Rks.up {H H' : Hp} (s : SmH H H') {v : V} {x : Cll} (h : Rks H v x) : Rks H' v x := by
  obtain ⟨a, e1, e2⟩ := h
  exact ⟨a, e1, s _ _ e2⟩
theorem rks_up {H H' : Hp} (s : SmH H H') {vs : List V} {cs : List Cll} (h : Paired (Rks H) vs cs) : Paired (Rks H') vs cs := Paired.mapP h fun _ _ z => z.up s
def rkD (x : Cll) : PyData := .tuple [.int x.c, .int x.k]
theorem rk_dps {K : PySem.W.Frag} {H : Hp} : ∀ {vs : List V} {cs : List Cll}, Paired (Rks H) vs cs → Dps K H vs (cs.map rkD)
  | _, _, .nil => .nil
  | _, _, .cons ⟨t, e, h⟩ r => by
    subst e
    exact .cons (.tup (SqT.of h) (.cons (.int _) (.cons (.int _) .nil))) (rk_dps r)
theorem rks_lay : ∀ cs : List Cll, PyData.canLayAll0 (cs.map rkD) = true
  | [] => rfl
  | p :: ns => by rw [List.map_cons, PyData.canLayAll0.eq_2, rks_lay ns]; rfl
theorem rk_refs {H : Hp} : ∀ {vs : List V} {cs : List Cll}, Paired (Rks H) vs cs → ∃ ts : List Addr, vs = ts.map V.ref ∧ ts.length = cs.length ∧ ∀ (i : Nat) t y, ts[i]? = some t → cs[i]? = some y → H t = some (.tup [.int y.c, .int y.k])
  | _, _, .nil => ⟨[], rfl, rfl, fun i t y h => by simp at h⟩
  | _, _, .cons ⟨t, e, h⟩ r => by
    obtain ⟨ts, e1, e2, e3⟩ := rk_refs r
    refine ⟨t :: ts, by rw [e, e1]; rfl, by rw [List.length_cons, List.length_cons, e2], fun i t' y h1 h2 => ?_⟩
    cases i with
    | zero => simp at h1 h2; rw [← h1, ← h2]; exact h
    | succ i => simp at h1 h2; exact e3 i t' y h1 h2
theorem x_eqNil {K : PySem.W.Frag} {H : Hp} {Q : VK} {a b : Addr} {xs : List V} {ds : List PyData} (ha : SqL K H a xs) (hx : Dps K H xs ds) (hl : PyData.canLayAll0 ds = true) (hb : SqL K H b []) (q : Q (.bl (decide (ds = []))) H) : rEqP K (.ref a) (.ref b) H Q := by
  refine ⟨.list ds, .list [], .inr ⟨_, _, _, rfl, rfl, ha, hx⟩, .inr ⟨_, _, _, rfl, rfl, hb, .nil⟩, by rw [PyData.canLay0.eq_5]; exact hl, rfl, by have : (PyData.list []).depth = 1 := rfl; omega, ?_⟩
  have e : (PyData.list ds).eqv (.list []) = decide (ds = []) := by
    cases ds with
    | nil => rfl
    | cons d ds => rw [decide_eq_false (by intro z; cases z)]; rfl
  rw [e]
  exact q

def Lso (m : List (Int × Int)) (l : Option Int) (lc lk : Int) : Prop := match l with
  | none => lc = -1 ∧ lk = -1
  | some c => lc = c ∧ lk = ct m c
def lat (l : Option Int) (y : Cll) : Bool := match l with
  | none => true
  | some c => decide (c ≤ y.c)
theorem lex2 (a b c d : Int) : HT.lexLt [a, b] [c, d] = decide (a < c ∨ (a = c ∧ b < d)) := by
  have e : HT.lexLt [a, b] [c, d] = if a = c then (if b = d then false else decide (b < d)) else decide (a < c) := rfl
  rw [e]
  by_cases h1 : a = c
  · rw [if_pos h1]
    by_cases h2 : b = d
    · rw [if_pos h2, decide_eq_false (by omega)]
    · rw [if_neg h2]
      by_cases h3 : b < d
      · rw [decide_eq_true h3, decide_eq_true (by omega)]
      · rw [decide_eq_false h3, decide_eq_false (by omega)]
  · rw [if_neg h1]
    by_cases h3 : a < c
    · rw [decide_eq_true h3, decide_eq_true (by omega)]
    · rw [decide_eq_false h3, decide_eq_false (by omega)]
theorem spot_gt {m : List (Int × Int)} {l : Option Int} {lc lk : Int} {y : Cll} (hl : Lso m l lc lk) (yk : y.k = ct m y.c + 1) (y0 : 0 ≤ y.c) : HT.lexLt [lc, lk] [y.c, y.k] = lat l y := by
  rw [lex2]
  cases l with
  | none =>
    obtain ⟨e1, e2⟩ := hl
    exact decide_eq_true (by omega)
  | some c =>
    obtain ⟨e1, e2⟩ := hl
    show _ = decide (c ≤ y.c)
    by_cases z : c ≤ y.c
    · rw [decide_eq_true z]
      refine decide_eq_true ?_
      by_cases w : c = y.c
      · right
        rw [w] at e2
        omega
      · left; omega
    · rw [decide_eq_false z]
      exact decide_eq_false (by omega)

theorem next_least {ab : List Cll} {m : List (Int × Int)} {l : Option Int} {x : Cll} (hx : x ∈ ab) (h : ∀ y ∈ ab, y.k = ct m y.c + 1 ∧ (y.c = x.c ∨ Rot l x.c y.c)) :
    (ab.filter (lat l) ≠ [] → x ∈ ab.filter (lat l) ∧ ∀ y ∈ ab.filter (lat l), HT.lexLt [y.c, y.k] [x.c, x.k] = false) ∧ (ab.filter (lat l) = [] → ∀ y ∈ ab, HT.lexLt [y.c, y.k] [x.c, x.k] = false) := by
  have xk := (h x hx).1
  have ge : ∀ y ∈ ab, x.c ≤ y.c → HT.lexLt [y.c, y.k] [x.c, x.k] = false := fun y hy z => by
    rw [lex2]
    have := (h y hy).1
    refine decide_eq_false ?_
    rintro (w | ⟨w1, w2⟩)
    · omega
    · rw [w1] at this; omega
  cases l with
  | none =>
    have gx : ∀ y ∈ ab, x.c ≤ y.c := fun y hy => by
      rcases (h y hy).2 with w | w
      · omega
      · have w : x.c < y.c := w
        omega
    refine ⟨fun _ => ⟨List.mem_filter.mpr ⟨hx, rfl⟩, fun y hy => ge y (List.mem_filter.mp hy).1 (gx y (List.mem_filter.mp hy).1)⟩, fun _ y hy => ge y hy (gx y hy)⟩
  | some c =>
    refine ⟨fun ne => ?_, fun en y hy => ?_⟩
    · obtain ⟨z, hz⟩ := List.exists_mem_of_ne_nil _ ne
      obtain ⟨hz1, hz2⟩ := List.mem_filter.mp hz
      have hz2 : c ≤ z.c := of_decide_eq_true hz2
      have xc : c ≤ x.c := by
        rcases (h z hz1).2 with w | w
        · omega
        · rcases w with ⟨w, _⟩ | ⟨_, w, _⟩
          · exact w
          · omega
      refine ⟨List.mem_filter.mpr ⟨hx, decide_eq_true xc⟩, fun y hy => ?_⟩
      obtain ⟨hy1, hy2⟩ := List.mem_filter.mp hy
      have hy2 : c ≤ y.c := of_decide_eq_true hy2
      refine ge y hy1 ?_
      rcases (h y hy1).2 with w | w
      · omega
      · rcases w with ⟨_, w | w⟩ | ⟨_, w, _⟩ <;> omega
    · have no : ∀ y ∈ ab, y.c < c := fun y hy => by
        by_cases w : c ≤ y.c
        · have : y ∈ ab.filter (lat (some c)) := List.mem_filter.mpr ⟨hy, decide_eq_true w⟩
          rw [en] at this
          cases this
        · omega
      refine ge y hy ?_
      have n1 := no x hx
      have n2 := no y hy
      rcases (h y hy).2 with w | w
      · omega
      · rcases w with ⟨w, _⟩ | ⟨_, _, w⟩ <;> omega
theorem lex_tot {a b c d : Int} (h1 : HT.lexLt [a, b] [c, d] = false) (h2 : HT.lexLt [c, d] [a, b] = false) : a = c ∧ b = d := by
  rw [lex2] at h1 h2
  have h1 := of_decide_eq_false h1
  have h2 := of_decide_eq_false h2
  by_cases z : a = c
  · refine ⟨z, ?_⟩
    by_cases w : b = d
    · exact w
    · exfalso
      rcases Int.lt_or_lt_of_ne w with w | w
      · exact h1 (.inr ⟨z, w⟩)
      · exact h2 (.inr ⟨z.symm, w⟩)
  · exfalso
    rcases Int.lt_or_lt_of_ne z with w | w
    · exact h1 (.inl w)
    · exact h2 (.inl w)
theorem cov_all {ps m : List (Int × Int)} (cs : Ck ps) (cm : Ck m) : cov m (posI ps) = ps.all fun p => decide (p.2 ≤ ct m p.1) := by
  rw [Bool.eq_iff_iff, cov_iff cm (ck_pos cs), List.all_eq_true]
  constructor
  · intro h p hp
    by_cases z : 0 < p.2
    · have := h p.1
      rw [ct_of (pos_nd cs.nd) (List.mem_filter.mpr ⟨hp, decide_eq_true z⟩)] at this
      exact decide_eq_true this
    · have := cm.ct p.1
      exact decide_eq_true (by omega)
  · intro h j
    by_cases z : j ∈ (posI ps).map (·.1)
    · obtain ⟨p, hp, rfl⟩ := List.mem_map.mp z
      rw [ct_of (pos_nd cs.nd) hp]
      exact of_decide_eq_true (h p (List.mem_filter.mp hp).1)
    · rw [ct_out z]
      exact cm.ct j
theorem frb_all {x : Cll} {m : List (Int × Int)} (wf : Wf x) (cm : Ck m) : frb m x = (decide (ct m x.c = x.k - 1) && x.cs.all fun p => decide (p.2 ≤ ct m p.1)) := by
  unfold frb
  rw [cov_all wf.cs cm]
  by_cases z : x.kd = "own"
  · rw [wf.ow z, decide_eq_true z]; rfl
  · rw [decide_eq_false z, Bool.false_or]
def sp__law_free (K : PySem.W.Frag) : Sp := fun vs H Q _ => ∃ (v : V) (d : Addr), vs = [v, .ref d] ∧ ∃ x m, TldA H v x ∧ Wf x ∧ Rd H d (.dK (dI m)) ∧ Ck m ∧ ∀ H', Same H H' → Q (.bl (frb m x)) H'
theorem sc__law_free : FnScope ["_law_told", "_law_counts"] ["_law_told", "_law_counts"] (defScope s__law_free) := ⟨rfl, rfl, rfl, by decide +kernel, rfl, by decide +kernel, by decide +kernel⟩
set_option maxHeartbeats 2000000 in
theorem ok__law_free {f  : Addr} {fd  : FuncData} (F : Fun K "_law_free" "_law_free" s__law_free f fd) (h_all : mg "all" = none) : FnOk P w K mg base CX0 1 f fd ["_law_told", "_law_counts"] (sp__law_free K) := by
  refine F.ok sc__law_free (fun vs H Q E h => ?_) (fun cdv A outer s H vs Q E hr h => ?_)
  · obtain ⟨v, d, rfl, _⟩ := h
    rfl
  obtain ⟨v, d, rfl, h⟩ := h
  have hu64 := hr.units
  have hu0 := hr.units0
  have hu := hu_of hr
  refine ⟨_, (pss_cons (ps_if (pt_cmpR op_ne (pe_dget2 hu (pv 1) (pe_ix (ix_tupK (K := K) rfl) (pv 0) pe_int (fun _ _ => rfl)) pe_int ⟨rfl, rfl, rfl, rfl⟩) (pe_op op_sub (pe_ix (ix_tupK (K := K) rfl) (pv 0) pe_int (fun _ _ => rfl)) pe_int) (nomark _)) (pss_one (ps_ret pe_bl)) pss_nil)
      (pss_one (ps_ret (pe_callB (call_all rfl) (by rfl) h_all PyProof.Rows.boot_all (pa_cons (pe_comp ["_law_counts", "_law_hand", "_law_much"] [some 1, none, none] rfl rfl (by kernel_rfl) (pi_tupK (K := K) rfl (pe_ix (ix_tupK (K := K) rfl) (pv 0) pe_int (fun _ _ => rfl))) (fun _ _ _ _ _ nd => pg_tupK (K := K) (n := 2) rfl rfl (pgs_cons (pg_name (i := 1) nd rfl (Or.inl rfl)) (pgs_cons (pg_name (i := 2) nd rfl (Or.inl rfl)) pgs_nil))) (fun _ _ _ _ _ => pif_nil) (fun _ _ _ _ _ => (pe_cmpR op_ge (pe_dget2 hu (pv 0) (pv 1) pe_int ⟨rfl, rfl, rfl, rfl⟩) (pv 2) (nomark _)))) pa_nil))))), ?_⟩
  obtain ⟨x, m, ⟨a, t, ys, rfl, ha, ht, hp⟩, wf, hd, cm, kk⟩ := h
  have sa : SqT K H a [.int x.n, .int x.c, .int x.k, .str x.kd, .int x.w, .ref t] := SqT.of ha
  have ef := frb_all wf cm
  have lp := hp.len
  have lcs := wf.cs.len
  clean_wf
  refine ite2 (fun h1 => ?_) fun h1 => ?_
  · have h1 : ¬ ct m x.c = x.k - 1 := fun z => by
      have z : (lkI m x.c).getD 0 = x.k - 1 := z
      rw [decide_eq_true z] at h1
      cases h1
    have e : frb m x = false := by
      rw [ef, decide_eq_false h1]
      rfl
    rw [e] at kk
    clean_wf
    exact kk H (.refl _)
  have h1 : ct m x.c = x.k - 1 := by
    by_cases z : ct m x.c = x.k - 1
    · exact z
    · have z' : ¬ (lkI m x.c).getD 0 = x.k - 1 := z
      rw [decide_eq_false z'] at h1
      exact absurd rfl h1
  clean_wf
  intro E hE
  refine comp_tup (K := K) (a := t) (xs := ys) (fun i σ A => ∃ v2 v3, σ = [some (.ref d), v2, v3] ∧ Same H A ∧ A E = some (.lst (((x.cs.take i).map fun p => decide (p.2 ≤ ct m p.1)).map V.bl))) ⟨none, none, rfl, same_upd hE, upd_same⟩ ?_ ?_ ?_
  · rintro i σ A _ ⟨_, _, _, z, _⟩
    exact same_tup z (SqT.of ht)
  · rintro i y σ A hy ⟨v2, v3, rfl, sA, gE⟩
    obtain ⟨p, hp', u, rfl, hu2⟩ := hp.get hy
    have su : SqT K A u [.int p.1, .int p.2] := SqT.of (sA _ _ hu2)
    have hdA := same_rd sA hd
    have hi := (List.getElem?_eq_some_iff.mp hp').1
    clean_wf
    refine ⟨_, gE, small1000 (by rw [List.length_map, List.length_map, List.length_take]; omega), _, _, rfl, fun b o z => ?_, ?_⟩
    · rw [upd_ne (ne_of_none z hE)]
      exact sA b o z
    · rw [upd_same, take_get hp', List.map_append, List.map_append]
      rfl
  rintro σ A ⟨v2, v3, rfl, sA, gE⟩
  rw [lp, List.take_length] at gE
  clean_wf
  refine ⟨E, _, rfl, SqL.of gE, ?_⟩
  have ev : ((x.cs.map fun p => decide (p.2 ≤ ct m p.1)).all fun b => b) = x.cs.all fun p => decide (p.2 ≤ ct m p.1) := by
    rw [List.all_map]
    rfl
  rw [ev]
  rw [ef, decide_eq_true h1, Bool.true_and] at kk
  exact kk A sA
def sp__law_reached (K : PySem.W.Frag) : Sp := fun vs H Q _ => ∃ (b d : Addr), vs = [.ref b, .ref d] ∧ ∃ xs ns m, SqL K H b xs ∧ Nms H xs ns ∧ Rd H d (.dK (dI m)) ∧ ns.length ≤ 300 ∧ ∀ H' (j : Nat), Same H H' → Fo ns m j → Q (.int j) H'
theorem sc__law_reached : FnScope ["_law_places_here", "_law_counts", "_law_k"] ["_law_places_here", "_law_counts"] (defScope s__law_reached) := ⟨rfl, rfl, rfl, by decide +kernel, rfl, by decide +kernel, by decide +kernel⟩
set_option maxHeartbeats 2000000 in
theorem ok__law_reached {f  : Addr} {fd  : FuncData} (F : Fun K "_law_reached" "_law_reached" s__law_reached f fd) (h_len : mg "len" = none) (h_range : mg "range" = none) : FnOk P w K mg base CX0 1 f fd ["_law_places_here", "_law_counts"] (sp__law_reached K) := by
  refine F.ok sc__law_reached (fun vs H Q E h => ?_) (fun cdv A outer s H vs Q E hr h => ?_)
  · obtain ⟨b, d, rfl, _⟩ := h
    rfl
  obtain ⟨b, d, rfl, h⟩ := h
  have hu64 := hr.units
  have hu0 := hr.units0
  have hu := hu_of hr
  refine ⟨_, (pss_cons (ps_for PassesOwn.never rfl (pi_range1 rfl h_range (pa_cons (pe_callB (call_lenK (K := K) rfl) (by rfl) h_len PySem.boot_len (pa_cons (pv 0) pa_nil)) pa_nil)) (pg_name (i := 2) sc__law_reached.nd rfl (Or.inl rfl))
      (pss_one (ps_if (pt_cmpR op_lt (pe_dget2 hu (pv 1) (pe_ix (ix_tupK (K := K) rfl) (pe_ix (ix_listK (K := K) rfl) (pv 0) (pv 2) (fun _ _ => rfl)) pe_int (fun _ _ => rfl)) pe_int ⟨rfl, rfl, rfl, rfl⟩) (pe_ix (ix_tupK (K := K) rfl) (pe_ix (ix_listK (K := K) rfl) (pv 0) (pv 2) (fun _ _ => rfl)) pe_int (fun _ _ => rfl)) (nomark _)) (pss_one (ps_ret (pv 2))) pss_nil)))
      (pss_one (ps_ret (pe_callB (call_lenK (K := K) rfl) (by rfl) h_len PySem.boot_len (pa_cons (pv 0) pa_nil))))), ?_⟩
  obtain ⟨xs, ns, m, hb, hn, hd, ln, kk⟩ := h
  have lx := hn.len
  clean_wf
  refine ⟨_, rfl, by omega, by omega, ?_⟩
  refine for_range (fun i σ B => ∃ v, σ = [some (.ref b), some (.ref d), v] ∧ Same H B ∧ ∀ k (hk : k < ns.length), k < i → cvd m ns[k]) ⟨none, rfl, .refl _, fun k _ h => absurd h (Nat.not_lt_zero _)⟩ ?_ ?_
  · rintro i σ B hi ⟨v, rfl, sB, cv⟩
    have hi' : i < ns.length := by omega
    obtain ⟨x, hx, u, rfl, hu2⟩ := (hn.up (.same sB)).at hi'
    have hbB := sB.seq hb
    have hdB := same_rd sB hd
    have su : SqT K B u [.int ns[i].1, .int ns[i].2.1, .int ns[i].2.2] := SqT.of hu2
    have hat : atI xs (0 + (i : Int)) = some (.ref u) := by
      rw [Int.zero_add]
      exact atI_nat hx
    clean_wf
    refine ite2 (fun h2 => ?_) fun h2 => ?_
    · have h2 : ct m ns[i].2.1 < ns[i].2.2 := of_decide_eq_true h2
      clean_wf
      rw [Int.zero_add]
      exact kk B i sB ⟨by omega, cv, fun _ => by show ¬ ns[i].2.2 ≤ ct m ns[i].2.1; omega⟩
    · have h2 : ¬ ct m ns[i].2.1 < ns[i].2.2 := fun z => h2 (decide_eq_true z)
      exact ⟨_, rfl, sB, fun k hk hl => by
        rcases Nat.lt_or_ge k i with w | w
        · exact cv k hk w
        · obtain rfl : k = i := by omega
          show ns[k].2.2 ≤ ct m ns[k].2.1
          omega⟩
  rintro σ B ⟨v, rfl, sB, cv⟩
  have hbB := sB.seq hb
  clean_wf
  rw [lx]
  exact kk B ns.length sB ⟨Nat.le_refl _, fun k hk h => cv k hk (by omega), fun hj => absurd hj (Nat.lt_irrefl _)⟩
end
end K25


namespace K25
open PySem L2
abbrev s__law_able : Stmt := top 42
abbrev s__law_asking : Stmt := top 43
section
variable {P : Program} {w : World} {K : PySem.W.Frag} {mg : Str → Option Value} {base : Heap}
theorem fo_nxo {ns : List Nm} {m : List (Int × Int)} {j : Nat} (h : Fo ns m j) : nxo ns m = ns[j]? := nxo_at h.2.1 h.2.2 h.1
theorem cut_one {xs : List V} {j : Nat} (h : j ≤ xs.length) : cutV xs (some (j : Int)) (some ((j : Int) + 1)) = (xs.drop j).take 1 := by
  unfold cutV
  have e1 : HT.sIx xs.length 0 (some (j : Int)) = j := by
    show (if (j : Int) < 0 then ((j : Int) + (xs.length : Nat)).toNat else min (j : Int).toNat xs.length) = j
    rw [if_neg (by omega), Int.toNat_natCast]
    omega
  have e2 : HT.sIx xs.length xs.length (some ((j : Int) + 1)) = min (j + 1) xs.length := by
    show (if (j : Int) + 1 < 0 then ((j : Int) + 1 + (xs.length : Nat)).toNat else min ((j : Int) + 1).toNat xs.length) = _
    rw [if_neg (by omega), show ((j : Int) + 1).toNat = j + 1 by omega]
  rw [e1, e2]
  rcases Nat.lt_or_ge j xs.length with w | w
  · rw [show min (j + 1) xs.length - j = 1 by omega]
  · rw [List.drop_of_length_le w, List.take_nil, List.take_nil]
theorem nms_drop {H : Hp} : ∀ {xs : List V} {ns : List Nm} (k : Nat), Nms H xs ns → Nms H (xs.drop k) (ns.drop k)
  | _, _, 0, h => h
  | _, _, k + 1, .nil => .nil
  | _, _, k + 1, .cons _ t => nms_drop k t
theorem one_eq {ns : List Nm} {j : Nat} (q : Nm) : (PyData.list (((ns.drop j).take 1).map nmD)).eqv (.list [nmD q]) = decide (ns[j]? = some q) := by
  have e : (ns.drop j).take 1 = (ns[j]?).toList := by
    rcases Nat.lt_or_ge j ns.length with w | w
    · rw [List.drop_eq_getElem_cons w, List.getElem?_eq_getElem w]
      rfl
    · rw [List.drop_of_length_le w, List.getElem?_eq_none w]
      rfl
  rw [e]
  cases ns[j]? with
  | none => rfl
  | some p =>
    have e2 : (PyData.list ([p].map nmD)).eqv (.list [nmD q]) = ((nmD p).eqv (nmD q) && true) := rfl
    show (PyData.list ([p].map nmD)).eqv (.list [nmD q]) = _
    rw [e2, Bool.and_true, nm_eq]
    by_cases w : p = q
    · rw [w, decide_eq_true rfl, decide_eq_true rfl]
    · rw [decide_eq_false (fun z => w z.symm), decide_eq_false (fun z => w (Option.some.inj z))]
def sp__law_able (K : PySem.W.Frag) : Sp := fun vs H Q _ => ∃ (l d b : Addr), vs = [.ref l, .ref d, .ref b] ∧ ∃ ws cs m xs ns, SqL K H l ws ∧ Tls H ws cs ∧ cs.length ≤ 60 ∧ (∀ x ∈ cs, Wf x) ∧ Rd H d (.dK (dI m)) ∧ Ck m ∧ SqL K H b xs ∧ Nms H xs ns ∧ ns.length ≤ 300 ∧ ∀ H' q ys, Same H H' → H q = none → H' q = some (.lst ys) → Paired (Rks H') ys (cs.filter fun y => tkb m y (nxo ns m)) → Q (.ref q) H'
theorem sc__law_able : FnScope ["_law_calls_here", "_law_counts", "_law_places_here", "_law_found", "_law_at", "_law_told"] ["_law_calls_here", "_law_counts", "_law_places_here"] (defScope s__law_able) := ⟨rfl, rfl, rfl, by decide +kernel, rfl, by decide +kernel, by decide +kernel⟩
set_option maxHeartbeats 8000000 in
theorem ok__law_able {f f__law_free f__law_reached : Addr} {fd fd__law_free fd__law_reached : FuncData} (F : Fun K "_law_able" "_law_able" s__law_able f fd)
    (G__law_free : FnOk P w K mg base CX0 1 f__law_free fd__law_free ["_law_told", "_law_counts"] (sp__law_free K)) (C__law_free : Cal K mg "_law_free" f__law_free fd__law_free ["_law_told", "_law_counts"])
    (G__law_reached : FnOk P w K mg base CX0 1 f__law_reached fd__law_reached ["_law_places_here", "_law_counts"] (sp__law_reached K)) (C__law_reached : Cal K mg "_law_reached" f__law_reached fd__law_reached ["_law_places_here", "_law_counts"]) : FnOk P w K mg base CX0 2 f fd ["_law_calls_here", "_law_counts", "_law_places_here"] (sp__law_able K) := by
  refine F.ok sc__law_able (fun vs H Q E h => ?_) (fun cdv A outer s H vs Q E hr h => ?_)
  · obtain ⟨l, d, b, rfl, _⟩ := h
    rfl
  obtain ⟨l, d, b, rfl, h⟩ := h
  have hu64 := hr.units
  have hu0 := hr.units0
  have hu := hu_of hr
  refine ⟨_, (pss_cons (ps_set (i := 3) sc__law_able.nd rfl (Or.inl rfl) (pe_lst pa_nil))
      (pss_cons (ps_set (i := 4) sc__law_able.nd rfl (Or.inl rfl) (pcall G__law_reached C__law_reached hr (pa_cons (pv 2) (pa_cons (pv 1) pa_nil))))
      (pss_cons (ps_for PassesOwn.never rfl (pi_listK (K := K) rfl (pv 0)) (pg_name (i := 5) sc__law_able.nd rfl (Or.inl rfl))
      (pss_one (ps_if (PW.pt (pw_and (pt_callK K rfl (pcall G__law_free C__law_free hr (pa_cons (pv 5) (pa_cons (pv 1) pa_nil)))) (pw_and1 (PW.pt (pw_or (pt_cmpR op_ne (pe_ix (ix_tupK (K := K) rfl) (pv 5) pe_int (fun _ _ => rfl)) pe_str (nomark _)) (pw_or1 (pt_cmpR (op_eqK (K := K) rfl hu64) (pe_slice (sl_listK (K := K) rfl) (pv 2) (po_some (pv 4)) (po_some (pe_op op_add (pv 4) pe_int))) (pe_lst (pa_cons (pe_slice (sl_tupK (K := K) rfl) (pv 5) po_none (po_some pe_int)) pa_nil)) (nomark _)))))))) (pss_one (ps_expr (pe_appendK (K := K) rfl (pe_bm PySem.F.plainAttrs_list PySem.F.slot_list_append PySem.F.type_list_append mt_append (pv 3) (pa_cons (pe_slice (sl_tupK (K := K) rfl) (pv 5) (po_some pe_int) (po_some pe_int)) pa_nil))))) pss_nil)))
      (pss_one (ps_ret (pv 3)))))), ?_⟩
  obtain ⟨ws, cs, m, xs, ns, hl, hc, lcs, wf, hd, cm, hb, hn, ln, kk⟩ := h
  have lw : ws.length = cs.length := Paired.length hc
  have lx := hn.len
  clean_wf
  intro q H1 hq s1 g1
  have hb1 := s1.seq hb
  have hd1 := same_rd s1 hd
  clean_wf
  refine ⟨b, d, rfl, xs, ns, m, hb1, hn.up (.same s1), hd1, ln, fun H2 j s2 fo => ?_⟩
  have s02 := s1.trans s2
  have hl2 := s02.seq hl
  have ej := fo_nxo fo
  clean_wf
  refine for_list (xs := ws) (fun i σ B => ∃ v ys, σ = [some (.ref l), some (.ref d), some (.ref b), some (.ref q), some (.int j), v] ∧ Same H B ∧ B q = some (.lst ys) ∧ Paired (Rks B) ys ((cs.take i).filter fun y => tkb m y (nxo ns m))) ⟨none, [], rfl, s02, s2 _ _ g1, .nil⟩ (fun i σ B _ z => by obtain ⟨_, _, _, z, _⟩ := z; exact z.seq hl) ?_ ?_
  · rintro i v σ B hx ⟨v0, ys, rfl, sB, gq, py⟩
    obtain ⟨y, hy, cy⟩ := paired_at hc hx
    have hi := (List.getElem?_eq_some_iff.mp hy).1
    have wy := wf y (List.mem_of_getElem? hy)
    have ly := Paired.length py
    have lf := List.length_filter_le (fun y => tkb m y (nxo ns m)) (cs.take i)
    rw [List.length_take] at lf
    obtain ⟨ta, tt, yy, rfl, k1, k2, k3⟩ := cy.up (.same sB)
    have no : ∀ C, Same B C → tkb m y (nxo ns m) = false → ∃ v ys, [some (V.ref l), some (V.ref d), some (V.ref b), some (V.ref q), some (V.int j), some (V.ref ta)] = [some (V.ref l), some (V.ref d), some (V.ref b), some (V.ref q), some (V.int j), v] ∧ Same H C ∧ C q = some (.lst ys) ∧ Paired (Rks C) ys ((cs.take (i + 1)).filter fun y => tkb m y (nxo ns m)) := fun C s e => ⟨_, ys, rfl, sB.trans s, s _ _ gq, by
      rw [take_get hy, List.filter_append, show [y].filter (fun y => tkb m y (nxo ns m)) = [] by rw [List.filter_cons_of_neg (by rw [e]; decide)]; rfl, List.append_nil]
      exact rks_up (.same s) py⟩
    have yes : ∀ C, Same B C → tkb m y (nxo ns m) = true → ∀ u2 D, C u2 = none → Same C D → D u2 = some (.tup [.int y.c, .int y.k]) → ∀ D2, But q D D2 → D2 q = some (.lst (ys ++ [.ref u2])) → ∃ v ys, [some (V.ref l), some (V.ref d), some (V.ref b), some (V.ref q), some (V.int j), some (V.ref ta)] = [some (V.ref l), some (V.ref d), some (V.ref b), some (V.ref q), some (V.int j), v] ∧ Same H D2 ∧ D2 q = some (.lst ys) ∧ Paired (Rks D2) ys ((cs.take (i + 1)).filter fun y => tkb m y (nxo ns m)) := fun C s e u2 D h0 sD gu D2 bD gD => by
      have sBD := s.trans sD
      have mD : SmH D D2 := SmH.but bD (sBD _ _ gq) (by intro _ z; cases z)
      refine ⟨_, ys ++ [.ref u2], rfl, bD.same (sB.trans sBD) hq, gD, ?_⟩
      rw [take_get hy, List.filter_append, show [y].filter (fun y => tkb m y (nxo ns m)) = [y] by rw [List.filter_cons_of_pos (by rw [e])]; rfl]
      exact paired_snoc (rks_up ((SmH.same sBD).trans mD) py) ⟨u2, rfl, mD _ _ gu⟩
    clean_wf
    refine ⟨_, d, rfl, y, m, ⟨ta, tt, yy, rfl, k1, k2, k3⟩, wy, same_rd sB hd, cm, fun C sC => ?_⟩
    have hk : SqT K C ta [.int y.n, .int y.c, .int y.k, .str y.kd, .int y.w, .ref tt] := SqT.of (sC _ _ k1)
    have ls : ys.length < sizeLine := small1000 (by omega)
    cases ef : frb m y with
    | false =>
      clean_wf
      exact no C sC (by unfold tkb; rw [ef]; rfl)
    | true =>
      clean_wf
      by_cases z : y.kd = "one"
      · rw [decide_eq_true z]
        have hbC := (sB.trans sC).seq hb
        have hnC := hn.up (.same (sB.trans sC))
        clean_wf
        intro p1 C1 hp1 t1 gp1
        rw [cut_one (by have := fo.1; omega)] at gp1
        have hk1 := same_tup t1 hk
        clean_wf
        refine ⟨ta, _, rfl, hk1, sl6_03, fun u2 hu2 => ?_⟩
        have s4 := same_upd (o := .tup (cutV [.int y.n, .int y.c, .int y.k, .str y.kd, .int y.w, .ref tt] none (some 3))) hu2
        have g4 : (upd C1 u2 (.tup (cutV [.int y.n, .int y.c, .int y.k, .str y.kd, .int y.w, .ref tt] none (some 3)))) u2 = some (.tup [.int y.n, .int y.c, .int y.k]) := upd_same
        generalize upd C1 u2 (.tup (cutV [.int y.n, .int y.c, .int y.k, .str y.kd, .int y.w, .ref tt] none (some 3))) = C2 at s4 g4 ⊢
        clean_wf
        intro p2 C3 hp2 t3 gp2
        have t14 := t1.trans (s4.trans t3)
        have nd : Nms C3 ((xs.drop j).take 1) ((ns.drop j).take 1) := nms_take 1 (nms_drop j (hnC.up (.same t14)))
        have n1 : Nms C3 [.ref u2] [(y.n, y.c, y.k)] := .cons ⟨u2, rfl, t3 _ _ g4⟩ .nil
        refine ⟨.list (((ns.drop j).take 1).map nmD), .list [nmD (y.n, y.c, y.k)], .inr ⟨_, _, _, rfl, rfl, SqL.of (t3 _ _ (s4 _ _ gp1)), nd.dps⟩, .inr ⟨_, _, _, rfl, rfl, SqL.of gp2, n1.dps⟩, by rw [PyData.canLay0.eq_5]; exact nms_lay _, rfl, by have : (PyData.list [nmD (y.n, y.c, y.k)]).depth = 2 := rfl; omega, ?_⟩
        rw [one_eq, ← ej]
        have et : tkb m y (nxo ns m) = decide (nxo ns m = some (y.n, y.c, y.k)) := by
          unfold tkb
          rw [ef, decide_eq_true z, Bool.true_and]
          rfl
        by_cases w : nxo ns m = some (y.n, y.c, y.k)
        · rw [decide_eq_true w]
          have hk3 := same_tup (s4.trans t3) hk1
          have gq3 := (sC.trans t14) _ _ gq
          clean_wf
          refine ⟨ta, _, rfl, hk3, sl6_13, fun u3 hu3 => ?_⟩
          have s5 := same_upd (o := .tup (cutV [.int y.n, .int y.c, .int y.k, .str y.kd, .int y.w, .ref tt] (some 1) (some 3))) hu3
          have g5 : (upd C3 u3 (.tup (cutV [.int y.n, .int y.c, .int y.k, .str y.kd, .int y.w, .ref tt] (some 1) (some 3)))) u3 = some (.tup [.int y.c, .int y.k]) := upd_same
          generalize upd C3 u3 (.tup (cutV [.int y.n, .int y.c, .int y.k, .str y.kd, .int y.w, .ref tt] (some 1) (some 3))) = C4 at s5 g5 ⊢
          have gq4 := s5 _ _ gq3
          clean_wf
          intro C5 b5 g5'
          exact yes C3 (sC.trans t14) (by rw [et, decide_eq_true w]) u3 C4 hu3 s5 g5 C5 b5 g5'
        · rw [decide_eq_false w]
          clean_wf
          exact no C3 (sC.trans t14) (by rw [et, decide_eq_false w])
      · rw [decide_eq_false z]
        have gq3 := sC _ _ gq
        clean_wf
        refine ⟨ta, _, rfl, hk, sl6_13, fun u3 hu3 => ?_⟩
        have s5 := same_upd (o := .tup (cutV [.int y.n, .int y.c, .int y.k, .str y.kd, .int y.w, .ref tt] (some 1) (some 3))) hu3
        have g5 : (upd C u3 (.tup (cutV [.int y.n, .int y.c, .int y.k, .str y.kd, .int y.w, .ref tt] (some 1) (some 3)))) u3 = some (.tup [.int y.c, .int y.k]) := upd_same
        generalize upd C u3 (.tup (cutV [.int y.n, .int y.c, .int y.k, .str y.kd, .int y.w, .ref tt] (some 1) (some 3))) = C4 at s5 g5 ⊢
        have gq4 := s5 _ _ gq3
        clean_wf
        intro C5 b5 g5'
        exact yes C sC (by unfold tkb; rw [ef, decide_eq_false z]; rfl) u3 C4 hu3 s5 g5 C5 b5 g5'
  rintro σ B ⟨v0, ys, rfl, sB, gq, py⟩
  rw [lw, List.take_length] at py
  clean_wf
  exact kk B q ys sB hq gq py
def sp__law_asking (K : PySem.W.Frag) : Sp := fun vs H Q _ => ∃ (l d : Addr), vs = [.ref l, .ref d] ∧ ∃ ws cs m, SqL K H l ws ∧ Tls H ws cs ∧ cs.length ≤ 60 ∧ (∀ x ∈ cs, Wf x) ∧ Rd H d (.dK (dI m)) ∧ Ck m ∧ ∀ H' q ys, Same H H' → H q = none → H' q = some (.lst ys) → Paired (Rks H') ys (cs.filter (askb m)) → Q (.ref q) H'
theorem sc__law_asking : FnScope ["_law_calls_here", "_law_counts"] ["_law_calls_here", "_law_counts"] (defScope s__law_asking) := ⟨rfl, rfl, rfl, by decide +kernel, rfl, by decide +kernel, by decide +kernel⟩
set_option maxHeartbeats 4000000 in
theorem ok__law_asking {f f__law_free : Addr} {fd fd__law_free : FuncData} (F : Fun K "_law_asking" "_law_asking" s__law_asking f fd)
    (G__law_free : FnOk P w K mg base CX0 1 f__law_free fd__law_free ["_law_told", "_law_counts"] (sp__law_free K)) (C__law_free : Cal K mg "_law_free" f__law_free fd__law_free ["_law_told", "_law_counts"]) : FnOk P w K mg base CX0 2 f fd ["_law_calls_here", "_law_counts"] (sp__law_asking K) := by
  refine F.ok sc__law_asking (fun vs H Q E h => ?_) (fun cdv A outer s H vs Q E hr h => ?_)
  · obtain ⟨l, d, rfl, _⟩ := h
    rfl
  obtain ⟨l, d, rfl, h⟩ := h
  have hu64 := hr.units
  have hu0 := hr.units0
  have hu := hu_of hr
  refine ⟨_, (pss_one (ps_ret (pe_comp ["_law_counts", "_law_told"] [some 1, none] rfl rfl (by kernel_rfl) (pi_listK (K := K) rfl (pv 0)) (fun _ _ _ _ _ nd => pg_name (i := 1) nd rfl (Or.inl rfl)) (fun _ _ _ _ _ => (pif_one (PW.pt (pw_and (pt_cmpR op_eq (pe_ix (ix_tupK (K := K) rfl) (pv 1) pe_int (fun _ _ => rfl)) pe_str (nomark _)) (pw_and1 (pt_callK K rfl (pcall G__law_free C__law_free hr (pa_cons (pv 1) (pa_cons (pv 0) pa_nil))))))))) (fun _ _ _ _ _ => (pe_slice (sl_tupK (K := K) rfl) (pv 1) (po_some pe_int) (po_some pe_int)))))), ?_⟩
  obtain ⟨ws, cs, m, hl, hc, lcs, wf, hd, cm, kk⟩ := h
  have lw : ws.length = cs.length := Paired.length hc
  clean_wf
  intro E hE
  refine comp_list (K := K) (a := l) (xs := ws) (fun j σ A => ∃ v ys, σ = [some (.ref d), v] ∧ Same H A ∧ A E = some (.lst ys) ∧ Paired (Rks A) ys ((cs.take j).filter (askb m))) ⟨none, [], rfl, same_upd hE, upd_same, .nil⟩ ?_ ?_ ?_
  · rintro j σ A _ ⟨_, _, _, z, _⟩
    exact z.seq hl
  · rintro j w σ A hx2 ⟨v0, ys, rfl, sA, gE, py⟩
    obtain ⟨y, hy2, cy⟩ := paired_at hc hx2
    have hj := (List.getElem?_eq_some_iff.mp hy2).1
    have wy := wf y (List.mem_of_getElem? hy2)
    have ly := Paired.length py
    have lf := List.length_filter_le (askb m) (cs.take j)
    rw [List.length_take] at lf
    obtain ⟨ta, tt, yy, rfl, k1, k2, k3⟩ := cy.up (.same sA)
    have hk : SqT K A ta [.int y.n, .int y.c, .int y.k, .str y.kd, .int y.w, .ref tt] := SqT.of k1
    have no : ∀ C, Same A C → askb m y = false → ∃ v ys, [some (V.ref d), some (V.ref ta)] = [some (V.ref d), v] ∧ Same H C ∧ C E = some (.lst ys) ∧ Paired (Rks C) ys ((cs.take (j + 1)).filter (askb m)) := fun C s e => ⟨_, ys, rfl, sA.trans s, s _ _ gE, by
      rw [take_get hy2, List.filter_append, show [y].filter (askb m) = [] by rw [List.filter_cons_of_neg (by rw [e]; decide)]; rfl, List.append_nil]
      exact rks_up (.same s) py⟩
    clean_wf
    by_cases z : y.kd = "one"
    · rw [decide_eq_true z]
      clean_wf
      refine ⟨_, d, rfl, y, m, ⟨ta, tt, yy, rfl, k1, k2, k3⟩, wy, same_rd sA hd, cm, fun C sC => ?_⟩
      cases ef : frb m y with
      | false =>
        clean_wf
        exact no C sC (by unfold askb; rw [ef, Bool.and_false])
      | true =>
        have e : askb m y = true := by unfold askb; rw [ef, decide_eq_true z]; rfl
        have hkC := same_tup sC hk
        clean_wf
        refine ⟨ta, _, rfl, hkC, sl6_13, fun u3 hu3 => ?_⟩
        have s5 := same_upd (o := .tup (cutV [.int y.n, .int y.c, .int y.k, .str y.kd, .int y.w, .ref tt] (some 1) (some 3))) hu3
        have g5 : (upd C u3 (.tup (cutV [.int y.n, .int y.c, .int y.k, .str y.kd, .int y.w, .ref tt] (some 1) (some 3)))) u3 = some (.tup [.int y.c, .int y.k]) := upd_same
        generalize upd C u3 (.tup (cutV [.int y.n, .int y.c, .int y.k, .str y.kd, .int y.w, .ref tt] (some 1) (some 3))) = C4 at s5 g5 ⊢
        have gE2 := s5 _ _ (sC _ _ gE)
        have kp : SmH C4 (upd C4 E (.lst (ys ++ [.ref u3]))) := SmH.lst gE2
        refine ⟨ys, gE2, small1000 (by omega), _, ys ++ [.ref u3], rfl, fun b o z => ?_, upd_same, ?_⟩
        · rw [upd_ne (ne_of_none z hE)]
          exact s5 _ _ (sC _ _ (sA b o z))
        · rw [take_get hy2, List.filter_append, show [y].filter (askb m) = [y] by rw [List.filter_cons_of_pos e]; rfl]
          exact paired_snoc (rks_up ((SmH.same (sC.trans s5)).trans kp) py) ⟨u3, rfl, kp _ _ g5⟩
    · rw [decide_eq_false z]
      clean_wf
      exact no A (.refl _) (by unfold askb; rw [decide_eq_false z]; rfl)
  rintro σ A ⟨v0, ys, rfl, sA, gE, py⟩
  rw [lw, List.take_length] at py
  clean_wf
  exact kk A E ys sA hE gE py
end
end K25


namespace K25
open PySem L2
abbrev s__law_walked : Stmt := top 44
section
variable {P : Program} {w : World} {K : PySem.W.Frag} {mg : Str → Option Value} {base : Heap}

def Cz (zs : List (V × Cll)) (gs : List Nm) (m : List (Int × Int)) : Prop := ∀ y ∈ zs, tkb m y.2 (nxo gs m) = false

def Stp (zs : List (V × Cll)) (m0 : List (Int × Int)) (row : List (V × Cll)) (gs : List Nm) (q : V × Cll) (gs' : List Nm) : Prop :=
  (gs' = gs ∧ q ∈ zs ∧ tkb (stt m0 row) q.2 (nxo gs (stt m0 row)) = true ∧ ∀ y ∈ zs, tkb (stt m0 row) y.2 (nxo gs (stt m0 row)) = true → y.2.c = q.2.c ∨ Rot (lasto row) q.2.c y.2.c) ∨
  (Cz zs gs (stt m0 row) ∧ LaR zs (stt m0 row) (some q) ∧ ∃ j, Fo gs (stt m0 row) j ∧ gs' = gs.take j ++ [(q.2.n, q.2.c, q.2.k)])
inductive Wk (zs : List (V × Cll)) (m0 : List (Int × Int)) (g0 : List Nm) : List (V × Cll) → List Nm → Prop
  | start : Wk zs m0 g0 [] g0
  | step {row : List (V × Cll)} {gs : List Nm} {q : V × Cll} {gs' : List Nm} : Wk zs m0 g0 row gs → Stp zs m0 row gs q gs' → Wk zs m0 g0 (row ++ [q]) gs'
theorem tk_k {m : List (Int × Int)} {y : Cll} {o : Option Nm} (z : tkb m y o = true) : y.k = ct m y.c + 1 := by
  unfold tkb frb at z
  rw [Bool.and_eq_true, Bool.and_eq_true] at z
  have := of_decide_eq_true z.1.1
  omega
theorem rot_as {l : Option Int} {a b : Int} (h1 : Rot l a b) (h2 : Rot l b a) : False := by
  cases l with
  | none =>
    have h1 : a < b := h1
    have h2 : b < a := h2
    omega
  | some c =>
    rcases h1 with ⟨_, _ | _⟩ | ⟨_, _, _⟩ <;> rcases h2 with ⟨_, _ | _⟩ | ⟨_, _, _⟩ <;> omega
theorem fo_one {ns : List Nm} {m : List (Int × Int)} {i j : Nat} (h1 : Fo ns m i) (h2 : Fo ns m j) : i = j := by
  obtain ⟨a1, a2, a3⟩ := h1
  obtain ⟨b1, b2, b3⟩ := h2
  rcases Nat.lt_trichotomy i j with w | w | w
  · exact absurd (b2 i (by omega) w) (a3 (by omega))
  · exact w
  · exact absurd (a2 j (by omega) w) (b3 (by omega))
theorem stp_det {zs : List (V × Cll)} {m0 : List (Int × Int)} {row : List (V × Cll)} {gs : List Nm} {q q' : V × Cll} {g1 g2 : List Nm} (u : Rk1 zs) (h1 : Stp zs m0 row gs q g1) (h2 : Stp zs m0 row gs q' g2) : q = q' ∧ g1 = g2 := by
  rcases h1 with ⟨a1, a2, a3, a4⟩ | ⟨a1, a2, i, a3, a4⟩ <;> rcases h2 with ⟨b1, b2, b3, b4⟩ | ⟨b1, b2, j, b3, b4⟩
  · have e : q.2.c = q'.2.c := by
      rcases a4 q' b2 b3 with w | w
      · exact w.symm
      · rcases b4 q a2 a3 with v | v
        · exact v
        · exact (rot_as w v).elim
    have k1 := tk_k a3
    have k2 := tk_k b3
    exact ⟨u q a2 q' b2 e (by rw [k1, k2, e]), by rw [a1, b1]⟩
  · rw [b1 q a2] at a3; cases a3
  · rw [a1 q' b2] at b3; cases b3
  · obtain ⟨c1, c2, c3⟩ := a2
    obtain ⟨d1, d2, d3⟩ := b2
    obtain ⟨e1, e2⟩ := lex_tot (d3 q c1 c2) (c3 q' d1 d2)
    have e := u q c1 q' d1 e1 e2
    exact ⟨e, by rw [a4, b4, fo_one a3 b3, e]⟩
theorem stp_mem {zs zs' : List (V × Cll)} {m0 : List (Int × Int)} {row : List (V × Cll)} {gs : List Nm} {q : V × Cll} {g1 : List Nm} (h : ∀ q, q ∈ zs ↔ q ∈ zs') (s : Stp zs m0 row gs q g1) : Stp zs' m0 row gs q g1 := by
  rcases s with ⟨a1, a2, a3, a4⟩ | ⟨a1, ⟨b1, b2, b3⟩, i, a3, a4⟩
  · exact .inl ⟨a1, (h q).mp a2, a3, fun y hy => a4 y ((h y).mpr hy)⟩
  · exact .inr ⟨fun y hy => a1 y ((h y).mpr hy), ⟨(h q).mp b1, b2, fun y hy => b3 y ((h y).mpr hy)⟩, i, a3, a4⟩
theorem wk_mem {zs zs' : List (V × Cll)} {m0 : List (Int × Int)} {g0 : List Nm} {row : List (V × Cll)} {gs : List Nm} (h : ∀ q, q ∈ zs ↔ q ∈ zs') (w : Wk zs m0 g0 row gs) : Wk zs' m0 g0 row gs := by
  induction w with
  | start => exact .start
  | step _ s ih => exact .step ih (stp_mem h s)
theorem wk_inv {zs : List (V × Cll)} {m0 : List (Int × Int)} {g0 : List Nm} {r : List (V × Cll)} {gs : List Nm} (w : Wk zs m0 g0 r gs) : (r = [] ∧ gs = g0) ∨ ∃ row q g1, r = row ++ [q] ∧ Wk zs m0 g0 row g1 ∧ Stp zs m0 row g1 q gs := by
  cases w with
  | start => exact .inl ⟨rfl, rfl⟩
  | step a b => exact .inr ⟨_, _, _, rfl, a, b⟩
theorem wk_uniq {zs : List (V × Cll)} {m0 : List (Int × Int)} {g0 : List Nm} (u : Rk1 zs) : ∀ {r r' : List (V × Cll)} {gs gs' : List Nm}, Wk zs m0 g0 r gs → Wk zs m0 g0 r' gs' → r.length = r'.length → r = r' ∧ gs = gs' := by
  intro r r' gs gs' w
  induction w generalizing r' gs' with
  | start =>
    intro w' e
    rcases wk_inv w' with ⟨rfl, rfl⟩ | ⟨row, q, g1, rfl, _, _⟩
    · exact ⟨rfl, rfl⟩
    · rw [List.length_append, List.length_singleton, List.length_nil] at e; omega
  | @step row gs q gs1 _ s ih =>
    intro w' e
    rcases wk_inv w' with ⟨rfl, rfl⟩ | ⟨row', q', g1, rfl, w2, s2⟩
    · rw [List.length_append, List.length_singleton, List.length_nil] at e; omega
    · rw [List.length_append, List.length_append, List.length_singleton, List.length_singleton] at e
      obtain ⟨rfl, rfl⟩ := ih w2 (by omega)
      obtain ⟨rfl, rfl⟩ := stp_det u s s2
      exact ⟨rfl, rfl⟩
theorem wk_pre {zs : List (V × Cll)} {m0 : List (Int × Int)} {g0 : List Nm} {r : List (V × Cll)} {gs : List Nm} (w : Wk zs m0 g0 r gs) : ∀ i (hi : i < r.length), ∃ g1 g2, Wk zs m0 g0 (r.take i) g1 ∧ Stp zs m0 (r.take i) g1 r[i] g2 ∧ Wk zs m0 g0 (r.take (i + 1)) g2 := by
  induction w with
  | start => intro i hi; exact absurd hi (Nat.not_lt_zero _)
  | @step row gs q gs1 a s ih =>
    intro i hi
    rcases Nat.lt_or_ge i row.length with w | w
    · obtain ⟨g1, g2, x1, x2, x3⟩ := ih i w
      rw [List.take_append_of_le_length (Nat.le_of_lt w), List.getElem_append_left w, List.take_append_of_le_length (by omega)]
      exact ⟨g1, g2, x1, x2, x3⟩
    · have hi2 : i = row.length := by
        rw [List.length_append, List.length_singleton] at hi
        omega
      subst hi2
      have e1 : (row ++ [q]).take row.length = row := by simp
      have e2 : (row ++ [q])[row.length] = q := by simp
      have e3 : (row ++ [q]).take (row.length + 1) = row ++ [q] := by rw [List.take_of_length_le]; rw [List.length_append, List.length_singleton]; exact Nat.le_refl _
      rw [e1, e2, e3]
      exact ⟨gs, gs1, a, s, .step a s⟩
theorem wk_same {zs : List (V × Cll)} {m0 : List (Int × Int)} {g0 : List Nm} {r r' : List (V × Cll)} {gs gs' : List Nm} (u : Rk1 zs) (w : Wk zs m0 g0 r gs) (c : Cz zs gs (stt m0 r)) (n : LaR zs (stt m0 r) none) (w' : Wk zs m0 g0 r' gs') (c' : Cz zs gs' (stt m0 r')) (n' : LaR zs (stt m0 r') none) : r = r' ∧ gs = gs' := by
  have no : ∀ {r gs q g2}, Cz zs gs (stt m0 r) → LaR zs (stt m0 r) none → Stp zs m0 r gs q g2 → False := fun {r gs q g2} c n s => by
    rcases s with ⟨_, a2, a3, _⟩ | ⟨_, ⟨b1, b2, _⟩, _⟩
    · rw [c q a2] at a3; cases a3
    · have n : ∀ q ∈ zs, askb (stt m0 r) q.2 = false := n
      rw [n q b1] at b2; cases b2
  rcases Nat.lt_trichotomy r.length r'.length with z | z | z
  · exfalso
    obtain ⟨g1, g2, x1, x2, _⟩ := wk_pre w' r.length z
    obtain ⟨e1, e2⟩ := wk_uniq u w x1 (by rw [List.length_take]; omega)
    rw [← e1, ← e2] at x2
    exact no c n x2
  · exact wk_uniq u w w' z
  · exfalso
    obtain ⟨g1, g2, x1, x2, _⟩ := wk_pre w r'.length z
    obtain ⟨e1, e2⟩ := wk_uniq u w' x1 (by rw [List.length_take]; omega)
    rw [← e1, ← e2] at x2
    exact no c' n' x2
theorem stt_app (M : List (Int × Int)) (a b : List (V × Cll)) : stt M (a ++ b) = stt (stt M a) b := by
  unfold stt
  rw [List.foldl_append]
theorem lasto_app {a b : List (V × Cll)} (h : b ≠ []) : lasto (a ++ b) = lasto b := by
  unfold lasto
  rw [← List.dropLast_concat_getLast h, ← List.append_assoc]
  simp
theorem fw_wk {hs : List Int} {ws : List V} {cs : List Cll} {gs : List Nm} {m0 m' : List (Int × Int)} {rw : List (V × Cll)} {last : Option Int} (ho : HsO cs hs) (lw : ws.length = cs.length) (u : Rk1 (ws.zip cs)) (fw : Fw hs (LkC (ws.zip cs)) gs m0 rw last m') (row : List (V × Cll)) (M : List (Int × Int)) (g : List Nm) (e0 : ∀ k, ct (stt M row) k = ct m0 k) (hd : ∀ r0, rw.head? = some r0 → Wk (ws.zip cs) M g (row ++ [r0]) gs) : rw = [] ∨ Wk (ws.zip cs) M g (row ++ rw) gs := by
  induction fw with
  | start => exact .inl rfl
  | @step rw last m v x f e ih =>
    right
    obtain ⟨em, el⟩ := fw_stt f
    by_cases z : rw = []
    · subst z
      exact hd (v, x) rfl
    · have ih := ih fun r0 h0 => hd r0 (by rw [List.head?_append, h0]; rfl)
      rcases ih with w | w
      · exact absurd w z
      · rw [← List.append_assoc]
        refine .step w (.inl ⟨rfl, ?_, ?_, ?_⟩)
        · obtain ⟨h, _, e1, _⟩ := fst_mem e
          exact (lkc_mem e1).1
        · have ee : ∀ k, ct (stt M (row ++ rw)) k = ct m k := fun k => by rw [stt_app, em]; exact stt_ct e0 rw k
          obtain ⟨_, a2, _, _⟩ := fst_first ho.1 ho.2 lw u e
          rw [tkb_ct ee, nxo_ct ee]
          exact a2
        · intro y hy ty
          have ee : ∀ k, ct (stt M (row ++ rw)) k = ct m k := fun k => by rw [stt_app, em]; exact stt_ct e0 rw k
          obtain ⟨_, _, _, a4⟩ := fst_first ho.1 ho.2 lw u e
          rw [tkb_ct ee, nxo_ct ee] at ty
          rw [lasto_app z, ← el]
          exact (a4 y.2 (List.of_mem_zip hy).2 ty).2
theorem rn_head {ws : List V} {cs : List Cll} {gs : List Nm} {m m' : List (Int × Int)} {rw : List (V × Cll)} (u : Rk1 (ws.zip cs)) (lw : ws.length = cs.length) (h : Rn ws cs m gs rw m') (r0 : V × Cll) (hr : rw.head? = some r0) : r0 ∈ ws.zip cs ∧ tkb m r0.2 (nxo gs m) = true ∧ ∀ y ∈ ws.zip cs, tkb m y.2 (nxo gs m) = true → y.2.c = r0.2.c ∨ Rot none r0.2.c y.2.c := by
  obtain ⟨hs, m0, last, ho, _, e, f, g⟩ := h
  have l0 : 0 < rw.length := by
    cases rw with
    | nil => cases hr
    | cons a b => rw [List.length_cons]; omega
  have h0 := fw_at f 0 l0
  have e0 : rw[0] = r0 := by
    cases rw with
    | nil => cases hr
    | cons a b => exact Option.some.inj hr
  rw [e0] at h0
  have h0 : fst (frm hs none) (LkC (ws.zip cs)) m0 (nxo gs m0) = some (r0.1, r0.2) := h0
  obtain ⟨_, a2, _, a4⟩ := fst_first ho.1 ho.2 lw u h0
  obtain ⟨h, _, e1, _⟩ := fst_mem h0
  refine ⟨(lkc_mem e1).1, ?_, fun y hy ty => ?_⟩
  · rw [← tkb_ct e, ← nxo_ct e]; exact a2
  · rw [← tkb_ct e, ← nxo_ct e] at ty
    exact (a4 y.2 (List.of_mem_zip hy).2 ty).2
theorem rn_end {ws : List V} {cs : List Cll} {gs : List Nm} {m m' : List (Int × Int)} {rw : List (V × Cll)} (u : Rk1 (ws.zip cs)) (lw : ws.length = cs.length) (h : Rn ws cs m gs rw m') : (∀ k, ct (stt m rw) k = ct m' k) ∧ Cz (ws.zip cs) gs m' := by
  obtain ⟨hs, m0, last, ho, _, e, f, g⟩ := h
  refine ⟨fun k => by rw [(fw_stt f).1]; exact (stt_ct e rw k).symm, fun y hy => clo_of ho.2 u lw g y.2 (List.of_mem_zip hy).2⟩
theorem cz_ct {zs : List (V × Cll)} {gs : List Nm} {m m' : List (Int × Int)} (e : ∀ k, ct m' k = ct m k) (h : Cz zs gs m) : Cz zs gs m' := fun y hy => by
  rw [tkb_ct e, nxo_ct e]
  exact h y hy
theorem laR_ct {zs : List (V × Cll)} {m m' : List (Int × Int)} (e : ∀ k, ct m' k = ct m k) {o : Option (V × Cll)} (h : LaR zs m o) : LaR zs m' o := by
  cases o with
  | none =>
    intro q hq
    rw [ct_askb e]
    exact h q hq
  | some q =>
    obtain ⟨a, b, c⟩ := h
    exact ⟨a, by rw [ct_askb e]; exact b, fun y hy ty => c y hy (by rw [ct_askb e] at ty; exact ty)⟩
theorem fo_ct {ns : List Nm} {m m' : List (Int × Int)} {j : Nat} (e : ∀ k, ct m' k = ct m k) (h : Fo ns m j) : Fo ns m' j := by
  obtain ⟨a, b, c⟩ := h
  exact ⟨a, fun k hk hj => by unfold cvd; rw [e]; exact b k hk hj, fun hj => by unfold cvd; rw [e]; exact c hj⟩
theorem pw_wk {ws : List V} {cs : List Cll} {m : List (Int × Int)} {ns : List Nm} {row : List (V × Cll)} {gs : List Nm} {m' : List (Int × Int)} (u : Rk1 (ws.zip cs)) (lw : ws.length = cs.length) (h : Pw ws cs m ns row gs m') : Wk (ws.zip cs) m ns row gs ∧ (∀ k, ct (stt m row) k = ct m' k) ∧ Cz (ws.zip cs) gs m' := by
  induction h with
  | @start rw m' rn =>
    obtain ⟨z1, z2⟩ := rn_end u lw rn
    refine ⟨?_, z1, z2⟩
    have hd := rn_head u lw rn
    obtain ⟨hs, m0, last, ho, _, e, f, g⟩ := rn
    have := fw_wk ho lw u f [] m ns (fun k => (e k).symm) fun r0 hr => by
      obtain ⟨a1, a2, a3⟩ := hd r0 hr
      exact .step .start (.inl ⟨rfl, a1, a2, a3⟩)
    rcases this with w | w
    · rw [w]; exact .start
    · exact w
  | @step row rw gs m1 m2 q j _ la fo rn ih =>
    obtain ⟨i1, i2, i3⟩ := ih
    obtain ⟨z1, z2⟩ := rn_end u lw rn
    have hd := rn_head u lw rn
    have l0 := rn_some u la fo rn
    have cz : Cz (ws.zip cs) gs (stt m row) := cz_ct i2 i3
    have la' := laR_ct i2 la
    have fo' := fo_ct i2 fo
    have ask1 : Wk (ws.zip cs) m ns (row ++ [q]) (gs.take j ++ [(q.2.n, q.2.c, q.2.k)]) := .step i1 (.inr ⟨cz, la', j, fo', rfl⟩)
    have hq : ∀ r0, rw.head? = some r0 → r0 = q := fun r0 hr => by
      obtain ⟨a1, a2, _⟩ := hd r0 hr
      obtain ⟨b1, b2, _⟩ := la
      rw [nxo_new fo.2.1 fo.1 (by show ¬ q.2.k ≤ ct m1 q.2.c; have := (ask_nm b2).2; omega)] at a2
      by_cases w : r0.2.kd = "one"
      · unfold tkb at a2
        rw [decide_eq_true w, Bool.and_eq_true] at a2
        have a3 := of_decide_eq_true (by simpa using a2.2 : decide (some (q.2.n, q.2.c, q.2.k) = some (r0.2.n, r0.2.c, r0.2.k)) = true)
        have a4 := Option.some.inj a3
        have c1 : q.2.c = r0.2.c := congrArg (fun p : Nm => p.2.1) a4
        have c2 : q.2.k = r0.2.k := congrArg (fun p : Nm => p.2.2) a4
        exact u r0 a1 q b1 c1.symm c2.symm
      · exfalso
        have := i3 r0 a1
        unfold tkb at this a2
        rw [decide_eq_false w] at this a2
        simp at this a2
        rw [a2] at this
        cases this
    obtain ⟨hs, m0, last, ho, _, e, f, g⟩ := rn
    have := fw_wk ho lw u f row m ns (fun k => by rw [i2, e]) fun r0 hr => by
      rw [hq r0 hr]
      exact ask1
    refine ⟨?_, fun k => ?_, z2⟩
    · rcases this with w | w
      · rw [w] at l0; exact absurd l0 (Nat.lt_irrefl _)
      · exact w
    · rw [stt_app, ← z1]
      exact stt_ct i2 rw k

def Stp' (zs : List (V × Cll)) (M : List (Int × Int)) (la : Option Int) (gs : List Nm) (q : V × Cll) (gs' : List Nm) : Prop :=
  (gs' = gs ∧ q ∈ zs ∧ tkb M q.2 (nxo gs M) = true ∧ ∀ y ∈ zs, tkb M y.2 (nxo gs M) = true → y.2.c = q.2.c ∨ Rot la q.2.c y.2.c) ∨
  (Cz zs gs M ∧ LaR zs M (some q) ∧ ∃ j, Fo gs M j ∧ gs' = gs.take j ++ [(q.2.n, q.2.c, q.2.k)])
def sp__law_walked (K : PySem.W.Frag) : Sp := fun vs H Q _ => ∃ (r d l b : Addr), vs = [.ref r, .ref d, .ref l, .ref b] ∧ ∃ rvs rw m ws cs zs xs g0 gs, SqL K H r rvs ∧ Tls H rvs ((rw : List (V × Cll)).map (·.2)) ∧ rw.length ≤ 60 ∧ Rd H d (.dK (dI m)) ∧ Ck m ∧ SqL K H l ws ∧ Tls H ws cs ∧ cs.length ≤ 60 ∧ (∀ x ∈ cs, Wf x) ∧ (∀ x, x ∈ cs ↔ ∃ v, (v, x) ∈ zs) ∧ Rk1 zs ∧ H b = some (.lst xs) ∧ Nms H xs g0 ∧ g0.length ≤ 60 ∧ Wk zs m g0 rw gs ∧ Cz zs gs (stt m rw) ∧ LaR zs (stt m rw) none ∧
  ∀ H' q ys, Same H H' → (q = b ∨ H q = none) → H' q = some (.lst ys) → Nms H' ys gs → Q (.ref q) H'
theorem sc__law_walked : FnScope ["_law_row", "_law_start_here", "_law_calls_here", "_law_places_here", "_law_counts", "_law_last", "_law_told", "_law_able_here", "_law_later"] ["_law_row", "_law_start_here", "_law_calls_here", "_law_places_here"] (defScope s__law_walked) := ⟨rfl, rfl, rfl, by decide +kernel, rfl, by decide +kernel, by decide +kernel⟩
set_option maxHeartbeats 16000000 in
theorem ok__law_walked {f f__law_reached f__law_able f__law_asking : Addr} {fd fd__law_reached fd__law_able fd__law_asking : FuncData} (F : Fun K "_law_walked" "_law_walked" s__law_walked f fd)
    (G__law_reached : FnOk P w K mg base CX0 2 f__law_reached fd__law_reached ["_law_places_here", "_law_counts"] (sp__law_reached K)) (C__law_reached : Cal K mg "_law_reached" f__law_reached fd__law_reached ["_law_places_here", "_law_counts"])
    (G__law_able : FnOk P w K mg base CX0 2 f__law_able fd__law_able ["_law_calls_here", "_law_counts", "_law_places_here"] (sp__law_able K)) (C__law_able : Cal K mg "_law_able" f__law_able fd__law_able ["_law_calls_here", "_law_counts", "_law_places_here"])
    (G__law_asking : FnOk P w K mg base CX0 2 f__law_asking fd__law_asking ["_law_calls_here", "_law_counts"] (sp__law_asking K)) (C__law_asking : Cal K mg "_law_asking" f__law_asking fd__law_asking ["_law_calls_here", "_law_counts"]) (h_dict : mg "dict" = none) (h_min : mg "min" = none) : FnOk P w K mg base CX0 3 f fd ["_law_row", "_law_start_here", "_law_calls_here", "_law_places_here"] (sp__law_walked K) := by
  refine F.ok sc__law_walked (fun vs H Q E h => ?_) (fun cdv A outer s H vs Q E hr h => ?_)
  · obtain ⟨r, d, l, b, rfl, _⟩ := h
    rfl
  obtain ⟨r, d, l, b, rfl, h⟩ := h
  have hu64 := hr.units
  have hu0 := hr.units0
  have hu := hu_of hr
  refine ⟨_, (pss_cons (ps_set (i := 4) sc__law_walked.nd rfl (Or.inl rfl) (pe_callTy call_dict (by rfl) h_dict PyProof.Rows.boot_dict (pa_cons (pv 1) pa_nil)))
      (pss_cons (ps_set (i := 5) sc__law_walked.nd rfl (Or.inr rfl) (pe_tup (pa_cons (pe_un un_neg pe_int) (pa_cons (pe_un un_neg pe_int) pa_nil))))
      (pss_cons (ps_for PassesOwn.never rfl (pi_listK (K := K) rfl (pv 0)) (pg_name (i := 6) sc__law_walked.nd rfl (Or.inl rfl))
      (pss_cons (ps_set (i := 7) sc__law_walked.nd rfl (Or.inl rfl) (pcall G__law_able C__law_able hr (pa_cons (pv 2) (pa_cons (pv 4) (pa_cons (pv 3) pa_nil)))))
      (pss_cons (ps_comp (i := 8) ["_law_last", "_law_spot"] [some 5, none] sc__law_walked.nd rfl (Or.inl rfl) rfl rfl (by kernel_rfl) (pi_listK (K := K) rfl (pv 7)) (fun _ _ _ _ _ nd => pg_name (i := 1) nd rfl (Or.inl rfl)) (fun _ _ _ _ _ => (pif_one (pt_cmpR (op_gtT (K := K) rfl hu0) (pv 1) (pv 0) (nomark _)))) (fun _ _ _ _ _ => (pv 1)))
      (pss_cons (ps_if (pt_cmpR (op_eqK (K := K) rfl hu64) (pv 7) (pe_lst pa_nil) (nomark _)) (pss_cons (ps_set (i := 8) sc__law_walked.nd rfl (Or.inl rfl) (pcall G__law_asking C__law_asking hr (pa_cons (pv 2) (pa_cons (pv 4) pa_nil))))
      (pss_one (ps_set (i := 3) sc__law_walked.nd rfl (Or.inl rfl) (pe_op op_cat (pe_slice (sl_listK (K := K) rfl) (pv 3) po_none (po_some (pcall G__law_reached C__law_reached hr (pa_cons (pv 3) (pa_cons (pv 4) pa_nil))))) (pe_lst (pa_cons (pe_slice (sl_tupK (K := K) rfl) (pv 6) po_none (po_some pe_int)) pa_nil)))))) (pss_one (ps_if (pt_cmpR (op_eqK (K := K) rfl hu64) (pv 8) (pe_lst pa_nil) (nomark _)) (pss_one (ps_set (i := 8) sc__law_walked.nd rfl (Or.inl rfl) (pv 7))) pss_nil)))
      (pss_cons (ps_if (PW.pt (pw_or (pt_cmpR (op_eqK (K := K) rfl hu64) (pv 8) (pe_lst pa_nil) (nomark _)) (pw_or (pt_cmpR (op_ninK (K := K) rfl hu64) (pv 6) (pv 2) (by rfl)) (pw_or1 (pt_cmpR (op_neK (K := K) rfl hu64) (pe_slice (sl_tupK (K := K) rfl) (pv 6) (po_some pe_int) (po_some pe_int)) (pe_callB (call_minTP rfl (Nat.lt_of_le_of_lt (Nat.add_le_add_left (by decide) _) hu64)) (by rfl) h_min PyProof.Rows.boot_min (pa_cons (pv 8) pa_nil)) (nomark _)))))) (pss_one (ps_ret pe_non)) pss_nil)
      (pss_cons (ps_set (i := 5) sc__law_walked.nd rfl (Or.inr rfl) (pe_slice (sl_tupK (K := K) rfl) (pv 6) (po_some pe_int) (po_some pe_int)))
      (pss_one (ps_dput hu (pv 4) (pe_ix (ix_tupK (K := K) rfl) (pv 6) pe_int (fun _ _ => rfl)) (pe_ix (ix_tupK (K := K) rfl) (pv 6) pe_int (fun _ _ => rfl)) rfl))))))))
      (pss_cons (ps_if (PW.pt (pw_or (pt_cmpR (op_neK (K := K) rfl hu64) (pcall G__law_able C__law_able hr (pa_cons (pv 2) (pa_cons (pv 4) (pa_cons (pv 3) pa_nil)))) (pe_lst pa_nil) (nomark _)) (pw_or1 (pt_cmpR (op_neK (K := K) rfl hu64) (pcall G__law_asking C__law_asking hr (pa_cons (pv 2) (pa_cons (pv 4) pa_nil))) (pe_lst pa_nil) (nomark _))))) (pss_one (ps_ret pe_non)) pss_nil)
      (pss_one (ps_ret (pv 3))))))), ?_⟩
  obtain ⟨rvs, rw, m, ws, cs, zs, xs, g0, gs, hr, hrw, lrw, hd, cm, hl, hc, lcs, wf, mem, u, hb, hn, lg0, wk, cz, la0, kk⟩ := h
  have lw : ws.length = cs.length := Paired.length hc
  have lr : rvs.length = (rw.map (·.2)).length := Paired.length hrw
  rw [List.length_map] at lr
  clean_wf
  intro e H1 he s1 g1
  clean_wf
  intro lt H2 hlt s2 g2'
  have s02 := s1.trans s2
  have hr2 := s02.seq hr
  have pre := wk_pre wk
  clean_wf
  refine for_list (xs := rvs) (fun i σ B => ∃ bp lt v6 v7 v8 xs' gs' me lc lk, σ = [some (.ref r), some (.ref d), some (.ref l), some (.ref bp), some (.ref e), some (.ref lt), v6, v7, v8] ∧ Same H B ∧ (bp = b ∨ H bp = none) ∧ B bp = some (.lst xs') ∧ Nms B xs' gs' ∧ gs'.length ≤ g0.length + i ∧ Wk zs m g0 (rw.take i) gs' ∧ B e = some (.dK (dI me)) ∧ Ck me ∧ (∀ k, ct me k = ct (stt m (rw.take i)) k) ∧ B lt = some (.tup [.int lc, .int lk]) ∧ Lso (stt m (rw.take i)) (lasto (rw.take i)) lc lk) ⟨b, lt, none, none, none, xs, g0, m, -1, -1, rfl, s02, .inl rfl, s02 _ _ hb, hn.up (.same s02), Nat.le_refl _, .start, s2 _ _ g1, cm, fun k => rfl, g2', rfl, rfl⟩ (fun i σ B _ z => by obtain ⟨_, _, _, _, _, _, _, _, _, _, _, z, _⟩ := z; exact z.seq hr) ?_ ?_
  · rintro i v σ B hx ⟨bp, lt, v6, v7, v8, xs', gs', me, lc, lk, rfl, sB, hbp, gbp, nm', lgs', wki, gme, cme, ect, glt, lso⟩
    obtain ⟨x, hy, cx⟩ := paired_at hrw hx
    have hi : i < rw.length := by
      have := (List.getElem?_eq_some_iff.mp hy).1
      rw [List.length_map] at this
      exact this
    have ex : rw[i].2 = x := by
      rw [List.getElem?_map, List.getElem?_eq_getElem hi] at hy
      exact Option.some.inj hy
    have tk1 : rw.take (i + 1) = rw.take i ++ [rw[i]] := take_get (List.getElem?_eq_getElem hi)
    obtain ⟨g1', g2, p1, p2, wk2⟩ := pre i hi
    obtain ⟨_, rfl⟩ := wk_uniq u wki p1 rfl
    have xz : (rw[i].1, x) ∈ zs := by
      rw [← ex]
      rcases p2 with ⟨_, a, _⟩ | ⟨_, ⟨a, _⟩, _⟩ <;> exact a
    have xm : x ∈ cs := (mem x).mpr ⟨_, xz⟩
    have wx := wf x xm
    generalize hM : stt m (rw.take i) = M at ect lso
    have p2 : Stp' zs M (lasto (rw.take i)) gs' rw[i] g2 := by rw [← hM]; exact p2
    have lg2 : g2.length ≤ g0.length + (i + 1) := by
      rcases p2 with ⟨a, _⟩ | ⟨_, _, j, _, a⟩
      · rw [a]; omega
      · rw [a, List.length_append, List.length_take, List.length_singleton]; omega
    have xk : x.k = ct M x.c + 1 := by
      rcases p2 with ⟨_, _, a, _⟩ | ⟨_, ⟨_, a, _⟩, _⟩
      · rw [ex] at a; exact tk_k a
      · rw [ex] at a
        have := (ask_nm a).2
        omega
    generalize hLa : lasto (rw.take i) = la at lso p2
    have et : ∀ y, tkb me y (nxo gs' me) = tkb M y (nxo gs' M) := fun y => by rw [tkb_ct ect, nxo_ct ect]
    have eta : ∀ y, askb me y = askb M y := fun y => ct_askb ect y
    have hlB := sB.seq hl
    have hcB := tls_up (.same sB) hc
    clean_wf
    refine ⟨l, e, bp, rfl, ws, cs, me, xs', gs', hlB, hcB, lcs, wf, .inl gme, cme, SqL.of gbp, nm', by omega, fun A E ys sA hE gE py => ?_⟩
    have eab : (cs.filter fun y => tkb me y (nxo gs' me)) = cs.filter fun y => tkb M y (nxo gs' M) := by
      refine congrArg (fun f => cs.filter f) ?_
      funext y
      exact et y
    rw [eab] at py
    generalize hab : (cs.filter fun y => tkb M y (nxo gs' M)) = ab at py
    have abk : ∀ y ∈ ab, y ∈ cs ∧ tkb M y (nxo gs' M) = true := fun y hy => by rw [← hab] at hy; exact List.mem_filter.mp hy
    have habk : ∀ y ∈ ab, y.k = ct M y.c + 1 := fun y hy => tk_k (abk y hy).2
    have hab0 : ∀ y ∈ ab, 0 ≤ y.c := fun y hy => (wf y (abk y hy).1).c0
    have lab : ab.length ≤ 60 := by rw [← hab]; have := List.length_filter_le (fun y => tkb M y (nxo gs' M)) cs; omega
    have lys := Paired.length py
    have sHA := sB.trans sA
    have gltA := sA _ _ glt
    clean_wf
    intro E2 hE2
    have qE : SqL K A E ys := SqL.of gE
    refine comp_list (K := K) (a := E) (xs := ys) (fun j σ C => ∃ v zs', σ = [some (.ref lt), v] ∧ Same A C ∧ C E2 = some (.lst zs') ∧ Paired (Rks C) zs' ((ab.take j).filter (lat la))) ⟨none, [], rfl, same_upd hE2, upd_same, .nil⟩ ?_ ?_ ?_
    · rintro j σ C _ ⟨_, _, _, z, _⟩
      exact z.seq qE
    · rintro j w σ C hx2 ⟨v0, zs', rfl, sC, gE2, pz⟩
      obtain ⟨y, hy2, cy⟩ := paired_at py hx2
      have hj := (List.getElem?_eq_some_iff.mp hy2).1
      have hm2 : y ∈ ab := List.mem_of_getElem? hy2
      obtain ⟨t, rfl, gt⟩ := cy.up (.same sC)
      have lz := Paired.length pz
      have lf := List.length_filter_le (lat la) (ab.take j)
      rw [List.length_take] at lf
      clean_wf
      refine ⟨t, lt, [y.c, y.k], [lc, lk], rfl, rfl, SqT.of gt, SqT.of (sC _ _ gltA), ?_⟩
      rw [spot_gt lso (habk y hm2) (hab0 y hm2)]
      clean_wf
      refine ite2 (fun h1 => ?_) fun h1 => ?_
      · clean_wf
        have kp : SmH C (upd C E2 (.lst (zs' ++ [.ref t]))) := SmH.lst gE2
        refine ⟨zs', gE2, small1000 (by omega), _, zs' ++ [.ref t], rfl, fun b o z => ?_, upd_same, ?_⟩
        · rw [upd_ne (ne_of_none z hE2)]
          exact sC b o z
        · rw [take_get hy2, List.filter_append, show [y].filter (lat la) = [y] by rw [List.filter_cons_of_pos h1]; rfl]
          exact paired_snoc (rks_up kp pz) ⟨t, rfl, kp _ _ gt⟩
      · refine ⟨_, zs', rfl, sC, gE2, ?_⟩
        rw [take_get hy2, List.filter_append, show [y].filter (lat la) = [] by rw [List.filter_cons_of_neg h1]; rfl, List.append_nil]
        exact pz
    rintro σ C ⟨v0, zs', rfl, sC, gE2, pz⟩
    rw [lys, List.take_length] at pz
    have lz := Paired.length pz
    have lf := List.length_filter_le (lat la) ab
    refine x_cut (fun σ' D => ∃ bq F fs fcs xs2, σ' = [some (.ref r), some (.ref d), some (.ref l), some (.ref bq), some (.ref e), some (.ref lt), some v, some (.ref E), some (.ref F)] ∧ Same C D ∧ D F = some (.lst fs) ∧ Paired (Rks D) fs fcs ∧ fcs.length ≤ 60 ∧ x ∈ fcs ∧ (∀ y ∈ fcs, HT.lexLt [y.c, y.k] [x.c, x.k] = false) ∧ (bq = b ∨ H bq = none) ∧ D bq = some (.lst xs2) ∧ Nms D xs2 g2) ?_ fun N rest => ?_
    · rintro σ' D ⟨bq, F, fs, fcs, xs2, rfl, sD, gF, pf, lfc, xf, lst, hbq, gbq, nm2⟩
      have s1D := sC.trans sD
      have sBD := sA.trans s1D
      have sHD := sB.trans sBD
      have lfs := Paired.length pf
      have nef : fcs ≠ [] := fun z => by rw [z] at xf; cases xf
      obtain ⟨tx, tt, yy, rfl, k1, k2, k3⟩ := cx.up (.same sHD)
      clean_wf
      intro n1 D1 hn1 t1 gn1
      refine x_eqNil (SqL.of (t1 _ _ gF)) (rk_dps (rks_up (.same t1) pf)) (rks_lay _) (SqL.of gn1) ?_
      rw [decide_eq_false (fun z => nef (List.map_eq_nil_iff.mp z))]
      have sH1 := sHD.trans t1
      clean_wf
      refine x_ninP (sH1.seq hl) (Tls.dps (tls_up (.same sH1) hc)) (TldA.dp ⟨tx, tt, yy, rfl, t1 _ _ k1, t1 _ _ k2, k3.mono (SmH.same t1)⟩) (tls_lay wf) (tl_lay wx) (tl_dep x) (List.mem_map_of_mem xm) ?_
      clean_wf
      refine ⟨tx, _, rfl, SqT.of (t1 _ _ k1), sl6_13, fun u2 hu2 => ?_⟩
      have s4 := same_upd (o := .tup (cutV [.int x.n, .int x.c, .int x.k, .str x.kd, .int x.w, .ref tt] (some 1) (some 3))) hu2
      have g4 : (upd D1 u2 (.tup (cutV [.int x.n, .int x.c, .int x.k, .str x.kd, .int x.w, .ref tt] (some 1) (some 3)))) u2 = some (.tup [.int x.c, .int x.k]) := upd_same
      generalize upd D1 u2 (.tup (cutV [.int x.n, .int x.c, .int x.k, .str x.kd, .int x.w, .ref tt] (some 1) (some 3))) = D2 at s4 g4 ⊢
      obtain ⟨ts, ets, lts, hts⟩ := rk_refs (rks_up (.same (t1.trans s4)) pf)
      have gF2 := s4 _ _ (t1 _ _ gF)
      rw [ets] at gF2
      clean_wf
      refine ⟨F, ts, fcs.map fun y => [y.c, y.k], rfl, SqL.of gF2, fun z => nef (List.length_eq_zero_iff.mp (by rw [← lts, z]; rfl)), by rw [List.length_map, lts], fun j t k h1 h2 => ?_, fun j t kb h1 h2 h3 => ?_⟩
      · rw [List.getElem?_map] at h2
        obtain ⟨y, h4, rfl⟩ := Option.map_eq_some_iff.mp h2
        exact SqT.of (hts j t y h1 h4)
      rw [List.getElem?_map] at h2
      obtain ⟨y, h4, rfl⟩ := Option.map_eq_some_iff.mp h2
      obtain ⟨jx, hjx⟩ := List.getElem?_of_mem xf
      have f1 := (h3 jx [x.c, x.k] (by rw [List.getElem?_map, hjx]; rfl)).1
      have f2 := lst y (List.mem_of_getElem? h4)
      obtain ⟨q1, q2⟩ := lex_tot f1 f2
      have gt2 := hts j t y h1 h4
      rw [← q1, ← q2] at gt2
      refine rNeP_refl (d := .tuple [.int x.c, .int x.k]) (.inl (.tup (SqT.of g4) (.cons (.int _) (.cons (.int _) .nil)))) (.inl (.tup (SqT.of gt2) (.cons (.int _) (.cons (.int _) .nil)))) rfl (by show 1 ≤ 60; decide) ?_
      have sHB2 := sH1.trans s4
      have s2x := SqT.of (K := K) (s4 _ _ (t1 _ _ k1))
      clean_wf
      refine ⟨tx, _, rfl, s2x, sl6_13, fun u3 hu3 => ?_⟩
      have s5 := same_upd (o := .tup (cutV [.int x.n, .int x.c, .int x.k, .str x.kd, .int x.w, .ref tt] (some 1) (some 3))) hu3
      have g5 : (upd D2 u3 (.tup (cutV [.int x.n, .int x.c, .int x.k, .str x.kd, .int x.w, .ref tt] (some 1) (some 3)))) u3 = some (.tup [.int x.c, .int x.k]) := upd_same
      generalize upd D2 u3 (.tup (cutV [.int x.n, .int x.c, .int x.k, .str x.kd, .int x.w, .ref tt] (some 1) (some 3))) = D3 at s5 g5 ⊢
      have k1' : D3 tx = _ := s5 _ _ (s4 _ _ (t1 _ _ k1))
      have sx3 : SqT K D3 tx [.int x.n, .int x.c, .int x.k, .str x.kd, .int x.w, .ref tt] := SqT.of k1'
      have gme3 : D3 e = some (.dK (dI me)) := s5 _ _ (s4 _ _ (t1 _ _ (sBD _ _ gme)))
      have nd := cme.nd
      have lm := cme.len
      clean_wf
      intro D4 b4 g4'
      have c0 := cme.ct x.c
      have ecx := ect x.c
      have nbe : bq ≠ e := fun z => by rw [z, sBD _ _ gme] at gbq; cases gbq
      have gbq3 : D3 bq = some (.lst xs2) := s5 _ _ (s4 _ _ (t1 _ _ gbq))
      refine ⟨bq, u3, _, _, _, xs2, g2, putI me x.c x.k, x.c, x.k, rfl, b4.same (sHB2.trans s5) he, hbq, b4.at nbe gbq3, nm2.up ((SmH.same (t1.trans (s4.trans s5))).trans (SmH.but b4 gme3 (by intro _ z; cases z))), lg2, wk2, g4', cme.put wx.c0 wx.c1 (by omega), fun k => ?_, b4.of gme3 g5 (by intro z; cases z), ?_⟩
      · rw [tk1, stt_snoc, ct_put, ct_put, ex, hM, ect]
      · rw [tk1, lasto_snoc, stt_snoc, ex]
        exact ⟨rfl, by rw [ct_put, if_pos rfl]⟩
    · clean_wf
      intro n1 D1 hn1 t1 gn1
      have tC1 := sC.trans t1
      have sA1 := sA.trans tC1
      have sH1 := sB.trans sA1
      refine x_eqNil (SqL.of (tC1 _ _ gE)) (rk_dps (rks_up (.same tC1) py)) (rks_lay _) (SqL.of gn1) ?_
      rcases p2 with ⟨a1, a2, a3, a4⟩ | ⟨a1, ⟨b1, b2, b3⟩, j, a3, a4⟩
      · rw [ex] at a3 a4
        have hxab : x ∈ ab := by rw [← hab]; exact List.mem_filter.mpr ⟨xm, a3⟩
        have nab : ab ≠ [] := fun z => by rw [z] at hxab; cases hxab
        rw [decide_eq_false (fun w => nab (List.map_eq_nil_iff.mp w))]
        obtain ⟨nl1, nl2⟩ := next_least (m := M) (l := la) hxab fun y hy => ⟨habk y hy, by
          obtain ⟨vy, hvy⟩ := (mem y).mp (abk y hy).1
          exact a4 (vy, y) hvy (abk y hy).2⟩
        subst a1
        have gbp1 := sA1 _ _ gbp
        have nm1 := nm'.up (.same sA1)
        clean_wf
        intro n2 D2 hn2 t2 gn2
        refine x_eqNil (SqL.of (t2 _ _ (t1 _ _ gE2))) (rk_dps (rks_up (.same (t1.trans t2)) pz)) (rks_lay _) (SqL.of gn2) ?_
        by_cases z : ab.filter (lat la) = []
        · rw [decide_eq_true (show (ab.filter (lat la)).map rkD = [] by rw [z]; rfl)]
          clean_wf
          exact rest _ _ ⟨bp, E, ys, ab, xs', rfl, t1.trans t2, t2 _ _ (tC1 _ _ gE), rks_up (.same (tC1.trans t2)) py, lab, hxab, nl2 z, hbp, t2 _ _ gbp1, nm1.up (.same t2)⟩
        · rw [decide_eq_false (fun w => z (List.map_eq_nil_iff.mp w))]
          clean_wf
          exact rest _ _ ⟨bp, E2, zs', ab.filter (lat la), xs', rfl, t1.trans t2, t2 _ _ (t1 _ _ gE2), rks_up (.same (t1.trans t2)) pz, by omega, (nl1 z).1, (nl1 z).2, hbp, t2 _ _ gbp1, nm1.up (.same t2)⟩
      · rw [ex] at b2 b3 a4
        have abn : ab = [] := by
          cases ab with
          | nil => rfl
          | cons y t =>
            obtain ⟨vy, hvy⟩ := (mem y).mp (abk y List.mem_cons_self).1
            have z1 := a1 (vy, y) hvy
            have z2 := (abk y List.mem_cons_self).2
            have z1 : tkb M y (nxo gs' M) = false := z1
            rw [z2] at z1
            cases z1
        rw [decide_eq_true (show ab.map rkD = [] by rw [abn]; rfl)]
        have gme1 := sA1 _ _ gme
        have gbp1 := sA1 _ _ gbp
        have nm1 := nm'.up (.same sA1)
        have lx' := nm'.len
        obtain ⟨tx, tt, yy, rfl, k1, k2, k3⟩ := cx.up (.same sH1)
        clean_wf
        refine ⟨l, e, rfl, ws, cs, me, sH1.seq hl, tls_up (.same sH1) hc, lcs, wf, .inl gme1, cme, fun D2 F fs t2 hF gF pf => ?_⟩
        have efl : cs.filter (askb me) = cs.filter (askb M) := by
          refine congrArg (fun f => cs.filter f) ?_
          funext y
          exact eta y
        rw [efl] at pf
        clean_wf
        refine ⟨bp, e, rfl, xs', gs', me, SqL.of (t2 _ _ gbp1), nm1.up (.same t2), .inl (t2 _ _ gme1), by omega, fun D3 j' t3 fo => ?_⟩
        have ej : j' = j := fo_one (fo_ct (fun k => (ect k).symm) fo) a3
        subst ej
        have gbp3 := t3 _ _ (t2 _ _ gbp1)
        have qbp3 : SqL K D3 bp xs' := SqL.of gbp3
        clean_wf
        intro p4 D4 hp4 t4 gp4
        rw [cut_take _ _ (by have := fo.1; omega)] at gp4
        have t14 := t2.trans (t3.trans t4)
        clean_wf
        refine ⟨tx, _, rfl, SqT.of (t14 _ _ k1), sl6_03, fun u2 hu2 => ?_⟩
        have s4 := same_upd (o := .tup (cutV [.int x.n, .int x.c, .int x.k, .str x.kd, .int x.w, .ref tt] none (some 3))) hu2
        have g4 : (upd D4 u2 (.tup (cutV [.int x.n, .int x.c, .int x.k, .str x.kd, .int x.w, .ref tt] none (some 3)))) u2 = some (.tup [.int x.n, .int x.c, .int x.k]) := upd_same
        generalize upd D4 u2 (.tup (cutV [.int x.n, .int x.c, .int x.k, .str x.kd, .int x.w, .ref tt] none (some 3))) = D5 at s4 g4 ⊢
        clean_wf
        intro p6 D6 hp6 t6 gp6
        have gp46 := t6 _ _ (s4 _ _ gp4)
        clean_wf
        refine x_cat gp46 gp6 (by rw [List.length_take, List.length_singleton]; omega) fun p7 D7 hp7 t7 gp7 => ?_
        have t17 := t14.trans (s4.trans (t6.trans t7))
        clean_wf
        refine rest _ _ ⟨p7, F, fs, cs.filter (askb M), xs'.take j' ++ [.ref u2], rfl, t1.trans t17, (t3.trans (t4.trans (s4.trans (t6.trans t7)))) _ _ gF, rks_up (.same (t3.trans (t4.trans (s4.trans (t6.trans t7))))) pf, by have := List.length_filter_le (askb M) cs; omega, List.mem_filter.mpr ⟨xm, b2⟩, fun y hy => ?_, .inr ?_, gp7, ?_⟩
        · obtain ⟨y1, y2⟩ := List.mem_filter.mp hy
          obtain ⟨vy, hvy⟩ := (mem y).mp y1
          exact b3 (vy, y) hvy y2
        · exact (sH1.trans (t14.trans (s4.trans t6))).free hp7
        · rw [a4]
          exact Nms.snoc (nms_take j' (nm1.up (.same t17))) ⟨u2, rfl, t7 _ _ (t6 _ _ g4)⟩
  rintro σ B ⟨bp, lt, v6, v7, v8, xs', gs', me, lc, lk, rfl, sB, hbp, gbp, nm', lgs', wki, gme, cme, ect, glt, lso⟩
  rw [lr, List.take_length] at wki ect
  obtain ⟨_, rfl⟩ := wk_uniq u wki wk rfl
  have hlB := sB.seq hl
  have hcB := tls_up (.same sB) hc
  have n1 : (cs.filter fun y => tkb me y (nxo gs' me)) = [] := by
    refine List.filter_eq_nil_iff.mpr fun y hy z => ?_
    obtain ⟨vy, hvy⟩ := (mem y).mp hy
    rw [tkb_ct ect, nxo_ct ect] at z
    have w : tkb (stt m rw) y (nxo gs' (stt m rw)) = false := cz (vy, y) hvy
    rw [w] at z
    cases z
  have n2 : cs.filter (askb me) = [] := by
    refine List.filter_eq_nil_iff.mpr fun y hy z => ?_
    obtain ⟨vy, hvy⟩ := (mem y).mp hy
    rw [ct_askb ect] at z
    have la0 : ∀ q ∈ zs, askb (stt m rw) q.2 = false := la0
    have w : askb (stt m rw) y = false := la0 (vy, y) hvy
    rw [w] at z
    cases z
  clean_wf
  refine ⟨l, e, bp, rfl, ws, cs, me, xs', gs', hlB, hcB, lcs, wf, .inl gme, cme, SqL.of gbp, nm', by omega, fun A E ys sA hE gE py => ?_⟩
  rw [n1] at py
  clean_wf
  intro q1 A1 hq1 t1 gq1
  refine x_neNil (SqL.of (t1 _ _ gE)) (rk_dps (rks_up (.same t1) py)) (rks_lay _) (SqL.of gq1) ?_
  rw [show (!decide (List.map rkD [] = [])) = false from rfl]
  have sA1 := sA.trans t1
  clean_wf
  refine ⟨l, e, rfl, ws, cs, me, sA1.seq hlB, tls_up (.same sA1) hcB, lcs, wf, .inl (sA1 _ _ gme), cme, fun A2 F fs t2 hF gF pf => ?_⟩
  rw [n2] at pf
  clean_wf
  intro q2 A3 hq2 t3 gq2
  refine x_neNil (SqL.of (t3 _ _ gF)) (rk_dps (rks_up (.same t3) pf)) (rks_lay _) (SqL.of gq2) ?_
  rw [show (!decide (List.map rkD [] = [])) = false from rfl]
  have sA3 := sA1.trans (t2.trans t3)
  clean_wf
  exact kk A3 bp xs' (sB.trans sA3) hbp (sA3 _ _ gbp) (nm'.up (.same sA3))
end
end K25


namespace K25
open PySem L2
abbrev s_law : Stmt := top 45
section
variable {P : Program} {w : World} {K : PySem.W.Frag} {mg : Str → Option Value} {base : Heap}
theorem cut_le (ns : List Int) (i j : Nat) : ∃ ms : List Int, cutV (ns.map V.int) (some (i : Int)) (some (j : Int)) = ms.map V.int ∧ ms.length ≤ j - i := by
  obtain ⟨ms, e, _⟩ := cut_ints ns (some (i : Int)) (some (j : Int))
  refine ⟨ms, e, ?_⟩
  have := congrArg List.length e
  rw [List.length_map] at this
  rw [← this]
  unfold cutV
  rw [List.length_take, List.length_drop]
  have e1 : HT.sIx (ns.map V.int).length 0 (some (i : Int)) = min i (ns.map V.int).length := by
    show (if (i : Int) < 0 then ((i : Int) + ((ns.map V.int).length : Nat)).toNat else min (i : Int).toNat (ns.map V.int).length) = _
    rw [if_neg (by omega), Int.toNat_natCast]
  have e2 : HT.sIx (ns.map V.int).length (ns.map V.int).length (some (j : Int)) = min j (ns.map V.int).length := by
    show (if (j : Int) < 0 then ((j : Int) + ((ns.map V.int).length : Nat)).toNat else min (j : Int).toNat (ns.map V.int).length) = _
    rw [if_neg (by omega), Int.toNat_natCast]
  rw [e1, e2]
  omega
theorem zip_rev {α β : Type} : ∀ (l : List α) (m : List β), l.length = m.length → l.reverse.zip m.reverse = (l.zip m).reverse
  | [], [], _ => rfl
  | a :: l, b :: m, h => by
    have h : l.length = m.length := Nat.succ.inj h
    rw [List.reverse_cons, List.reverse_cons, List.zip_cons_cons, List.reverse_cons, List.zip_append (by rw [List.length_reverse, List.length_reverse, h]), zip_rev l m h]
    rfl
theorem paired_rev {α β : Type} {F : α → β → Prop} : ∀ {l : List α} {m : List β}, Paired F l m → Paired F l.reverse m.reverse
  | _, _, .nil => .nil
  | _, _, .cons r t => by
    rw [List.reverse_cons, List.reverse_cons]
    exact paired_snoc (paired_rev t) r
theorem rk1_rev {ws : List V} {cs : List Cll} (lw : ws.length = cs.length) (u : Rk1 (ws.zip cs)) : Rk1 (ws.reverse.zip cs.reverse) := fun q hq r hr => by
  rw [zip_rev ws cs lw] at hq hr
  exact u q (List.mem_reverse.mp hq) r (List.mem_reverse.mp hr)
theorem wk_zs {zs : List (V × Cll)} {m0 : List (Int × Int)} {g0 : List Nm} {r : List (V × Cll)} {gs : List Nm} (w : Wk zs m0 g0 r gs) : ∀ q ∈ r, q ∈ zs := by
  induction w with
  | start => intro q hq; cases hq
  | @step row gs q gs1 a s ih =>
    intro y hy
    rcases List.mem_append.mp hy with w | w
    · exact ih y w
    · rw [List.mem_singleton.mp w]
      rcases s with ⟨_, a, _⟩ | ⟨_, ⟨a, _⟩, _⟩ <;> exact a
theorem wk_len {ws : List V} {cs : List Cll} {m0 : List (Int × Int)} {g0 : List Nm} {r : List (V × Cll)} {gs : List Nm} (w : Wk (ws.zip cs) m0 g0 r gs) : r.length + mz cs (stt m0 r) ≤ cs.length := by
  induction w with
  | start =>
    have := List.length_filter_le (fun q : Cll => decide (ct m0 q.c < q.k)) cs
    show 0 + mz cs m0 ≤ _
    unfold mz
    omega
  | @step row gs q gs1 a s ih =>
    have qm : q.2 ∈ cs ∧ q.2.k = ct (stt m0 row) q.2.c + 1 := by
      rcases s with ⟨_, a, b, _⟩ | ⟨_, ⟨a, b, _⟩, _⟩
      · exact ⟨(List.of_mem_zip a).2, tk_k b⟩
      · exact ⟨(List.of_mem_zip a).2, by have := (ask_nm b).2; omega⟩
    have := mz_lt qm.1 qm.2
    rw [stt_snoc, List.length_append, List.length_singleton]
    omega
theorem wk_gs {zs : List (V × Cll)} {m0 : List (Int × Int)} {g0 : List Nm} {r : List (V × Cll)} {gs : List Nm} (w : Wk zs m0 g0 r gs) : gs.length ≤ g0.length + r.length := by
  induction w with
  | start => omega
  | @step row gs q gs1 a s ih =>
    rw [List.length_append, List.length_singleton]
    rcases s with ⟨e, _⟩ | ⟨_, _, j, _, e⟩
    · rw [e]; omega
    · rw [e, List.length_append, List.length_take, List.length_singleton]; omega
theorem cls_row {K : PySem.W.Frag} {mg : Str → Option Value} {H : Hp} : ∀ {rw : List (V × Cll)}, (∀ q ∈ rw, CllA K mg H q.1 q.2) → Cls' K mg H (rw.map (·.1)) (rw.map (·.2))
  | [], _ => .nil
  | q :: rw, h => .cons (h q List.mem_cons_self) (cls_row fun r hr => h r (List.mem_cons_of_mem _ hr))
theorem tls_dep : ∀ cs : List Cll, PyData.depthAll (cs.map tlD) ≤ 50
  | [] => by rw [List.map_nil, PyData.depthAll.eq_1]; omega
  | p :: ps => by
    have e : PyData.depthAll ((p :: ps).map tlD) = max (tlD p).depth (PyData.depthAll (ps.map tlD)) := rfl
    rw [e]
    have := tls_dep ps
    have := tl_dep3 p
    omega
theorem tls_dl {K : PySem.W.Frag} {H : Hp} {a : Addr} {vs : List V} {cs : List Cll} (h : H a = some (.lst vs)) (t : Tls H vs cs) : Dl K H (.ref a) (.list (cs.map tlD)) := .inr ⟨_, _, _, rfl, rfl, SqL.of h, Tls.dps t⟩
theorem tlsl_lay {cs : List Cll} (h : ∀ x ∈ cs, Wf x) : (PyData.list (cs.map tlD)).canLay0 = true := by rw [PyData.canLay0.eq_5]; exact tls_lay h
theorem tlsl_dep (cs : List Cll) : (PyData.list (cs.map tlD)).depth ≤ 60 := by
  have e : (PyData.list (cs.map tlD)).depth = PyData.depthAll (cs.map tlD) + 1 := rfl
  have := tls_dep cs
  rw [e]
  omega
theorem nmsl_dep (ns : List Nm) : (PyData.list (ns.map nmD)).depth ≤ 60 := by
  have e : (PyData.list (ns.map nmD)).depth = PyData.depthAll (ns.map nmD) + 1 := rfl
  have : ∀ ns : List Nm, PyData.depthAll (ns.map nmD) ≤ 1 := fun ns => by
    induction ns with
    | nil => rw [List.map_nil, PyData.depthAll.eq_1]; omega
    | cons p ps ih =>
      have e : PyData.depthAll ((p :: ps).map nmD) = max (nmD p).depth (PyData.depthAll (ps.map nmD)) := rfl
      rw [e]
      have : (nmD p).depth = 1 := rfl
      omega
  have := this ns
  rw [e]
  omega
theorem nmsl_lay (ns : List Nm) : (PyData.list (ns.map nmD)).canLay0 = true := by rw [PyData.canLay0.eq_5]; exact nms_lay ns
def sp_law (K : PySem.W.Frag) : Sp := fun vs H Q _ => ∃ (a : Addr) (ns : List Int), vs = [.ref a] ∧ SqL K H a (ns.map V.int) ∧ ns.length ≤ 63 ∧ ∀ H', Q (.bl true) H'
theorem sc_law : FnScope ["_law_script", "_law_hands_here", "_law_start_here", "_law_calls_here", "_law_ones", "_law_places_here", "_law_some", "_law_handed", "_law_found", "_law_row", "_law_due", "_law_again"] ["_law_script"] (defScope s_law) := ⟨rfl, rfl, rfl, by decide +kernel, rfl, by decide +kernel, by decide +kernel⟩
set_option maxHeartbeats 16000000 in
theorem ok_law {f f_make_call f_placed f__law_cell_at f__law_hands f__law_start f_Call_told f__law_calls f__law_places f__law_walked C_HeardCall C_OneCall C_OwnCall : Addr} {fd fd_make_call fd_placed fd__law_cell_at fd__law_hands fd__law_start fd_Call_told fd__law_calls fd__law_places fd__law_walked : FuncData} (F : Fun K "law" "law" s_law f fd)
    (G_make_call : FnOk P w K mg base CX0 7 f_make_call fd_make_call ["number", "caller", "count", "kind", "word", "causes"] (sp_make_call K mg)) (C_make_call : Cal K mg "make_call" f_make_call fd_make_call ["number", "caller", "count", "kind", "word", "causes"])
    (G_placed : FnOk P w K mg base CX0 7 f_placed fd_placed ["counts", "calls", "places"] (sp_placed K mg)) (C_placed : Cal K mg "placed" f_placed fd_placed ["counts", "calls", "places"])
    (G__law_cell_at : FnOk P w K mg base CX0 7 f__law_cell_at fd__law_cell_at ["_law_script", "_law_k"] (sp__law_cell_at K)) (C__law_cell_at : Cal K mg "_law_cell_at" f__law_cell_at fd__law_cell_at ["_law_script", "_law_k"])
    (G__law_hands : FnOk P w K mg base CX0 7 f__law_hands fd__law_hands ["_law_cell"] (sp__law_hands K)) (C__law_hands : Cal K mg "_law_hands" f__law_hands fd__law_hands ["_law_cell"])
    (G__law_start : FnOk P w K mg base CX0 7 f__law_start fd__law_start ["_law_hands_here", "_law_cell"] (sp__law_start K)) (C__law_start : Cal K mg "_law_start" f__law_start fd__law_start ["_law_hands_here", "_law_cell"])
    (G_Call_told : FnOk P w K mg base CX0 7 f_Call_told fd_Call_told ["self"] (sp_Call_told K mg)) (B_Call_told : Binds K fd_Call_told ["self"] [])
    (G__law_calls : FnOk P w K mg base CX0 7 f__law_calls fd__law_calls ["_law_hands_here", "_law_number", "_law_start_here", "_law_cells"] (sp__law_calls K)) (C__law_calls : Cal K mg "_law_calls" f__law_calls fd__law_calls ["_law_hands_here", "_law_number", "_law_start_here", "_law_cells"])
    (G__law_places : FnOk P w K mg base CX0 7 f__law_places fd__law_places ["_law_ones", "_law_cell"] (sp__law_places K)) (C__law_places : Cal K mg "_law_places" f__law_places fd__law_places ["_law_ones", "_law_cell"])
    (G__law_walked : FnOk P w K mg base CX0 7 f__law_walked fd__law_walked ["_law_row", "_law_start_here", "_law_calls_here", "_law_places_here"] (sp__law_walked K)) (C__law_walked : Cal K mg "_law_walked" f__law_walked fd__law_walked ["_law_row", "_law_start_here", "_law_calls_here", "_law_places_here"]) (h_dict : mg "dict" = none) (h_isinstance : mg "isinstance" = none) (h_len : mg "len" = none) (h_list : mg "list" = none) (h_tuple : mg "tuple" = none) (T_HeardCall : TCall K C_HeardCall) (T_OneCall : TCall K C_OneCall) (T_OwnCall : TCall K C_OwnCall) (m_HeardCall : mg "HeardCall" = some (.ref C_HeardCall)) (m_OneCall : mg "OneCall" = some (.ref C_OneCall)) (m_OwnCall : mg "OwnCall" = some (.ref C_OwnCall)) (mt_HeardCall_told : Meth K C_HeardCall "told" f_Call_told) (mt_OneCall_told : Meth K C_OneCall "told" f_Call_told) (mt_OwnCall_told : Meth K C_OwnCall "told" f_Call_told) : FnOk P w K mg base CX0 8 f fd ["_law_script"] (sp_law K) := by
  refine F.ok sc_law (fun vs H Q E h => ?_) (fun cdv A outer s H vs Q E hr h => ?_)
  · obtain ⟨a, ns, rfl, _⟩ := h
    rfl
  obtain ⟨a, ns, rfl, h⟩ := h
  have hu64 := hr.units
  have hu0 := hr.units0
  have hu := hu_of hr
  refine ⟨_, (pss_cons (ps_set (i := 1) sc_law.nd rfl (Or.inl rfl) (pcall G__law_hands C__law_hands hr (pa_cons (pcall G__law_cell_at C__law_cell_at hr (pa_cons (pv 0) (pa_cons pe_int pa_nil))) pa_nil)))
      (pss_cons (ps_set (i := 2) sc_law.nd rfl (Or.inl rfl) (pcall G__law_start C__law_start hr (pa_cons (pv 1) (pa_cons (pcall G__law_cell_at C__law_cell_at hr (pa_cons (pv 0) (pa_cons pe_int pa_nil))) pa_nil))))
      (pss_cons (ps_asg (pcall G__law_calls C__law_calls hr (pa_cons (pv 1) (pa_cons (pe_op op_mod (pcall G__law_cell_at C__law_cell_at hr (pa_cons (pv 0) (pa_cons pe_int pa_nil))) (pe_op op_pow pe_int pe_int)) (pa_cons (pv 2) (pa_cons (pe_slice (sl_listK (K := K) rfl) (pv 0) (po_some pe_int) (po_some pe_int)) pa_nil))))) (pg_tupK (K := K) (n := 2) rfl rfl (pgs_cons (pg_name (i := 3) sc_law.nd rfl (Or.inl rfl)) (pgs_cons (pg_name (i := 4) sc_law.nd rfl (Or.inl rfl)) pgs_nil))))
      (pss_cons (ps_set (i := 5) sc_law.nd rfl (Or.inl rfl) (pcall G__law_places C__law_places hr (pa_cons (pv 4) (pa_cons (pcall G__law_cell_at C__law_cell_at hr (pa_cons (pv 0) (pa_cons pe_int pa_nil))) pa_nil))))
      (pss_cons (ps_comp (i := 6) ["_law_one"] [none] sc_law.nd rfl (Or.inl rfl) rfl rfl (by kernel_rfl) (pi_listK (K := K) rfl (pv 3)) (fun _ _ _ _ _ nd => pg_name (i := 0) nd rfl (Or.inl rfl)) (fun _ _ _ _ _ => pif_nil) (fun _ _ _ _ _ => (pcall G_make_call C_make_call hr (pa_cons (pe_ix (ix_tupK (K := K) rfl) (pv 0) pe_int (fun _ _ => rfl)) (pa_cons (pe_ix (ix_tupK (K := K) rfl) (pv 0) pe_int (fun _ _ => rfl)) (pa_cons (pe_ix (ix_tupK (K := K) rfl) (pv 0) pe_int (fun _ _ => rfl)) (pa_cons (pe_ix (ix_tupK (K := K) rfl) (pv 0) pe_int (fun _ _ => rfl)) (pa_cons (pe_ix (ix_tupK (K := K) rfl) (pv 0) pe_int (fun _ _ => rfl)) (pa_cons (pe_ix (ix_tupK (K := K) rfl) (pv 0) pe_int (fun _ _ => rfl)) pa_nil)))))))))
      (pss_cons (ps_if (pt_cmpR op_eq (pe_op op_mod (pcall G__law_cell_at C__law_cell_at hr (pa_cons (pv 0) (pa_cons pe_int pa_nil))) pe_int) pe_int (nomark _)) (pss_one (ps_set (i := 6) sc_law.nd rfl (Or.inl rfl) (pe_slice3 sl3_rev (pv 6) po_none po_none (po_some (pe_un un_neg pe_int))))) pss_nil)
      (pss_cons (ps_set (i := 7) sc_law.nd rfl (Or.inl rfl) (pe_lst (pa_cons (pe_callTy call_dict (by rfl) h_dict PyProof.Rows.boot_dict (pa_cons (pv 2) pa_nil)) (pa_cons (pe_callTy (call_listK (K := K) rfl) (by rfl) h_list PyProof.Rows.boot_list (pa_cons (pv 6) pa_nil)) (pa_cons (pe_callTy (call_listK (K := K) rfl) (by rfl) h_list PyProof.Rows.boot_list (pa_cons (pv 5) pa_nil)) pa_nil)))))
      (pss_cons (ps_set (i := 8) sc_law.nd rfl (Or.inl rfl) (pcall G_placed C_placed hr (pa_cons (pe_ix (ix_listK (K := K) rfl) (pv 7) pe_int (fun _ _ => rfl)) (pa_cons (pe_ix (ix_listK (K := K) rfl) (pv 7) pe_int (fun _ _ => rfl)) (pa_cons (pe_ix (ix_listK (K := K) rfl) (pv 7) pe_int (fun _ _ => rfl)) pa_nil)))))
      (pss_cons (ps_if (PW.pt (pw_or (pt_not (pt_callK K rfl (pe_callB (call_isiK (K := K) rfl) (by rfl) h_isinstance PyProof.Rows.boot_isinstance (pa_cons (pv 8) (pa_cons (pe_type h_tuple PyProof.Rows.boot_tuple) pa_nil))))) (pw_or1 (pt_cmpR op_ne (pe_callB (call_lenK (K := K) rfl) (by rfl) h_len PySem.boot_len (pa_cons (pv 8) pa_nil)) pe_int (nomark _))))) (pss_one (ps_ret pe_bl)) pss_nil)
      (pss_cons (ps_if (PW.pt (pw_or (pt_not (pt_callK K rfl (pe_callB (call_isiK (K := K) rfl) (by rfl) h_isinstance PyProof.Rows.boot_isinstance (pa_cons (pe_ix (ix_tupK (K := K) rfl) (pv 8) pe_int (fun _ _ => rfl)) (pa_cons (pe_type h_list PyProof.Rows.boot_list) pa_nil))))) (pw_or1 (pt_not (pt_callK K rfl (pe_callB (call_isiK (K := K) rfl) (by rfl) h_isinstance PyProof.Rows.boot_isinstance (pa_cons (pe_ix (ix_tupK (K := K) rfl) (pv 8) pe_int (fun _ _ => rfl)) (pa_cons (pe_type h_list PyProof.Rows.boot_list) pa_nil)))))))) (pss_one (ps_ret pe_bl)) pss_nil)
      (pss_cons (ps_comp (i := 9) ["_law_call"] [none] sc_law.nd rfl (Or.inl rfl) rfl rfl (by kernel_rfl) (pi_listK (K := K) rfl (pe_ix (ix_tupK (K := K) rfl) (pv 8) pe_int (fun _ _ => rfl))) (fun _ _ _ _ _ nd => pg_name (i := 0) nd rfl (Or.inl rfl)) (fun _ _ _ _ _ => pif_nil) (fun _ _ _ _ _ => (pe_methS0 (MOk.cons T_OwnCall.cl mt_OwnCall_told G_Call_told B_Call_told (MOk.cons T_HeardCall.cl mt_HeardCall_told G_Call_told B_Call_told (MOk.cons T_OneCall.cl mt_OneCall_told G_Call_told B_Call_told MOk.nil))) (pv 0) hr)))
      (pss_cons (ps_set (i := 10) sc_law.nd rfl (Or.inl rfl) (pcall G__law_walked C__law_walked hr (pa_cons (pv 9) (pa_cons (pv 2) (pa_cons (pv 3) (pa_cons (pv 5) pa_nil))))))
      (pss_cons (ps_if (PW.pt (pw_or (pt_cmpR op_isN (pv 10) pe_non (nomark _)) (pw_or1 (pt_cmpR (op_neK (K := K) rfl hu64) (pe_ix (ix_tupK (K := K) rfl) (pv 8) pe_int (fun _ _ => rfl)) (pv 10) (nomark _))))) (pss_one (ps_ret pe_bl)) pss_nil)
      (pss_cons (ps_if (PW.pt (pw_or (pt_cmpR (op_neD hu0) (pe_ix (ix_listK (K := K) rfl) (pv 7) pe_int (fun _ _ => rfl)) (pv 2) (nomark _)) (pw_or (pt_cmpR (op_neK (K := K) rfl hu64) (pe_ix (ix_listK (K := K) rfl) (pv 7) pe_int (fun _ _ => rfl)) (pv 5) (nomark _)) (pw_or1 (pt_cmpR (op_neK (K := K) rfl hu64) (pe_comp ["_law_one"] [none] rfl rfl (by kernel_rfl) (pi_listK (K := K) rfl (pe_ix (ix_listK (K := K) rfl) (pv 7) pe_int (fun _ _ => rfl))) (fun _ _ _ _ _ nd => pg_name (i := 0) nd rfl (Or.inl rfl)) (fun _ _ _ _ _ => pif_nil) (fun _ _ _ _ _ => (pe_methS0 (MOk.cons T_OwnCall.cl mt_OwnCall_told G_Call_told B_Call_told (MOk.cons T_HeardCall.cl mt_HeardCall_told G_Call_told B_Call_told (MOk.cons T_OneCall.cl mt_OneCall_told G_Call_told B_Call_told MOk.nil))) (pv 0) hr))) (pe_comp ["_law_one"] [none] rfl rfl (by kernel_rfl) (pi_listK (K := K) rfl (pv 6)) (fun _ _ _ _ _ nd => pg_name (i := 0) nd rfl (Or.inl rfl)) (fun _ _ _ _ _ => pif_nil) (fun _ _ _ _ _ => (pe_methS0 (MOk.cons T_OwnCall.cl mt_OwnCall_told G_Call_told B_Call_told (MOk.cons T_HeardCall.cl mt_HeardCall_told G_Call_told B_Call_told (MOk.cons T_OneCall.cl mt_OneCall_told G_Call_told B_Call_told MOk.nil))) (pv 0) hr))) (nomark _)))))) (pss_one (ps_ret pe_bl)) pss_nil)
      (pss_cons (ps_expr (pe_appendK (K := K) rfl (pe_bm PySem.F.plainAttrs_list PySem.F.slot_list_append PySem.F.type_list_append mt_append (pe_ix (ix_tupK (K := K) rfl) (pv 8) pe_int (fun _ _ => rfl)) (pa_cons (pe_tup (pa_cons pe_int (pa_cons pe_int (pa_cons pe_int pa_nil)))) pa_nil))))
      (pss_cons (ps_set (i := 11) sc_law.nd rfl (Or.inl rfl) (pcall G_placed C_placed hr (pa_cons (pv 2) (pa_cons (pe_slice3 sl3_rev (pv 6) po_none po_none (po_some (pe_un un_neg pe_int))) (pa_cons (pe_callTy (call_tupleK (K := K) rfl) (by rfl) h_tuple PyProof.Rows.boot_tuple (pa_cons (pv 5) pa_nil)) pa_nil)))))
      (pss_one (ps_ret (pe_and (pe_cmpR (op_eqK (K := K) rfl hu64) (pe_comp ["_law_call"] [none] rfl rfl (by kernel_rfl) (pi_listK (K := K) rfl (pe_ix (ix_tupK (K := K) rfl) (pv 11) pe_int (fun _ _ => rfl))) (fun _ _ _ _ _ nd => pg_name (i := 0) nd rfl (Or.inl rfl)) (fun _ _ _ _ _ => pif_nil) (fun _ _ _ _ _ => (pe_methS0 (MOk.cons T_OwnCall.cl mt_OwnCall_told G_Call_told B_Call_told (MOk.cons T_HeardCall.cl mt_HeardCall_told G_Call_told B_Call_told (MOk.cons T_OneCall.cl mt_OneCall_told G_Call_told B_Call_told MOk.nil))) (pv 0) hr))) (pv 9) (nomark _)) (pe_one (pe_cmpR (op_eqK (K := K) rfl hu64) (pe_ix (ix_tupK (K := K) rfl) (pv 11) pe_int (fun _ _ => rfl)) (pv 10) (nomark _)))))))))))))))))))))), ?_⟩
  obtain ⟨hS, l63, kk⟩ := h
  have h18 := pow18p
  clean_wf
  refine ⟨a, 0, rfl, ns, hS, by omega, fun c0 => ?_⟩
  clean_wf
  refine ⟨c0, rfl, fun H1 lh hs s1 hlh g1 l4 up rg => ?_⟩
  have hS1 := s1.seq hS
  clean_wf
  refine ⟨a, 1, rfl, ns, hS1, by omega, fun c1 => ?_⟩
  clean_wf
  refine ⟨lh, c1, rfl, hs, SqL.of g1, l4, rg, fun H2 d0 m0 s2 hd0 g2 tm0 => ?_⟩
  have hS2 := s2.seq hS1
  clean_wf
  refine ⟨a, 2, rfl, ns, hS2, by omega, fun c2 => ?_⟩
  clean_wf
  intro sl H3 hsl s3 g3
  obtain ⟨ms, ems, lms⟩ := cut_le ns 4 24
  have ems : cutV (ns.map V.int) (some 4) (some 24) = ms.map V.int := ems
  rw [ems] at g3
  have hS3 := s3.seq hS2
  clean_wf
  refine ⟨lh, _, d0, sl, rfl, hs, m0, ms, SqL.of (s3 _ _ (s2 _ _ g1)), l4, up, rg, .inl (s3 _ _ g2), tm0, SqL.of g3, by omega, fun H4 t lc lo ws cs xo qs s4 hlc hlo gt g4 hc lcs u wf go nq lq => ?_⟩
  have st : SqT K H4 t [.ref lc, .ref lo] := SqT.of gt
  have hS4 := s4.seq hS3
  have lw : ws.length = cs.length := Paired.length hc
  clean_wf
  refine ⟨a, 3, rfl, ns, hS4, by omega, fun c3 => ?_⟩
  clean_wf
  refine ⟨lo, c3, rfl, xo, qs, go, nq, by omega, fun H5 lp xs ps s5 hlp g5 np lps => ?_⟩
  have hS5 := s5.seq hS4
  have g45 := s5 _ _ g4
  have hc5 := tls_up (.same s5) hc
  have qlc5 : SqL K H5 lc ws := SqL.of g45
  clean_wf
  intro E hE
  refine comp_list (K := K) (a := lc) (xs := ws) (fun i σ A => ∃ v vs, σ = [v] ∧ Same H5 A ∧ A E = some (.lst vs) ∧ Cls' K mg A vs (cs.take i)) ⟨none, [], rfl, same_upd hE, upd_same, .nil⟩ ?_ ?_ ?_
  · rintro i σ A _ ⟨_, _, _, z, _⟩
    exact z.seq qlc5
  · rintro i v σ A hx ⟨v0, vs, rfl, sA, gE, pc⟩
    obtain ⟨x, hy, cy⟩ := paired_at hc5 hx
    have hi := (List.getElem?_eq_some_iff.mp hy).1
    have wx := wf x (List.mem_of_getElem? hy)
    have lv : vs.length = (cs.take i).length := Paired.length pc
    rw [List.length_take] at lv
    obtain ⟨ta, tt, yy, rfl, h1, h2, h3⟩ := cy.up (.same sA)
    have st : SqT K A ta [.int x.n, .int x.c, .int x.k, .str x.kd, .int x.w, .ref tt] := SqT.of h1
    clean_wf
    refine ⟨x.n, x.c, x.k, x.kd, x.w, tt, rfl, yy, wx.kd, wx.w, h2, fun A1 p C dx t' t1 hp kdc tc g1' gt' => ?_⟩
    have gE1 := t1 _ _ gE
    have k1 : KpC A1 (upd A1 E (.lst (vs ++ [.ref p]))) := ⟨fun p C dx fs e => by rw [upd_ne (fun z => by rw [z, gE1] at e; cases e)]; exact e, SmH.lst gE1⟩
    refine ⟨vs, gE1, small1000 (by omega), _, vs ++ [.ref p], rfl, fun b o z => ?_, upd_same, ?_⟩
    · rw [upd_ne (ne_of_none z hE)]
      exact t1 _ _ (sA b o z)
    · rw [take_get hy]
      refine paired_snoc (cls_up ((KpC.same t1).trans k1) pc) ⟨p, C, dx, t', _, rfl, kdc, tc, k1.1 _ _ _ _ g1', k1.2 _ _ gt', ?_, wx.cs⟩
      by_cases z : x.kd = "own"
      · rw [if_pos z, wx.ow z]; exact .nil
      · rw [if_neg z]; exact h3.mono ((SmH.same t1).trans k1.2)
  rintro σ A ⟨v, vs, rfl, sA, gE, pc⟩
  rw [lw, List.take_length] at pc
  have lv : vs.length = cs.length := Paired.length pc
  have uv : Rk1 (vs.zip cs) := rk1_of u
  have rgc : ∀ x ∈ cs, 0 ≤ x.c ∧ x.c < 63 := fun x hx => ⟨(wf x hx).c0, (wf x hx).c1⟩
  have hSA := sA.seq hS5
  have s25 := s3.trans (s4.trans s5)
  have gd5 := s25 _ _ g2
  have glh5 := s25 _ _ (s2 _ _ g1)
  refine x_cut (fun σ' B => ∃ S os cs', σ' = [some (.ref a), some (.ref lh), some (.ref d0), some (.ref lc), some (.ref lo), some (.ref lp), some (.ref S), none, none, none, none, none] ∧ Same A B ∧ B S = some (.lst os) ∧ Cls' K mg B os cs' ∧ os.length = cs'.length ∧ Rk1 (os.zip cs') ∧ (∀ x, x ∈ cs' ↔ x ∈ cs) ∧ cs'.length = cs.length) ?_ fun N rest => ?_
  rotate_left
  · clean_wf
    refine ⟨a, 2, rfl, ns, hSA, by omega, fun c4 => ?_⟩
    clean_wf
    refine ite2 (fun _ => ?_) fun _ => ?_
    · have qE : SqL K A E vs := SqL.of gE
      clean_wf
      refine ⟨rfl, rfl, rfl, _, _, rfl, qE, fun S hS' => ?_⟩
      have t1 := same_upd (o := .lst vs.reverse) hS'
      have gS : (upd A S (.lst vs.reverse)) S = some (.lst vs.reverse) := upd_same
      generalize upd A S (.lst vs.reverse) = B at t1 gS ⊢
      exact rest _ _ ⟨S, vs.reverse, cs.reverse, rfl, t1, gS, paired_rev (cls_up (.same t1) pc), by rw [List.length_reverse, List.length_reverse, lv], rk1_rev lv uv, fun x => List.mem_reverse, by rw [List.length_reverse]⟩
    · exact rest _ _ ⟨E, vs, cs, rfl, .refl _, gE, pc, lv, uv, fun x => Iff.rfl, rfl⟩
  rintro σ' B ⟨S, os, cs', rfl, sAB, gS, pco, los, uo, mem, lcs'⟩
  have s5B := sA.trans sAB
  have gdB := s5B _ _ gd5
  have glpB := s5B _ _ g5
  have qSB : SqL K B S os := SqL.of gS
  have qpB : SqL K B lp xs := SqL.of glpB
  have rgo : ∀ x ∈ cs', 0 ≤ x.c ∧ x.c < 63 := fun x hx => rgc x ((mem x).mp hx)
  clean_wf
  intro e1 B1 he1 w1 k1
  have q1 := w1.seq qSB
  have q2 := w1.seq qpB
  clean_wf
  intro e2 B2 he2 w2 k2
  have q3 := w2.seq q2
  clean_wf
  intro e3 B3 he3 w3 k3
  clean_wf
  intro eh B4 heh w4 k4
  have w14 := w1.trans (w2.trans (w3.trans w4))
  have k14 := w4 _ _ (w3 _ _ (w2 _ _ k1))
  have k24 := w4 _ _ (w3 _ _ k2)
  have k34 := w4 _ _ k3
  have qeh : SqL K B4 eh [.ref e1, .ref e2, .ref e3] := SqL.of k4
  have pc4 := cls_up (.same w14) pco
  have np5B := np.up (.same s5B)
  have np4 := np5B.up (.same w14)
  clear q1 q2 q3
  clean_wf
  refine ⟨e1, e2, e3, rfl, m0, os, cs', xs, ps, .inl k14, tm0, SqL.of k24, pc4, by omega, uo, rgo, .inl (SqL.of k34), np4, by omega, fun C t1 l1 r1 rw1 ys1 gs1 m1 x1 hl1 hr1 gt1 gl1 gr1 nm1 pw1 la1 => ?_⟩
  obtain ⟨wk1, ec1, cz1⟩ := pw_wk uo los pw1
  have cz1 := cz_ct ec1 cz1
  have la1 := laR_ct ec1 la1
  have qt1 : SqT K C t1 [.ref l1, .ref r1] := SqT.of gt1
  have sBC := w14.trans x1
  have s5C := s5B.trans sBC
  clean_wf
  refine ⟨_, _, _, true, rfl, .tup gt1, (by kernel_rfl), ?_⟩
  clean_wf
  rw [show decide ((([V.ref l1, V.ref r1].length : Nat) : Int) = 2) = true from rfl]
  clean_wf
  refine ⟨_, _, _, true, rfl, .lst gl1, (by kernel_rfl), ?_⟩
  clean_wf
  refine ⟨_, _, _, true, rfl, .lst gr1, (by kernel_rfl), ?_⟩
  have ql1 : SqL K C l1 (rw1.map (·.1)) := SqL.of gl1
  have lrw : rw1.length ≤ 60 := by have := wk_len wk1; omega
  have pcC := cls_up (.same x1) pc4
  have prow : Cls' K mg C (rw1.map (·.1)) (rw1.map (·.2)) := cls_row fun q hq => zip_mem pcC (wk_zs wk1 q hq)
  have wfr : ∀ x ∈ rw1.map (·.2), Wf x := fun x hx => by
    obtain ⟨q, hq, rfl⟩ := List.mem_map.mp hx
    exact wf _ ((mem _).mp (List.of_mem_zip (wk_zs wk1 q hq)).2)
  clean_wf
  intro Er hEr
  refine comp_list (K := K) (a := l1) (xs := rw1.map (·.1)) (fun i σ A => ∃ v ys, σ = [v] ∧ Same C A ∧ A Er = some (.lst ys) ∧ Tls A ys ((rw1.map (·.2)).take i)) ⟨none, [], rfl, same_upd hEr, upd_same, .nil⟩ ?_ ?_ ?_
  · rintro i σ A _ ⟨_, _, _, z, _⟩
    exact z.seq ql1
  · rintro i v σ A hx ⟨v0, ys, rfl, sA, gE, ty⟩
    obtain ⟨x, hy, cy⟩ := paired_at prow hx
    have hi := (List.getElem?_eq_some_iff.mp hy).1
    rw [List.length_map] at hi
    have ly : ys.length = ((rw1.map (·.2)).take i).length := Paired.length ty
    rw [List.length_take, List.length_map] at ly
    have cA := cy.up (.same sA)
    obtain ⟨pp, CC, dxx, tt, xxs, rfl, hk, hT, hp, htt, hpx, hcs⟩ := id cA
    rcases hk with ⟨_, e⟩ | ⟨_, e⟩ | ⟨_, e⟩
    · rw [m_OwnCall] at e
      cases e
      clean_wf
      refine ⟨_, rfl, x, cA, fun A1 t2 s2' ht2 tl2 => ?_⟩
      have gE1' := s2' _ _ gE
      have kp : SmH A1 (upd A1 Er (.lst (ys ++ [.ref t2]))) := SmH.lst gE1'
      refine ⟨ys, gE1', small1000 (by omega), _, ys ++ [.ref t2], rfl, fun b o z => ?_, upd_same, ?_⟩
      · rw [upd_ne (ne_of_none z hEr)]
        exact s2' _ _ (sA b o z)
      · rw [take_get hy]
        exact paired_snoc (tls_up ((SmH.same s2').trans kp) ty) (tl2.up kp)
    · rw [m_HeardCall] at e
      cases e
      clean_wf
      refine ⟨_, rfl, x, cA, fun A1 t2 s2' ht2 tl2 => ?_⟩
      have gE1' := s2' _ _ gE
      have kp : SmH A1 (upd A1 Er (.lst (ys ++ [.ref t2]))) := SmH.lst gE1'
      refine ⟨ys, gE1', small1000 (by omega), _, ys ++ [.ref t2], rfl, fun b o z => ?_, upd_same, ?_⟩
      · rw [upd_ne (ne_of_none z hEr)]
        exact s2' _ _ (sA b o z)
      · rw [take_get hy]
        exact paired_snoc (tls_up ((SmH.same s2').trans kp) ty) (tl2.up kp)
    · rw [m_OneCall] at e
      cases e
      clean_wf
      refine ⟨_, rfl, x, cA, fun A1 t2 s2' ht2 tl2 => ?_⟩
      have gE1' := s2' _ _ gE
      have kp : SmH A1 (upd A1 Er (.lst (ys ++ [.ref t2]))) := SmH.lst gE1'
      refine ⟨ys, gE1', small1000 (by omega), _, ys ++ [.ref t2], rfl, fun b o z => ?_, upd_same, ?_⟩
      · rw [upd_ne (ne_of_none z hEr)]
        exact s2' _ _ (sA b o z)
      · rw [take_get hy]
        exact paired_snoc (tls_up ((SmH.same s2').trans kp) ty) (tl2.up kp)
  rintro σ D ⟨v0, rys, rfl, sCD, gEr, trow⟩
  rw [show (rw1.map (·.2)).take (rw1.map (·.1)).length = rw1.map (·.2) by rw [List.length_map, List.take_of_length_le]; rw [List.length_map]; exact Nat.le_refl _] at trow
  have s5D := s5C.trans sCD
  have sBD := sBC.trans sCD
  have gdD := s5D _ _ gd5
  have memz : ∀ x, x ∈ cs ↔ ∃ v, (v, x) ∈ os.zip cs' := fun x => by
    rw [← mem x]
    refine ⟨fun hx => ?_, fun ⟨v, hv⟩ => (List.of_mem_zip hv).2⟩
    obtain ⟨i, hi⟩ := List.getElem?_of_mem hx
    have hil := (List.getElem?_eq_some_iff.mp hi).1
    exact ⟨os[i]'(by omega), List.mem_of_getElem? (i := i) (by rw [List.getElem?_zip_eq_some]; exact ⟨List.getElem?_eq_getElem _, hi⟩)⟩
  clean_wf
  refine ⟨Er, d0, lc, lp, rfl, rys, rw1, m0, ws, cs, os.zip cs', xs, ps, gs1, SqL.of gEr, trow, lrw, .inl gdD, tm0, SqL.of (s5D _ _ g45), tls_up (.same s5D) hc5, by omega, wf, memz, uo, s5D _ _ g5, np.up (.same s5D), lps, wk1, cz1, la1, fun D1 q dys y1 hq gq nmq => ?_⟩
  have gr1D1 := y1 _ _ (sCD _ _ gr1)
  have nm1D1 := nm1.up (.same (sCD.trans y1))
  have qt1D1 : SqT K D1 t1 [.ref l1, .ref r1] := same_tup (sCD.trans y1) qt1
  clean_wf
  rw [show decide (V.ref q = V.non) = false from decide_eq_false (by intro z; cases z)]
  clean_wf
  refine rNeP_refl (d := .list (gs1.map nmD)) (.inr ⟨_, _, _, rfl, rfl, SqL.of gr1D1, nm1D1.dps⟩) (.inr ⟨_, _, _, rfl, rfl, SqL.of gq, nmq.dps⟩) (nmsl_lay gs1) (nmsl_dep gs1) ?_
  have sCD2 := sCD.trans y1
  have sBD2 := sBC.trans sCD2
  have s5D2 := s5D.trans y1
  have k4D2 := sCD2 _ _ (x1 _ _ k4)
  have qeh2 : SqL K D1 eh [.ref e1, .ref e2, .ref e3] := SqL.of k4D2
  have k1D2 := sCD2 _ _ (x1 _ _ k14)
  have k2D2 := sCD2 _ _ (x1 _ _ k24)
  have k3D2 := sCD2 _ _ (x1 _ _ k34)
  have gdD2 := s5D2 _ _ gd5
  have glpD2 := s5D2 _ _ g5
  have npD2 := np.up (.same s5D2)
  clean_wf
  refine ⟨e1, d0, m0, m0, rfl, rfl, .inl k1D2, .inl gdD2, rfl, fun p hp => lk_of tm0.nd hp, ?_⟩
  clean_wf
  refine rNeP_refl (d := .list (ps.map nmD)) (.inr ⟨_, _, _, rfl, rfl, SqL.of k3D2, npD2.dps⟩) (.inr ⟨_, _, _, rfl, rfl, SqL.of glpD2, npD2.dps⟩) (nmsl_lay ps) (nmsl_dep ps) ?_
  have pcD2 := cls_up (.same sBD2) pco
  have qe2 : SqL K D1 e2 os := SqL.of k2D2
  clean_wf
  intro E1 hE1
  refine comp_list (K := K) (a := e2) (xs := os) (fun i σ A => ∃ v ys, σ = [v] ∧ Same D1 A ∧ A E1 = some (.lst ys) ∧ Tls A ys (cs'.take i)) ⟨none, [], rfl, same_upd hE1, upd_same, .nil⟩ ?_ ?_ ?_
  · rintro i σ A _ ⟨_, _, _, z, _⟩
    exact z.seq qe2
  · rintro i v σ A hx ⟨v0, ys, rfl, sA, gE, ty⟩
    obtain ⟨x, hy, cy⟩ := paired_at pcD2 hx
    have hi := (List.getElem?_eq_some_iff.mp hy).1
    have ly : ys.length = (cs'.take i).length := Paired.length ty
    rw [List.length_take] at ly
    have cA := cy.up (.same sA)
    obtain ⟨pp, CC, dxx, tt, xxs, rfl, hk, hT, hp, htt, hpx, hcs⟩ := id cA
    rcases hk with ⟨_, e⟩ | ⟨_, e⟩ | ⟨_, e⟩
    · rw [m_OwnCall] at e
      cases e
      clean_wf
      refine ⟨_, rfl, x, cA, fun A1 t2 s2' ht2 tl2 => ?_⟩
      have gE1' := s2' _ _ gE
      have kp : SmH A1 (upd A1 E1 (.lst (ys ++ [.ref t2]))) := SmH.lst gE1'
      refine ⟨ys, gE1', small1000 (by omega), _, ys ++ [.ref t2], rfl, fun b o z => ?_, upd_same, ?_⟩
      · rw [upd_ne (ne_of_none z hE1)]
        exact s2' _ _ (sA b o z)
      · rw [take_get hy]
        exact paired_snoc (tls_up ((SmH.same s2').trans kp) ty) (tl2.up kp)
    · rw [m_HeardCall] at e
      cases e
      clean_wf
      refine ⟨_, rfl, x, cA, fun A1 t2 s2' ht2 tl2 => ?_⟩
      have gE1' := s2' _ _ gE
      have kp : SmH A1 (upd A1 E1 (.lst (ys ++ [.ref t2]))) := SmH.lst gE1'
      refine ⟨ys, gE1', small1000 (by omega), _, ys ++ [.ref t2], rfl, fun b o z => ?_, upd_same, ?_⟩
      · rw [upd_ne (ne_of_none z hE1)]
        exact s2' _ _ (sA b o z)
      · rw [take_get hy]
        exact paired_snoc (tls_up ((SmH.same s2').trans kp) ty) (tl2.up kp)
    · rw [m_OneCall] at e
      cases e
      clean_wf
      refine ⟨_, rfl, x, cA, fun A1 t2 s2' ht2 tl2 => ?_⟩
      have gE1' := s2' _ _ gE
      have kp : SmH A1 (upd A1 E1 (.lst (ys ++ [.ref t2]))) := SmH.lst gE1'
      refine ⟨ys, gE1', small1000 (by omega), _, ys ++ [.ref t2], rfl, fun b o z => ?_, upd_same, ?_⟩
      · rw [upd_ne (ne_of_none z hE1)]
        exact s2' _ _ (sA b o z)
      · rw [take_get hy]
        exact paired_snoc (tls_up ((SmH.same s2').trans kp) ty) (tl2.up kp)
  rintro σ D3 ⟨v0, ys1', rfl, y3, gE1, ty1⟩
  rw [los, List.take_length] at ty1
  have qS3 : SqL K D3 S os := (sBD2.trans y3).seq qSB
  have pcD3 := cls_up (.same y3) pcD2
  clean_wf
  intro E2 hE2
  refine comp_list (K := K) (a := S) (xs := os) (fun i σ A => ∃ v ys, σ = [v] ∧ Same D3 A ∧ A E2 = some (.lst ys) ∧ Tls A ys (cs'.take i)) ⟨none, [], rfl, same_upd hE2, upd_same, .nil⟩ ?_ ?_ ?_
  · rintro i σ A _ ⟨_, _, _, z, _⟩
    exact z.seq qS3
  · rintro i v σ A hx ⟨v0, ys, rfl, sA, gE, ty⟩
    obtain ⟨x, hy, cy⟩ := paired_at pcD3 hx
    have hi := (List.getElem?_eq_some_iff.mp hy).1
    have ly : ys.length = (cs'.take i).length := Paired.length ty
    rw [List.length_take] at ly
    have cA := cy.up (.same sA)
    obtain ⟨pp, CC, dxx, tt, xxs, rfl, hk, hT, hp, htt, hpx, hcs⟩ := id cA
    rcases hk with ⟨_, e⟩ | ⟨_, e⟩ | ⟨_, e⟩
    · rw [m_OwnCall] at e
      cases e
      clean_wf
      refine ⟨_, rfl, x, cA, fun A1 t2 s2' ht2 tl2 => ?_⟩
      have gE1' := s2' _ _ gE
      have kp : SmH A1 (upd A1 E2 (.lst (ys ++ [.ref t2]))) := SmH.lst gE1'
      refine ⟨ys, gE1', small1000 (by omega), _, ys ++ [.ref t2], rfl, fun b o z => ?_, upd_same, ?_⟩
      · rw [upd_ne (ne_of_none z hE2)]
        exact s2' _ _ (sA b o z)
      · rw [take_get hy]
        exact paired_snoc (tls_up ((SmH.same s2').trans kp) ty) (tl2.up kp)
    · rw [m_HeardCall] at e
      cases e
      clean_wf
      refine ⟨_, rfl, x, cA, fun A1 t2 s2' ht2 tl2 => ?_⟩
      have gE1' := s2' _ _ gE
      have kp : SmH A1 (upd A1 E2 (.lst (ys ++ [.ref t2]))) := SmH.lst gE1'
      refine ⟨ys, gE1', small1000 (by omega), _, ys ++ [.ref t2], rfl, fun b o z => ?_, upd_same, ?_⟩
      · rw [upd_ne (ne_of_none z hE2)]
        exact s2' _ _ (sA b o z)
      · rw [take_get hy]
        exact paired_snoc (tls_up ((SmH.same s2').trans kp) ty) (tl2.up kp)
    · rw [m_OneCall] at e
      cases e
      clean_wf
      refine ⟨_, rfl, x, cA, fun A1 t2 s2' ht2 tl2 => ?_⟩
      have gE1' := s2' _ _ gE
      have kp : SmH A1 (upd A1 E2 (.lst (ys ++ [.ref t2]))) := SmH.lst gE1'
      refine ⟨ys, gE1', small1000 (by omega), _, ys ++ [.ref t2], rfl, fun b o z => ?_, upd_same, ?_⟩
      · rw [upd_ne (ne_of_none z hE2)]
        exact s2' _ _ (sA b o z)
      · rw [take_get hy]
        exact paired_snoc (tls_up ((SmH.same s2').trans kp) ty) (tl2.up kp)
  rintro σ D4 ⟨v0, ys2, rfl, y4, gE2, ty2⟩
  rw [los, List.take_length] at ty2
  refine rNeP_refl (tls_dl (y4 _ _ gE1) (tls_up (.same y4) ty1)) (tls_dl gE2 ty2) (tlsl_lay fun x hx => wf x ((mem x).mp hx)) (tlsl_dep _) ?_
  have y34 := y3.trans y4
  have sCD4 := sCD2.trans y34
  have qt14 : SqT K D4 t1 [.ref l1, .ref r1] := same_tup sCD4 qt1
  have gr14 := sCD4 _ _ gr1
  have lys1 : ys1.length ≤ 200 := by
    have := nm1.len
    have := wk_gs wk1
    omega
  clean_wf
  intro tz D5 htz y5 gtz
  have gr15 := y5 _ _ gr14
  have ls1 : ys1.length < sizeLine := small1000 (by omega)
  clean_wf
  intro F0 bF gF
  have nr : ∀ {b : Addr} {o : HO}, D4 b = some o → b ≠ r1 → F0 b = some o := fun e n => bF.at n (y5 _ _ e)
  have old : ∀ {b : Addr} {o : HO}, B4 b = some o → F0 b = some o := fun {b o} e => nr ((x1.trans sCD4) _ _ e) (ne_of_none e hr1)
  have kpF : KpC B4 F0 := ⟨fun p C dx fs e => old e, fun a xs e => old e⟩
  have mF : SmH D4 F0 := (SmH.same y5).trans (SmH.but bF gr15 (by intro _ z; cases z))
  have gSF : F0 S = some (.lst os) := old (w14 _ _ gS)
  have gpF : F0 lp = some (.lst xs) := old (w14 _ _ glpB)
  have gdF : F0 d0 = some (.dK (dI m0)) := old (w14 _ _ gdB)
  have pcF : Cls' K mg F0 os cs' := cls_up kpF pc4
  have npF : Nms F0 xs ps := np4.up kpF.2
  have nEr : Er ≠ r1 := fun z => by rw [z, gr1] at hEr; cases hEr
  have nq1 : q ≠ r1 := fun z => by
    rcases hq with w | w
    · rw [z] at w
      have := (w14 _ _ glpB)
      rw [← w, hr1] at this
      cases this
    · rw [z, sCD _ _ gr1] at w; cases w
  have gErF : F0 Er = some (.lst rys) := nr (y34 _ _ (y1 _ _ gEr)) nEr
  have gqF : F0 q = some (.lst dys) := nr (y34 _ _ gq) nq1
  have nmqF : Nms F0 dys gs1 := nmq.up ((SmH.same y34).trans mF)
  have trF : Tls F0 rys (rw1.map (·.2)) := tls_up ((SmH.same (y1.trans y34)).trans mF) trow
  have qSF : SqL K F0 S os := SqL.of gSF
  have qpF : SqL K F0 lp xs := SqL.of gpF
  clean_wf
  refine ⟨rfl, rfl, rfl, _, _, rfl, qSF, fun e5 he5 => ?_⟩
  have z1 := same_upd (o := .lst os.reverse) he5
  have k5 : (upd F0 e5 (.lst os.reverse)) e5 = some (.lst os.reverse) := upd_same
  generalize upd F0 e5 (.lst os.reverse) = F1 at z1 k5 ⊢
  have q2 := z1.seq qpF
  clean_wf
  intro e6 F2 he6 z2 k6
  have z12 := z1.trans z2
  clean_wf
  refine ⟨d0, e5, e6, rfl, m0, os.reverse, cs'.reverse, xs, ps, .inl (z12 _ _ gdF), tm0, SqL.of (z2 _ _ k5), paired_rev (cls_up (.same z12) pcF), by rw [List.length_reverse]; omega, rk1_rev los uo, (fun x hx => rgo x (List.mem_reverse.mp hx)), .inr (SqT.of k6), npF.up (.same z12), by omega, fun G t2 l2 r2 rw2 ys2' gs2 m2 x2 hl2 hr2 gt2 gl2 gr2 nm2 pw2 la2 => ?_⟩
  obtain ⟨wk2, ec2, cz2⟩ := pw_wk (rk1_rev los uo) (by rw [List.length_reverse, List.length_reverse, los]) pw2
  have cz2 := cz_ct ec2 cz2
  have la2 := laR_ct ec2 la2
  rw [zip_rev os cs' los] at wk2 cz2 la2
  have wk2 : Wk (os.zip cs') m0 ps rw2 gs2 := wk_mem (fun q => List.mem_reverse) wk2
  have cz2 : Cz (os.zip cs') gs2 (stt m0 rw2) := fun y hy => cz2 y (List.mem_reverse.mpr hy)
  have la2 : LaR (os.zip cs') (stt m0 rw2) none := fun y hy => la2 y (List.mem_reverse.mpr hy)
  obtain ⟨erw, egs⟩ := wk_same uo wk2 cz2 la2 wk1 cz1 la1
  rw [erw] at gl2
  rw [egs] at nm2
  have qt2 : SqT K G t2 [.ref l2, .ref r2] := SqT.of gt2
  have ql2 : SqL K G l2 (rw1.map (·.1)) := SqL.of gl2
  have sFG := z12.trans x2
  have prowG : Cls' K mg G (rw1.map (·.1)) (rw1.map (·.2)) := cls_row fun q hq => zip_mem (cls_up (.same sFG) pcF) (wk_zs wk1 q hq)
  clear q2
  clean_wf
  intro E3 hE3
  refine comp_list (K := K) (a := l2) (xs := rw1.map (·.1)) (fun i σ A => ∃ v ys, σ = [v] ∧ Same G A ∧ A E3 = some (.lst ys) ∧ Tls A ys ((rw1.map (·.2)).take i)) ⟨none, [], rfl, same_upd hE3, upd_same, .nil⟩ ?_ ?_ ?_
  · rintro i σ A _ ⟨_, _, _, z, _⟩
    exact z.seq ql2
  · rintro i v σ A hx ⟨v0, ys, rfl, sA, gE, ty⟩
    obtain ⟨x, hy, cy⟩ := paired_at prowG hx
    have hi := (List.getElem?_eq_some_iff.mp hy).1
    rw [List.length_map] at hi
    have ly : ys.length = ((rw1.map (·.2)).take i).length := Paired.length ty
    rw [List.length_take, List.length_map] at ly
    have cA := cy.up (.same sA)
    obtain ⟨pp, CC, dxx, tt, xxs, rfl, hk, hT, hp, htt, hpx, hcs⟩ := id cA
    rcases hk with ⟨_, e⟩ | ⟨_, e⟩ | ⟨_, e⟩
    · rw [m_OwnCall] at e
      cases e
      clean_wf
      refine ⟨_, rfl, x, cA, fun A1 t2 s2' ht2 tl2 => ?_⟩
      have gE1' := s2' _ _ gE
      have kp : SmH A1 (upd A1 E3 (.lst (ys ++ [.ref t2]))) := SmH.lst gE1'
      refine ⟨ys, gE1', small1000 (by omega), _, ys ++ [.ref t2], rfl, fun b o z => ?_, upd_same, ?_⟩
      · rw [upd_ne (ne_of_none z hE3)]
        exact s2' _ _ (sA b o z)
      · rw [take_get hy]
        exact paired_snoc (tls_up ((SmH.same s2').trans kp) ty) (tl2.up kp)
    · rw [m_HeardCall] at e
      cases e
      clean_wf
      refine ⟨_, rfl, x, cA, fun A1 t2 s2' ht2 tl2 => ?_⟩
      have gE1' := s2' _ _ gE
      have kp : SmH A1 (upd A1 E3 (.lst (ys ++ [.ref t2]))) := SmH.lst gE1'
      refine ⟨ys, gE1', small1000 (by omega), _, ys ++ [.ref t2], rfl, fun b o z => ?_, upd_same, ?_⟩
      · rw [upd_ne (ne_of_none z hE3)]
        exact s2' _ _ (sA b o z)
      · rw [take_get hy]
        exact paired_snoc (tls_up ((SmH.same s2').trans kp) ty) (tl2.up kp)
    · rw [m_OneCall] at e
      cases e
      clean_wf
      refine ⟨_, rfl, x, cA, fun A1 t2 s2' ht2 tl2 => ?_⟩
      have gE1' := s2' _ _ gE
      have kp : SmH A1 (upd A1 E3 (.lst (ys ++ [.ref t2]))) := SmH.lst gE1'
      refine ⟨ys, gE1', small1000 (by omega), _, ys ++ [.ref t2], rfl, fun b o z => ?_, upd_same, ?_⟩
      · rw [upd_ne (ne_of_none z hE3)]
        exact s2' _ _ (sA b o z)
      · rw [take_get hy]
        exact paired_snoc (tls_up ((SmH.same s2').trans kp) ty) (tl2.up kp)
  rintro σ G1 ⟨v0, ys3, rfl, z3, gE3, ty3⟩
  rw [show (rw1.map (·.2)).take (rw1.map (·.1)).length = rw1.map (·.2) by rw [List.length_map, List.take_of_length_le]; rw [List.length_map]; exact Nat.le_refl _] at ty3
  have sFG1 := sFG.trans z3
  clean_wf
  refine rEqP_refl (tls_dl gE3 ty3) (tls_dl (sFG1 _ _ gErF) (tls_up (.same sFG1) trF)) (tlsl_lay wfr) (tlsl_dep _) ?_
  have qt21 : SqT K G1 t2 [.ref l2, .ref r2] := same_tup z3 qt2
  clean_wf
  refine rEqP_refl (d := .list (gs1.map nmD)) (.inr ⟨_, _, _, rfl, rfl, SqL.of (z3 _ _ gr2), (nm2.up (.same z3)).dps⟩) (.inr ⟨_, _, _, rfl, rfl, SqL.of (sFG1 _ _ gqF), (nmqF.up (.same sFG1)).dps⟩) (nmsl_lay gs1) (nmsl_dep gs1) ?_
  clean_wf
  exact kk _
end
end K25


namespace K25
open PySem L2
set_option maxHeartbeats 8000000 in
theorem all_mk {l : W.OpenLaw} {w : World} {K : W.Frag} {h : Heap} {mg : Str → Option Value} {fa f_0 f_1 f_2 f_3 f_4 f_5 f_6 f_7 f_8 f_9 f_10 f_11 f_12 f_13 f_14 f_15 f_16 f_17 f_18 f_19 f_20 f_21 f_22 f_23 f_24 f_25 f_26 f_27 f_28 f_29 f_30 f_31 f_32 f_33 f_34 f_35 f_36 f_37 f_38 f_39 f_40 f_41 f_42 f_43 C_Call C_HeardCall C_OneCall C_OwnCall aK : Addr} (X : K.In h) (G : h.Ns mainGlobals mg) (hfa : mg "law" = some (.ref fa))
    {oc_0 kV_0 dc_0 pm_0 cd_0 ct_0 : Value} {od_0 an_0 : Option Addr} {sl_0 : Array (Option Value)} {oc_1 kV_1 dc_1 pm_1 cd_1 ct_1 : Value} {od_1 an_1 : Option Addr} {sl_1 : Array (Option Value)} {oc_2 kV_2 dc_2 pm_2 cd_2 ct_2 : Value} {od_2 an_2 : Option Addr} {sl_2 : Array (Option Value)} {oc_3 kV_3 dc_3 pm_3 cd_3 ct_3 : Value} {od_3 an_3 : Option Addr} {sl_3 : Array (Option Value)} {oc_4 kV_4 dc_4 pm_4 cd_4 ct_4 : Value} {od_4 an_4 : Option Addr} {sl_4 : Array (Option Value)} {oc_5 kV_5 dc_5 pm_5 cd_5 ct_5 : Value} {od_5 an_5 : Option Addr} {sl_5 : Array (Option Value)} {oc_6 kV_6 dc_6 pm_6 cd_6 ct_6 : Value} {od_6 an_6 : Option Addr} {sl_6 : Array (Option Value)} {oc_7 kV_7 dc_7 pm_7 cd_7 ct_7 : Value} {od_7 an_7 : Option Addr} {sl_7 : Array (Option Value)} {oc_8 kV_8 dc_8 pm_8 cd_8 ct_8 : Value} {od_8 an_8 : Option Addr} {sl_8 : Array (Option Value)} {oc_9 kV_9 dc_9 pm_9 cd_9 ct_9 : Value} {od_9 an_9 : Option Addr} {sl_9 : Array (Option Value)} {oc_10 kV_10 dc_10 pm_10 cd_10 ct_10 : Value} {od_10 an_10 : Option Addr} {sl_10 : Array (Option Value)} {oc_11 kV_11 dc_11 pm_11 cd_11 ct_11 : Value} {od_11 an_11 : Option Addr} {sl_11 : Array (Option Value)} {oc_12 kV_12 dc_12 pm_12 cd_12 ct_12 : Value} {od_12 an_12 : Option Addr} {sl_12 : Array (Option Value)} {oc_13 kV_13 dc_13 pm_13 cd_13 ct_13 : Value} {od_13 an_13 : Option Addr} {sl_13 : Array (Option Value)} {oc_14 kV_14 dc_14 pm_14 cd_14 ct_14 : Value} {od_14 an_14 : Option Addr} {sl_14 : Array (Option Value)} {oc_15 kV_15 dc_15 pm_15 cd_15 ct_15 : Value} {od_15 an_15 : Option Addr} {sl_15 : Array (Option Value)} {oc_16 kV_16 dc_16 pm_16 cd_16 ct_16 : Value} {od_16 an_16 : Option Addr} {sl_16 : Array (Option Value)} {oc_17 kV_17 dc_17 pm_17 cd_17 ct_17 : Value} {od_17 an_17 : Option Addr} {sl_17 : Array (Option Value)} {oc_18 kV_18 dc_18 pm_18 cd_18 ct_18 : Value} {od_18 an_18 : Option Addr} {sl_18 : Array (Option Value)} {oc_19 kV_19 dc_19 pm_19 cd_19 ct_19 : Value} {od_19 an_19 : Option Addr} {sl_19 : Array (Option Value)} {oc_20 kV_20 dc_20 pm_20 cd_20 ct_20 : Value} {od_20 an_20 : Option Addr} {sl_20 : Array (Option Value)} {oc_21 kV_21 dc_21 pm_21 cd_21 ct_21 : Value} {od_21 an_21 : Option Addr} {sl_21 : Array (Option Value)} {oc_22 kV_22 dc_22 pm_22 cd_22 ct_22 : Value} {od_22 an_22 : Option Addr} {sl_22 : Array (Option Value)} {oc_23 kV_23 dc_23 pm_23 cd_23 ct_23 : Value} {od_23 an_23 : Option Addr} {sl_23 : Array (Option Value)} {oc_24 kV_24 dc_24 pm_24 cd_24 ct_24 : Value} {od_24 an_24 : Option Addr} {sl_24 : Array (Option Value)} {oc_25 kV_25 dc_25 pm_25 cd_25 ct_25 : Value} {od_25 an_25 : Option Addr} {sl_25 : Array (Option Value)} {oc_26 kV_26 dc_26 pm_26 cd_26 ct_26 : Value} {od_26 an_26 : Option Addr} {sl_26 : Array (Option Value)} {oc_27 kV_27 dc_27 pm_27 cd_27 ct_27 : Value} {od_27 an_27 : Option Addr} {sl_27 : Array (Option Value)} {oc_28 kV_28 dc_28 pm_28 cd_28 ct_28 : Value} {od_28 an_28 : Option Addr} {sl_28 : Array (Option Value)} {oc_29 kV_29 dc_29 pm_29 cd_29 ct_29 : Value} {od_29 an_29 : Option Addr} {sl_29 : Array (Option Value)} {oc_30 kV_30 dc_30 pm_30 cd_30 ct_30 : Value} {od_30 an_30 : Option Addr} {sl_30 : Array (Option Value)} {oc_31 kV_31 dc_31 pm_31 cd_31 ct_31 : Value} {od_31 an_31 : Option Addr} {sl_31 : Array (Option Value)} {oc_32 kV_32 dc_32 pm_32 cd_32 ct_32 : Value} {od_32 an_32 : Option Addr} {sl_32 : Array (Option Value)} {oc_33 kV_33 dc_33 pm_33 cd_33 ct_33 : Value} {od_33 an_33 : Option Addr} {sl_33 : Array (Option Value)} {oc_34 kV_34 dc_34 pm_34 cd_34 ct_34 : Value} {od_34 an_34 : Option Addr} {sl_34 : Array (Option Value)} {oc_35 kV_35 dc_35 pm_35 cd_35 ct_35 : Value} {od_35 an_35 : Option Addr} {sl_35 : Array (Option Value)} {oc_36 kV_36 dc_36 pm_36 cd_36 ct_36 : Value} {od_36 an_36 : Option Addr} {sl_36 : Array (Option Value)} {oc_37 kV_37 dc_37 pm_37 cd_37 ct_37 : Value} {od_37 an_37 : Option Addr} {sl_37 : Array (Option Value)} {oc_38 kV_38 dc_38 pm_38 cd_38 ct_38 : Value} {od_38 an_38 : Option Addr} {sl_38 : Array (Option Value)} {oc_39 kV_39 dc_39 pm_39 cd_39 ct_39 : Value} {od_39 an_39 : Option Addr} {sl_39 : Array (Option Value)} {oc_40 kV_40 dc_40 pm_40 cd_40 ct_40 : Value} {od_40 an_40 : Option Addr} {sl_40 : Array (Option Value)} {oc_41 kV_41 dc_41 pm_41 cd_41 ct_41 : Value} {od_41 an_41 : Option Addr} {sl_41 : Array (Option Value)} {oc_42 kV_42 dc_42 pm_42 cd_42 ct_42 : Value} {od_42 an_42 : Option Addr} {sl_42 : Array (Option Value)} {oc_43 kV_43 dc_43 pm_43 cd_43 ct_43 : Value} {od_43 an_43 : Option Addr} {sl_43 : Array (Option Value)} {nK : Nat} {t1K t2K t3K : Tok}
    (a_0 : W.nsIn K mainGlobals "count_of" = some (some (.ref f_0)))
    (a_1 : W.nsIn K mainGlobals "hands_among" = some (some (.ref f_1)))
    (a_2 : W.nsIn K mainGlobals "covers" = some (some (.ref f_2)))
    (a_3 : W.nsIn K mainGlobals "unpacked" = some (some (.ref f_3)))
    (a_4 : W.nsIn K mainGlobals "joined" = some (some (.ref f_4)))
    (a_5 : W.nsIn K mainGlobals "covers_name" = some (some (.ref f_5)))
    (a_8 : W.nsIn K mainGlobals "is_whole" = some (some (.ref f_8)))
    (a_9 : W.nsIn K mainGlobals "is_word" = some (some (.ref f_9)))
    (a_10 : W.nsIn K mainGlobals "make_call" = some (some (.ref f_10)))
    (a_14 : W.nsIn K mainGlobals "first_open" = some (some (.ref f_14)))
    (a_15 : W.nsIn K mainGlobals "name_at" = some (some (.ref f_15)))
    (a_20 : W.nsIn K mainGlobals "rank_of" = some (some (.ref f_20)))
    (a_21 : W.nsIn K mainGlobals "can_be_taken" = some (some (.ref f_21)))
    (a_22 : W.nsIn K mainGlobals "first_to_take" = some (some (.ref f_22)))
    (a_23 : W.nsIn K mainGlobals "callers_from" = some (some (.ref f_23)))
    (a_24 : W.nsIn K mainGlobals "run" = some (some (.ref f_24)))
    (a_25 : W.nsIn K mainGlobals "least_asking" = some (some (.ref f_25)))
    (a_26 : W.nsIn K mainGlobals "placed" = some (some (.ref f_26)))
    (a_27 : W.nsIn K mainGlobals "_law_cell_at" = some (some (.ref f_27)))
    (a_28 : W.nsIn K mainGlobals "_law_hands" = some (some (.ref f_28)))
    (a_29 : W.nsIn K mainGlobals "_law_start" = some (some (.ref f_29)))
    (a_34 : W.nsIn K mainGlobals "_law_causes" = some (some (.ref f_34)))
    (a_35 : W.nsIn K mainGlobals "_law_calls" = some (some (.ref f_35)))
    (a_36 : W.nsIn K mainGlobals "_law_by_count" = some (some (.ref f_36)))
    (a_37 : W.nsIn K mainGlobals "_law_places" = some (some (.ref f_37)))
    (a_38 : W.nsIn K mainGlobals "_law_free" = some (some (.ref f_38)))
    (a_39 : W.nsIn K mainGlobals "_law_reached" = some (some (.ref f_39)))
    (a_40 : W.nsIn K mainGlobals "_law_able" = some (some (.ref f_40)))
    (a_41 : W.nsIn K mainGlobals "_law_asking" = some (some (.ref f_41)))
    (a_42 : W.nsIn K mainGlobals "_law_walked" = some (some (.ref f_42)))
    (a_43 : W.nsIn K mainGlobals "law" = some (some (.ref f_43)))
    (a_Call : W.nsIn K mainGlobals "Call" = some (some (.ref C_Call)))
    (a_HeardCall : W.nsIn K mainGlobals "HeardCall" = some (some (.ref C_HeardCall)))
    (a_OneCall : W.nsIn K mainGlobals "OneCall" = some (some (.ref C_OneCall)))
    (a_OwnCall : W.nsIn K mainGlobals "OwnCall" = some (some (.ref C_OwnCall)))
    (gm0_KINDS : W.nsIn K mainGlobals "KINDS" = some (some (.ref aK)))
    (z_abs : W.nsIn K mainGlobals "abs" = some none)
    (z_all : W.nsIn K mainGlobals "all" = some none)
    (z_bool : W.nsIn K mainGlobals "bool" = some none)
    (z_dict : W.nsIn K mainGlobals "dict" = some none)
    (z_int : W.nsIn K mainGlobals "int" = some none)
    (z_isinstance : W.nsIn K mainGlobals "isinstance" = some none)
    (z_len : W.nsIn K mainGlobals "len" = some none)
    (z_list : W.nsIn K mainGlobals "list" = some none)
    (z_max : W.nsIn K mainGlobals "max" = some none)
    (z_min : W.nsIn K mainGlobals "min" = some none)
    (z_range : W.nsIn K mainGlobals "range" = some none)
    (z_set : W.nsIn K mainGlobals "set" = some none)
    (z_sorted : W.nsIn K mainGlobals "sorted" = some none)
    (z_tuple : W.nsIn K mainGlobals "tuple" = some none)
    (at_HeardCall___init__ : W.findIn K (.ref C_HeardCall) "__init__" = some (some (.ref f_6)))
    (at_HeardCall_asks_place : W.findIn K (.ref C_HeardCall) "asks_place" = some (some (.ref f_18)))
    (at_HeardCall_free : W.findIn K (.ref C_HeardCall) "free" = some (some (.ref f_13)))
    (at_HeardCall_in_turn : W.findIn K (.ref C_HeardCall) "in_turn" = some (some (.ref f_11)))
    (at_HeardCall_kind : W.findIn K (.ref C_HeardCall) "kind" = some (some (.ref f_31)))
    (at_HeardCall_name : W.findIn K (.ref C_HeardCall) "name" = some (some (.ref f_16)))
    (at_HeardCall_rank : W.findIn K (.ref C_HeardCall) "rank" = some (some (.ref f_17)))
    (at_HeardCall_told : W.findIn K (.ref C_HeardCall) "told" = some (some (.ref f_33)))
    (at_OneCall___init__ : W.findIn K (.ref C_OneCall) "__init__" = some (some (.ref f_6)))
    (at_OneCall_asks_place : W.findIn K (.ref C_OneCall) "asks_place" = some (some (.ref f_19)))
    (at_OneCall_free : W.findIn K (.ref C_OneCall) "free" = some (some (.ref f_13)))
    (at_OneCall_in_turn : W.findIn K (.ref C_OneCall) "in_turn" = some (some (.ref f_11)))
    (at_OneCall_kind : W.findIn K (.ref C_OneCall) "kind" = some (some (.ref f_32)))
    (at_OneCall_name : W.findIn K (.ref C_OneCall) "name" = some (some (.ref f_16)))
    (at_OneCall_rank : W.findIn K (.ref C_OneCall) "rank" = some (some (.ref f_17)))
    (at_OneCall_told : W.findIn K (.ref C_OneCall) "told" = some (some (.ref f_33)))
    (at_OwnCall___init__ : W.findIn K (.ref C_OwnCall) "__init__" = some (some (.ref f_7)))
    (at_OwnCall_asks_place : W.findIn K (.ref C_OwnCall) "asks_place" = some (some (.ref f_18)))
    (at_OwnCall_free : W.findIn K (.ref C_OwnCall) "free" = some (some (.ref f_12)))
    (at_OwnCall_in_turn : W.findIn K (.ref C_OwnCall) "in_turn" = some (some (.ref f_11)))
    (at_OwnCall_kind : W.findIn K (.ref C_OwnCall) "kind" = some (some (.ref f_30)))
    (at_OwnCall_name : W.findIn K (.ref C_OwnCall) "name" = some (some (.ref f_16)))
    (at_OwnCall_rank : W.findIn K (.ref C_OwnCall) "rank" = some (some (.ref f_17)))
    (at_OwnCall_told : W.findIn K (.ref C_OwnCall) "told" = some (some (.ref f_33)))
    (fc_Call___init__ : W.findCls K (.ref C_Call) (.type "type") "__init__" = some (.val (.ref f_6)))
    (l_0 : K.lookup f_0 = some ⟨oc_0, od_0, .func (W.fnOf "count_of" "count_of" (defArgs s_count_of) (defBody s_count_of) (defScope s_count_of) .none kV_0 dc_0 pm_0 an_0 cd_0 ct_0), sl_0⟩)
    (c_0 : W.codeIn K cd_0 "count_of" = true)
    (k_0 : W.keepIn K (.ref f_0) = true)
    (l_1 : K.lookup f_1 = some ⟨oc_1, od_1, .func (W.fnOf "hands_among" "hands_among" (defArgs s_hands_among) (defBody s_hands_among) (defScope s_hands_among) .none kV_1 dc_1 pm_1 an_1 cd_1 ct_1), sl_1⟩)
    (c_1 : W.codeIn K cd_1 "hands_among" = true)
    (k_1 : W.keepIn K (.ref f_1) = true)
    (l_2 : K.lookup f_2 = some ⟨oc_2, od_2, .func (W.fnOf "covers" "covers" (defArgs s_covers) (defBody s_covers) (defScope s_covers) .none kV_2 dc_2 pm_2 an_2 cd_2 ct_2), sl_2⟩)
    (c_2 : W.codeIn K cd_2 "covers" = true)
    (k_2 : W.keepIn K (.ref f_2) = true)
    (l_3 : K.lookup f_3 = some ⟨oc_3, od_3, .func (W.fnOf "unpacked" "unpacked" (defArgs s_unpacked) (defBody s_unpacked) (defScope s_unpacked) .none kV_3 dc_3 pm_3 an_3 cd_3 ct_3), sl_3⟩)
    (c_3 : W.codeIn K cd_3 "unpacked" = true)
    (k_3 : W.keepIn K (.ref f_3) = true)
    (l_4 : K.lookup f_4 = some ⟨oc_4, od_4, .func (W.fnOf "joined" "joined" (defArgs s_joined) (defBody s_joined) (defScope s_joined) .none kV_4 dc_4 pm_4 an_4 cd_4 ct_4), sl_4⟩)
    (c_4 : W.codeIn K cd_4 "joined" = true)
    (k_4 : W.keepIn K (.ref f_4) = true)
    (l_5 : K.lookup f_5 = some ⟨oc_5, od_5, .func (W.fnOf "covers_name" "covers_name" (defArgs s_covers_name) (defBody s_covers_name) (defScope s_covers_name) .none kV_5 dc_5 pm_5 an_5 cd_5 ct_5), sl_5⟩)
    (c_5 : W.codeIn K cd_5 "covers_name" = true)
    (k_5 : W.keepIn K (.ref f_5) = true)
    (l_6 : K.lookup f_6 = some ⟨oc_6, od_6, .func (W.fnOf "__init__" "Call.__init__" (defArgs s_Call___init__) (defBody s_Call___init__) (defScope s_Call___init__) .none kV_6 dc_6 pm_6 an_6 cd_6 ct_6), sl_6⟩)
    (c_6 : W.codeIn K cd_6 "Call.__init__" = true)
    (k_6 : W.keepIn K (.ref f_6) = true)
    (l_7 : K.lookup f_7 = some ⟨oc_7, od_7, .func (W.fnOf "__init__" "OwnCall.__init__" (defArgs s_OwnCall___init__) (defBody s_OwnCall___init__) (defScope s_OwnCall___init__) .none kV_7 dc_7 pm_7 an_7 cd_7 ct_7), sl_7⟩)
    (c_7 : W.codeIn K cd_7 "OwnCall.__init__" = true)
    (k_7 : W.keepIn K (.ref f_7) = true)
    (l_8 : K.lookup f_8 = some ⟨oc_8, od_8, .func (W.fnOf "is_whole" "is_whole" (defArgs s_is_whole) (defBody s_is_whole) (defScope s_is_whole) .none kV_8 dc_8 pm_8 an_8 cd_8 ct_8), sl_8⟩)
    (c_8 : W.codeIn K cd_8 "is_whole" = true)
    (k_8 : W.keepIn K (.ref f_8) = true)
    (l_9 : K.lookup f_9 = some ⟨oc_9, od_9, .func (W.fnOf "is_word" "is_word" (defArgs s_is_word) (defBody s_is_word) (defScope s_is_word) .none kV_9 dc_9 pm_9 an_9 cd_9 ct_9), sl_9⟩)
    (c_9 : W.codeIn K cd_9 "is_word" = true)
    (k_9 : W.keepIn K (.ref f_9) = true)
    (l_10 : K.lookup f_10 = some ⟨oc_10, od_10, .func (W.fnOf "make_call" "make_call" (defArgs s_make_call) (defBody s_make_call) (defScope s_make_call) .none kV_10 dc_10 pm_10 an_10 cd_10 ct_10), sl_10⟩)
    (c_10 : W.codeIn K cd_10 "make_call" = true)
    (k_10 : W.keepIn K (.ref f_10) = true)
    (l_11 : K.lookup f_11 = some ⟨oc_11, od_11, .func (W.fnOf "in_turn" "Call.in_turn" (defArgs s_Call_in_turn) (defBody s_Call_in_turn) (defScope s_Call_in_turn) .none kV_11 dc_11 pm_11 an_11 cd_11 ct_11), sl_11⟩)
    (c_11 : W.codeIn K cd_11 "Call.in_turn" = true)
    (k_11 : W.keepIn K (.ref f_11) = true)
    (l_12 : K.lookup f_12 = some ⟨oc_12, od_12, .func (W.fnOf "free" "Call.free" (defArgs s_Call_free) (defBody s_Call_free) (defScope s_Call_free) .none kV_12 dc_12 pm_12 an_12 cd_12 ct_12), sl_12⟩)
    (c_12 : W.codeIn K cd_12 "Call.free" = true)
    (k_12 : W.keepIn K (.ref f_12) = true)
    (l_13 : K.lookup f_13 = some ⟨oc_13, od_13, .func (W.fnOf "free" "HeardCall.free" (defArgs s_HeardCall_free) (defBody s_HeardCall_free) (defScope s_HeardCall_free) .none kV_13 dc_13 pm_13 an_13 cd_13 ct_13), sl_13⟩)
    (c_13 : W.codeIn K cd_13 "HeardCall.free" = true)
    (k_13 : W.keepIn K (.ref f_13) = true)
    (l_14 : K.lookup f_14 = some ⟨oc_14, od_14, .func (W.fnOf "first_open" "first_open" (defArgs s_first_open) (defBody s_first_open) (defScope s_first_open) .none kV_14 dc_14 pm_14 an_14 cd_14 ct_14), sl_14⟩)
    (c_14 : W.codeIn K cd_14 "first_open" = true)
    (k_14 : W.keepIn K (.ref f_14) = true)
    (l_15 : K.lookup f_15 = some ⟨oc_15, od_15, .func (W.fnOf "name_at" "name_at" (defArgs s_name_at) (defBody s_name_at) (defScope s_name_at) .none kV_15 dc_15 pm_15 an_15 cd_15 ct_15), sl_15⟩)
    (c_15 : W.codeIn K cd_15 "name_at" = true)
    (k_15 : W.keepIn K (.ref f_15) = true)
    (l_16 : K.lookup f_16 = some ⟨oc_16, od_16, .func (W.fnOf "name" "Call.name" (defArgs s_Call_name) (defBody s_Call_name) (defScope s_Call_name) .none kV_16 dc_16 pm_16 an_16 cd_16 ct_16), sl_16⟩)
    (c_16 : W.codeIn K cd_16 "Call.name" = true)
    (k_16 : W.keepIn K (.ref f_16) = true)
    (l_17 : K.lookup f_17 = some ⟨oc_17, od_17, .func (W.fnOf "rank" "Call.rank" (defArgs s_Call_rank) (defBody s_Call_rank) (defScope s_Call_rank) .none kV_17 dc_17 pm_17 an_17 cd_17 ct_17), sl_17⟩)
    (c_17 : W.codeIn K cd_17 "Call.rank" = true)
    (k_17 : W.keepIn K (.ref f_17) = true)
    (l_18 : K.lookup f_18 = some ⟨oc_18, od_18, .func (W.fnOf "asks_place" "Call.asks_place" (defArgs s_Call_asks_place) (defBody s_Call_asks_place) (defScope s_Call_asks_place) .none kV_18 dc_18 pm_18 an_18 cd_18 ct_18), sl_18⟩)
    (c_18 : W.codeIn K cd_18 "Call.asks_place" = true)
    (k_18 : W.keepIn K (.ref f_18) = true)
    (l_19 : K.lookup f_19 = some ⟨oc_19, od_19, .func (W.fnOf "asks_place" "OneCall.asks_place" (defArgs s_OneCall_asks_place) (defBody s_OneCall_asks_place) (defScope s_OneCall_asks_place) .none kV_19 dc_19 pm_19 an_19 cd_19 ct_19), sl_19⟩)
    (c_19 : W.codeIn K cd_19 "OneCall.asks_place" = true)
    (k_19 : W.keepIn K (.ref f_19) = true)
    (l_20 : K.lookup f_20 = some ⟨oc_20, od_20, .func (W.fnOf "rank_of" "rank_of" (defArgs s_rank_of) (defBody s_rank_of) (defScope s_rank_of) .none kV_20 dc_20 pm_20 an_20 cd_20 ct_20), sl_20⟩)
    (c_20 : W.codeIn K cd_20 "rank_of" = true)
    (k_20 : W.keepIn K (.ref f_20) = true)
    (l_21 : K.lookup f_21 = some ⟨oc_21, od_21, .func (W.fnOf "can_be_taken" "can_be_taken" (defArgs s_can_be_taken) (defBody s_can_be_taken) (defScope s_can_be_taken) .none kV_21 dc_21 pm_21 an_21 cd_21 ct_21), sl_21⟩)
    (c_21 : W.codeIn K cd_21 "can_be_taken" = true)
    (k_21 : W.keepIn K (.ref f_21) = true)
    (l_22 : K.lookup f_22 = some ⟨oc_22, od_22, .func (W.fnOf "first_to_take" "first_to_take" (defArgs s_first_to_take) (defBody s_first_to_take) (defScope s_first_to_take) .none kV_22 dc_22 pm_22 an_22 cd_22 ct_22), sl_22⟩)
    (c_22 : W.codeIn K cd_22 "first_to_take" = true)
    (k_22 : W.keepIn K (.ref f_22) = true)
    (l_23 : K.lookup f_23 = some ⟨oc_23, od_23, .func (W.fnOf "callers_from" "callers_from" (defArgs s_callers_from) (defBody s_callers_from) (defScope s_callers_from) .none kV_23 dc_23 pm_23 an_23 cd_23 ct_23), sl_23⟩)
    (c_23 : W.codeIn K cd_23 "callers_from" = true)
    (k_23 : W.keepIn K (.ref f_23) = true)
    (l_24 : K.lookup f_24 = some ⟨oc_24, od_24, .func (W.fnOf "run" "run" (defArgs s_run) (defBody s_run) (defScope s_run) .none kV_24 dc_24 pm_24 an_24 cd_24 ct_24), sl_24⟩)
    (c_24 : W.codeIn K cd_24 "run" = true)
    (k_24 : W.keepIn K (.ref f_24) = true)
    (l_25 : K.lookup f_25 = some ⟨oc_25, od_25, .func (W.fnOf "least_asking" "least_asking" (defArgs s_least_asking) (defBody s_least_asking) (defScope s_least_asking) .none kV_25 dc_25 pm_25 an_25 cd_25 ct_25), sl_25⟩)
    (c_25 : W.codeIn K cd_25 "least_asking" = true)
    (k_25 : W.keepIn K (.ref f_25) = true)
    (l_26 : K.lookup f_26 = some ⟨oc_26, od_26, .func (W.fnOf "placed" "placed" (defArgs s_placed) (defBody s_placed) (defScope s_placed) .none kV_26 dc_26 pm_26 an_26 cd_26 ct_26), sl_26⟩)
    (c_26 : W.codeIn K cd_26 "placed" = true)
    (k_26 : W.keepIn K (.ref f_26) = true)
    (l_27 : K.lookup f_27 = some ⟨oc_27, od_27, .func (W.fnOf "_law_cell_at" "_law_cell_at" (defArgs s__law_cell_at) (defBody s__law_cell_at) (defScope s__law_cell_at) .none kV_27 dc_27 pm_27 an_27 cd_27 ct_27), sl_27⟩)
    (c_27 : W.codeIn K cd_27 "_law_cell_at" = true)
    (k_27 : W.keepIn K (.ref f_27) = true)
    (l_28 : K.lookup f_28 = some ⟨oc_28, od_28, .func (W.fnOf "_law_hands" "_law_hands" (defArgs s__law_hands) (defBody s__law_hands) (defScope s__law_hands) .none kV_28 dc_28 pm_28 an_28 cd_28 ct_28), sl_28⟩)
    (c_28 : W.codeIn K cd_28 "_law_hands" = true)
    (k_28 : W.keepIn K (.ref f_28) = true)
    (l_29 : K.lookup f_29 = some ⟨oc_29, od_29, .func (W.fnOf "_law_start" "_law_start" (defArgs s__law_start) (defBody s__law_start) (defScope s__law_start) .none kV_29 dc_29 pm_29 an_29 cd_29 ct_29), sl_29⟩)
    (c_29 : W.codeIn K cd_29 "_law_start" = true)
    (k_29 : W.keepIn K (.ref f_29) = true)
    (l_30 : K.lookup f_30 = some ⟨oc_30, od_30, .func (W.fnOf "kind" "OwnCall.kind" (defArgs s_OwnCall_kind) (defBody s_OwnCall_kind) (defScope s_OwnCall_kind) .none kV_30 dc_30 pm_30 an_30 cd_30 ct_30), sl_30⟩)
    (c_30 : W.codeIn K cd_30 "OwnCall.kind" = true)
    (k_30 : W.keepIn K (.ref f_30) = true)
    (l_31 : K.lookup f_31 = some ⟨oc_31, od_31, .func (W.fnOf "kind" "HeardCall.kind" (defArgs s_HeardCall_kind) (defBody s_HeardCall_kind) (defScope s_HeardCall_kind) .none kV_31 dc_31 pm_31 an_31 cd_31 ct_31), sl_31⟩)
    (c_31 : W.codeIn K cd_31 "HeardCall.kind" = true)
    (k_31 : W.keepIn K (.ref f_31) = true)
    (l_32 : K.lookup f_32 = some ⟨oc_32, od_32, .func (W.fnOf "kind" "OneCall.kind" (defArgs s_OneCall_kind) (defBody s_OneCall_kind) (defScope s_OneCall_kind) .none kV_32 dc_32 pm_32 an_32 cd_32 ct_32), sl_32⟩)
    (c_32 : W.codeIn K cd_32 "OneCall.kind" = true)
    (k_32 : W.keepIn K (.ref f_32) = true)
    (l_33 : K.lookup f_33 = some ⟨oc_33, od_33, .func (W.fnOf "told" "Call.told" (defArgs s_Call_told) (defBody s_Call_told) (defScope s_Call_told) .none kV_33 dc_33 pm_33 an_33 cd_33 ct_33), sl_33⟩)
    (c_33 : W.codeIn K cd_33 "Call.told" = true)
    (k_33 : W.keepIn K (.ref f_33) = true)
    (l_34 : K.lookup f_34 = some ⟨oc_34, od_34, .func (W.fnOf "_law_causes" "_law_causes" (defArgs s__law_causes) (defBody s__law_causes) (defScope s__law_causes) .none kV_34 dc_34 pm_34 an_34 cd_34 ct_34), sl_34⟩)
    (c_34 : W.codeIn K cd_34 "_law_causes" = true)
    (k_34 : W.keepIn K (.ref f_34) = true)
    (l_35 : K.lookup f_35 = some ⟨oc_35, od_35, .func (W.fnOf "_law_calls" "_law_calls" (defArgs s__law_calls) (defBody s__law_calls) (defScope s__law_calls) .none kV_35 dc_35 pm_35 an_35 cd_35 ct_35), sl_35⟩)
    (c_35 : W.codeIn K cd_35 "_law_calls" = true)
    (k_35 : W.keepIn K (.ref f_35) = true)
    (l_36 : K.lookup f_36 = some ⟨oc_36, od_36, .func (W.fnOf "_law_by_count" "_law_by_count" (defArgs s__law_by_count) (defBody s__law_by_count) (defScope s__law_by_count) .none kV_36 dc_36 pm_36 an_36 cd_36 ct_36), sl_36⟩)
    (c_36 : W.codeIn K cd_36 "_law_by_count" = true)
    (k_36 : W.keepIn K (.ref f_36) = true)
    (l_37 : K.lookup f_37 = some ⟨oc_37, od_37, .func (W.fnOf "_law_places" "_law_places" (defArgs s__law_places) (defBody s__law_places) (defScope s__law_places) .none kV_37 dc_37 pm_37 an_37 cd_37 ct_37), sl_37⟩)
    (c_37 : W.codeIn K cd_37 "_law_places" = true)
    (k_37 : W.keepIn K (.ref f_37) = true)
    (l_38 : K.lookup f_38 = some ⟨oc_38, od_38, .func (W.fnOf "_law_free" "_law_free" (defArgs s__law_free) (defBody s__law_free) (defScope s__law_free) .none kV_38 dc_38 pm_38 an_38 cd_38 ct_38), sl_38⟩)
    (c_38 : W.codeIn K cd_38 "_law_free" = true)
    (k_38 : W.keepIn K (.ref f_38) = true)
    (l_39 : K.lookup f_39 = some ⟨oc_39, od_39, .func (W.fnOf "_law_reached" "_law_reached" (defArgs s__law_reached) (defBody s__law_reached) (defScope s__law_reached) .none kV_39 dc_39 pm_39 an_39 cd_39 ct_39), sl_39⟩)
    (c_39 : W.codeIn K cd_39 "_law_reached" = true)
    (k_39 : W.keepIn K (.ref f_39) = true)
    (l_40 : K.lookup f_40 = some ⟨oc_40, od_40, .func (W.fnOf "_law_able" "_law_able" (defArgs s__law_able) (defBody s__law_able) (defScope s__law_able) .none kV_40 dc_40 pm_40 an_40 cd_40 ct_40), sl_40⟩)
    (c_40 : W.codeIn K cd_40 "_law_able" = true)
    (k_40 : W.keepIn K (.ref f_40) = true)
    (l_41 : K.lookup f_41 = some ⟨oc_41, od_41, .func (W.fnOf "_law_asking" "_law_asking" (defArgs s__law_asking) (defBody s__law_asking) (defScope s__law_asking) .none kV_41 dc_41 pm_41 an_41 cd_41 ct_41), sl_41⟩)
    (c_41 : W.codeIn K cd_41 "_law_asking" = true)
    (k_41 : W.keepIn K (.ref f_41) = true)
    (l_42 : K.lookup f_42 = some ⟨oc_42, od_42, .func (W.fnOf "_law_walked" "_law_walked" (defArgs s__law_walked) (defBody s__law_walked) (defScope s__law_walked) .none kV_42 dc_42 pm_42 an_42 cd_42 ct_42), sl_42⟩)
    (c_42 : W.codeIn K cd_42 "_law_walked" = true)
    (k_42 : W.keepIn K (.ref f_42) = true)
    (l_43 : K.lookup f_43 = some ⟨oc_43, od_43, .func (W.fnOf "law" "law" (defArgs s_law) (defBody s_law) (defScope s_law) .none kV_43 dc_43 pm_43 an_43 cd_43 ct_43), sl_43⟩)
    (c_43 : W.codeIn K cd_43 "law" = true)
    (k_43 : W.keepIn K (.ref f_43) = true)
    (i_6 : W.isFn K (.ref f_6) = true)
    (i_18 : W.isFn K (.ref f_18) = true)
    (i_12 : W.isFn K (.ref f_12) = true)
    (i_11 : W.isFn K (.ref f_11) = true)
    (i_16 : W.isFn K (.ref f_16) = true)
    (i_17 : W.isFn K (.ref f_17) = true)
    (i_33 : W.isFn K (.ref f_33) = true)
    (i_13 : W.isFn K (.ref f_13) = true)
    (i_31 : W.isFn K (.ref f_31) = true)
    (i_19 : W.isFn K (.ref f_19) = true)
    (i_32 : W.isFn K (.ref f_32) = true)
    (i_7 : W.isFn K (.ref f_7) = true)
    (i_30 : W.isFn K (.ref f_30) = true)
    (pg_Call : W.plainGet K C_Call Str.empty = true)
    (hd_Call : W.hasDictIn K C_Call = true)
    (po_Call : W.plainOver K C_Call = true)
    (sa_Call : W.findIn K (.ref C_Call) "__setattr__" = some (some (.builtin "object.__setattr__")))
    (n_Call_number : W.findIn K (.ref C_Call) "number" = some none)
    (n_Call_caller : W.findIn K (.ref C_Call) "caller" = some none)
    (n_Call_count : W.findIn K (.ref C_Call) "count" = some none)
    (n_Call_word : W.findIn K (.ref C_Call) "word" = some none)
    (n_Call_causes : W.findIn K (.ref C_Call) "causes" = some none)
    (pg_HeardCall : W.plainGet K C_HeardCall Str.empty = true)
    (hd_HeardCall : W.hasDictIn K C_HeardCall = true)
    (po_HeardCall : W.plainOver K C_HeardCall = true)
    (sa_HeardCall : W.findIn K (.ref C_HeardCall) "__setattr__" = some (some (.builtin "object.__setattr__")))
    (n_HeardCall_number : W.findIn K (.ref C_HeardCall) "number" = some none)
    (n_HeardCall_caller : W.findIn K (.ref C_HeardCall) "caller" = some none)
    (n_HeardCall_count : W.findIn K (.ref C_HeardCall) "count" = some none)
    (n_HeardCall_word : W.findIn K (.ref C_HeardCall) "word" = some none)
    (n_HeardCall_causes : W.findIn K (.ref C_HeardCall) "causes" = some none)
    (pg_OneCall : W.plainGet K C_OneCall Str.empty = true)
    (hd_OneCall : W.hasDictIn K C_OneCall = true)
    (po_OneCall : W.plainOver K C_OneCall = true)
    (sa_OneCall : W.findIn K (.ref C_OneCall) "__setattr__" = some (some (.builtin "object.__setattr__")))
    (n_OneCall_number : W.findIn K (.ref C_OneCall) "number" = some none)
    (n_OneCall_caller : W.findIn K (.ref C_OneCall) "caller" = some none)
    (n_OneCall_count : W.findIn K (.ref C_OneCall) "count" = some none)
    (n_OneCall_word : W.findIn K (.ref C_OneCall) "word" = some none)
    (n_OneCall_causes : W.findIn K (.ref C_OneCall) "causes" = some none)
    (pg_OwnCall : W.plainGet K C_OwnCall Str.empty = true)
    (hd_OwnCall : W.hasDictIn K C_OwnCall = true)
    (po_OwnCall : W.plainOver K C_OwnCall = true)
    (sa_OwnCall : W.findIn K (.ref C_OwnCall) "__setattr__" = some (some (.builtin "object.__setattr__")))
    (n_OwnCall_number : W.findIn K (.ref C_OwnCall) "number" = some none)
    (n_OwnCall_caller : W.findIn K (.ref C_OwnCall) "caller" = some none)
    (n_OwnCall_count : W.findIn K (.ref C_OwnCall) "count" = some none)
    (n_OwnCall_word : W.findIn K (.ref C_OwnCall) "word" = some none)
    (n_OwnCall_causes : W.findIn K (.ref C_OwnCall) "causes" = some none)
    (mk_HeardCall : W.makesIn K C_HeardCall = true)
    (kc_HeardCall : W.keepIn K (.ref C_HeardCall) = true)
    (mk_OneCall : W.makesIn K C_OneCall = true)
    (kc_OneCall : W.keepIn K (.ref C_OneCall) = true)
    (mk_OwnCall : W.makesIn K C_OwnCall = true)
    (kc_OwnCall : W.keepIn K (.ref C_OwnCall) = true)
    (ga_Call : W.specialIn K (.ref C_Call) "__getattribute__" = some (some (.builtin "type.__getattribute__")))
    (rd_Call : W.readsIn K C_Call (.type "type") = true)
    (gl_KINDS : K.lookup aK = some ⟨.type "tuple", none, .seq #[.str "own" t1K, .str "heard" t2K, .str "one" t3K] nK, #[]⟩)
    : ∃ fd : FuncData, (∀ (s : Shared) (v : Value), BindsTo s fd ⟨[v], []⟩ [("_law_script", v)]) ∧ ∀ base : Heap, K.In base → base.Ns mainGlobals mg → FnOk l.prog w K mg base CX0 8 fa fd ["_law_script"] (sp_law K) := by
  have e := hfa.symm.trans (W.mg_of X G a_43)
  cases e
  have F_0 := fun_mk (st := s_count_of) l_0 c_0 k_0
  have CA_0 : Cal K mg "count_of" f_0 _ ["counts", "hand"] := ⟨W.mg_of X G a_0, k_0, F_0.binds (ps := ["counts", "hand"]) fun _ _ _ _ _ _ us hl => match us, hl with | [_, _], _ => rfl⟩
  have F_1 := fun_mk (st := s_hands_among) l_1 c_1 k_1
  have CA_1 : Cal K mg "hands_among" f_1 _ ["some"] := ⟨W.mg_of X G a_1, k_1, F_1.binds (ps := ["some"]) fun _ _ _ _ _ _ us hl => match us, hl with | [_], _ => rfl⟩
  have F_2 := fun_mk (st := s_covers) l_2 c_2 k_2
  have CA_2 : Cal K mg "covers" f_2 _ ["one", "other"] := ⟨W.mg_of X G a_2, k_2, F_2.binds (ps := ["one", "other"]) fun _ _ _ _ _ _ us hl => match us, hl with | [_, _], _ => rfl⟩
  have F_3 := fun_mk (st := s_unpacked) l_3 c_3 k_3
  have CA_3 : Cal K mg "unpacked" f_3 _ ["pairs"] := ⟨W.mg_of X G a_3, k_3, F_3.binds (ps := ["pairs"]) fun _ _ _ _ _ _ us hl => match us, hl with | [_], _ => rfl⟩
  have F_4 := fun_mk (st := s_joined) l_4 c_4 k_4
  have CA_4 : Cal K mg "joined" f_4 _ ["one", "other"] := ⟨W.mg_of X G a_4, k_4, F_4.binds (ps := ["one", "other"]) fun _ _ _ _ _ _ us hl => match us, hl with | [_, _], _ => rfl⟩
  have F_5 := fun_mk (st := s_covers_name) l_5 c_5 k_5
  have CA_5 : Cal K mg "covers_name" f_5 _ ["counts", "name"] := ⟨W.mg_of X G a_5, k_5, F_5.binds (ps := ["counts", "name"]) fun _ _ _ _ _ _ us hl => match us, hl with | [_, _], _ => rfl⟩
  have F_6 := fun_mk (st := s_Call___init__) l_6 c_6 k_6
  have B_6 : Binds K _ ["self", "number", "caller", "count", "word", "causes"] [] := F_6.binds (ps := ["self", "number", "caller", "count", "word", "causes"]) fun _ _ _ _ _ _ us hl => match us, hl with | [_, _, _, _, _, _], _ => rfl
  have F_7 := fun_mk (st := s_OwnCall___init__) l_7 c_7 k_7
  have B_7 : Binds K _ ["self", "number", "caller", "count", "word", "causes"] [] := F_7.binds (ps := ["self", "number", "caller", "count", "word", "causes"]) fun _ _ _ _ _ _ us hl => match us, hl with | [_, _, _, _, _, _], _ => rfl
  have F_8 := fun_mk (st := s_is_whole) l_8 c_8 k_8
  have CA_8 : Cal K mg "is_whole" f_8 _ ["value"] := ⟨W.mg_of X G a_8, k_8, F_8.binds (ps := ["value"]) fun _ _ _ _ _ _ us hl => match us, hl with | [_], _ => rfl⟩
  have F_9 := fun_mk (st := s_is_word) l_9 c_9 k_9
  have CA_9 : Cal K mg "is_word" f_9 _ ["word"] := ⟨W.mg_of X G a_9, k_9, F_9.binds (ps := ["word"]) fun _ _ _ _ _ _ us hl => match us, hl with | [_], _ => rfl⟩
  have F_10 := fun_mk (st := s_make_call) l_10 c_10 k_10
  have CA_10 : Cal K mg "make_call" f_10 _ ["number", "caller", "count", "kind", "word", "causes"] := ⟨W.mg_of X G a_10, k_10, F_10.binds (ps := ["number", "caller", "count", "kind", "word", "causes"]) fun _ _ _ _ _ _ us hl => match us, hl with | [_, _, _, _, _, _], _ => rfl⟩
  have F_11 := fun_mk (st := s_Call_in_turn) l_11 c_11 k_11
  have B_11 : Binds K _ ["self", "counts"] [] := F_11.binds (ps := ["self", "counts"]) fun _ _ _ _ _ _ us hl => match us, hl with | [_, _], _ => rfl
  have F_12 := fun_mk (st := s_Call_free) l_12 c_12 k_12
  have B_12 : Binds K _ ["self", "counts"] [] := F_12.binds (ps := ["self", "counts"]) fun _ _ _ _ _ _ us hl => match us, hl with | [_, _], _ => rfl
  have F_13 := fun_mk (st := s_HeardCall_free) l_13 c_13 k_13
  have B_13 : Binds K _ ["self", "counts"] [] := F_13.binds (ps := ["self", "counts"]) fun _ _ _ _ _ _ us hl => match us, hl with | [_, _], _ => rfl
  have F_14 := fun_mk (st := s_first_open) l_14 c_14 k_14
  have CA_14 : Cal K mg "first_open" f_14 _ ["places", "counts", "start"] := ⟨W.mg_of X G a_14, k_14, F_14.binds (ps := ["places", "counts", "start"]) fun _ _ _ _ _ _ us hl => match us, hl with | [_, _, _], _ => rfl⟩
  have F_15 := fun_mk (st := s_name_at) l_15 c_15 k_15
  have CA_15 : Cal K mg "name_at" f_15 _ ["places", "at"] := ⟨W.mg_of X G a_15, k_15, F_15.binds (ps := ["places", "at"]) fun _ _ _ _ _ _ us hl => match us, hl with | [_, _], _ => rfl⟩
  have F_16 := fun_mk (st := s_Call_name) l_16 c_16 k_16
  have B_16 : Binds K _ ["self"] [] := F_16.binds (ps := ["self"]) fun _ _ _ _ _ _ us hl => match us, hl with | [_], _ => rfl
  have F_17 := fun_mk (st := s_Call_rank) l_17 c_17 k_17
  have B_17 : Binds K _ ["self"] [] := F_17.binds (ps := ["self"]) fun _ _ _ _ _ _ us hl => match us, hl with | [_], _ => rfl
  have F_18 := fun_mk (st := s_Call_asks_place) l_18 c_18 k_18
  have B_18 : Binds K _ ["self"] [] := F_18.binds (ps := ["self"]) fun _ _ _ _ _ _ us hl => match us, hl with | [_], _ => rfl
  have F_19 := fun_mk (st := s_OneCall_asks_place) l_19 c_19 k_19
  have B_19 : Binds K _ ["self"] [] := F_19.binds (ps := ["self"]) fun _ _ _ _ _ _ us hl => match us, hl with | [_], _ => rfl
  have F_20 := fun_mk (st := s_rank_of) l_20 c_20 k_20
  have CA_20 : Cal K mg "rank_of" f_20 _ ["call"] := ⟨W.mg_of X G a_20, k_20, F_20.binds (ps := ["call"]) fun _ _ _ _ _ _ us hl => match us, hl with | [_], _ => rfl⟩
  have F_21 := fun_mk (st := s_can_be_taken) l_21 c_21 k_21
  have CA_21 : Cal K mg "can_be_taken" f_21 _ ["call", "counts", "name"] := ⟨W.mg_of X G a_21, k_21, F_21.binds (ps := ["call", "counts", "name"]) fun _ _ _ _ _ _ us hl => match us, hl with | [_, _, _], _ => rfl⟩
  have F_22 := fun_mk (st := s_first_to_take) l_22 c_22 k_22
  have CA_22 : Cal K mg "first_to_take" f_22 _ ["callers", "ranked", "counts", "name"] := ⟨W.mg_of X G a_22, k_22, F_22.binds (ps := ["callers", "ranked", "counts", "name"]) fun _ _ _ _ _ _ us hl => match us, hl with | [_, _, _, _], _ => rfl⟩
  have F_23 := fun_mk (st := s_callers_from) l_23 c_23 k_23
  have CA_23 : Cal K mg "callers_from" f_23 _ ["callers", "last"] := ⟨W.mg_of X G a_23, k_23, F_23.binds (ps := ["callers", "last"]) fun _ _ _ _ _ _ us hl => match us, hl with | [_, _], _ => rfl⟩
  have F_24 := fun_mk (st := s_run) l_24 c_24 k_24
  have CA_24 : Cal K mg "run" f_24 _ ["counts", "calls", "places"] := ⟨W.mg_of X G a_24, k_24, F_24.binds (ps := ["counts", "calls", "places"]) fun _ _ _ _ _ _ us hl => match us, hl with | [_, _, _], _ => rfl⟩
  have F_25 := fun_mk (st := s_least_asking) l_25 c_25 k_25
  have CA_25 : Cal K mg "least_asking" f_25 _ ["calls", "counts"] := ⟨W.mg_of X G a_25, k_25, F_25.binds (ps := ["calls", "counts"]) fun _ _ _ _ _ _ us hl => match us, hl with | [_, _], _ => rfl⟩
  have F_26 := fun_mk (st := s_placed) l_26 c_26 k_26
  have CA_26 : Cal K mg "placed" f_26 _ ["counts", "calls", "places"] := ⟨W.mg_of X G a_26, k_26, F_26.binds (ps := ["counts", "calls", "places"]) fun _ _ _ _ _ _ us hl => match us, hl with | [_, _, _], _ => rfl⟩
  have F_27 := fun_mk (st := s__law_cell_at) l_27 c_27 k_27
  have CA_27 : Cal K mg "_law_cell_at" f_27 _ ["_law_script", "_law_k"] := ⟨W.mg_of X G a_27, k_27, F_27.binds (ps := ["_law_script", "_law_k"]) fun _ _ _ _ _ _ us hl => match us, hl with | [_, _], _ => rfl⟩
  have F_28 := fun_mk (st := s__law_hands) l_28 c_28 k_28
  have CA_28 : Cal K mg "_law_hands" f_28 _ ["_law_cell"] := ⟨W.mg_of X G a_28, k_28, F_28.binds (ps := ["_law_cell"]) fun _ _ _ _ _ _ us hl => match us, hl with | [_], _ => rfl⟩
  have F_29 := fun_mk (st := s__law_start) l_29 c_29 k_29
  have CA_29 : Cal K mg "_law_start" f_29 _ ["_law_hands_here", "_law_cell"] := ⟨W.mg_of X G a_29, k_29, F_29.binds (ps := ["_law_hands_here", "_law_cell"]) fun _ _ _ _ _ _ us hl => match us, hl with | [_, _], _ => rfl⟩
  have F_30 := fun_mk (st := s_OwnCall_kind) l_30 c_30 k_30
  have B_30 : Binds K _ ["self"] [] := F_30.binds (ps := ["self"]) fun _ _ _ _ _ _ us hl => match us, hl with | [_], _ => rfl
  have F_31 := fun_mk (st := s_HeardCall_kind) l_31 c_31 k_31
  have B_31 : Binds K _ ["self"] [] := F_31.binds (ps := ["self"]) fun _ _ _ _ _ _ us hl => match us, hl with | [_], _ => rfl
  have F_32 := fun_mk (st := s_OneCall_kind) l_32 c_32 k_32
  have B_32 : Binds K _ ["self"] [] := F_32.binds (ps := ["self"]) fun _ _ _ _ _ _ us hl => match us, hl with | [_], _ => rfl
  have F_33 := fun_mk (st := s_Call_told) l_33 c_33 k_33
  have B_33 : Binds K _ ["self"] [] := F_33.binds (ps := ["self"]) fun _ _ _ _ _ _ us hl => match us, hl with | [_], _ => rfl
  have F_34 := fun_mk (st := s__law_causes) l_34 c_34 k_34
  have CA_34 : Cal K mg "_law_causes" f_34 _ ["_law_hands_here", "_law_made", "_law_cell"] := ⟨W.mg_of X G a_34, k_34, F_34.binds (ps := ["_law_hands_here", "_law_made", "_law_cell"]) fun _ _ _ _ _ _ us hl => match us, hl with | [_, _, _], _ => rfl⟩
  have F_35 := fun_mk (st := s__law_calls) l_35 c_35 k_35
  have CA_35 : Cal K mg "_law_calls" f_35 _ ["_law_hands_here", "_law_number", "_law_start_here", "_law_cells"] := ⟨W.mg_of X G a_35, k_35, F_35.binds (ps := ["_law_hands_here", "_law_number", "_law_start_here", "_law_cells"]) fun _ _ _ _ _ _ us hl => match us, hl with | [_, _, _, _], _ => rfl⟩
  have F_36 := fun_mk (st := s__law_by_count) l_36 c_36 k_36
  have CA_36 : Cal K mg "_law_by_count" f_36 _ ["_law_name"] := ⟨W.mg_of X G a_36, k_36, F_36.binds (ps := ["_law_name"]) fun _ _ _ _ _ _ us hl => match us, hl with | [_], _ => rfl⟩
  have F_37 := fun_mk (st := s__law_places) l_37 c_37 k_37
  have CA_37 : Cal K mg "_law_places" f_37 _ ["_law_ones", "_law_cell"] := ⟨W.mg_of X G a_37, k_37, F_37.binds (ps := ["_law_ones", "_law_cell"]) fun _ _ _ _ _ _ us hl => match us, hl with | [_, _], _ => rfl⟩
  have F_38 := fun_mk (st := s__law_free) l_38 c_38 k_38
  have CA_38 : Cal K mg "_law_free" f_38 _ ["_law_told", "_law_counts"] := ⟨W.mg_of X G a_38, k_38, F_38.binds (ps := ["_law_told", "_law_counts"]) fun _ _ _ _ _ _ us hl => match us, hl with | [_, _], _ => rfl⟩
  have F_39 := fun_mk (st := s__law_reached) l_39 c_39 k_39
  have CA_39 : Cal K mg "_law_reached" f_39 _ ["_law_places_here", "_law_counts"] := ⟨W.mg_of X G a_39, k_39, F_39.binds (ps := ["_law_places_here", "_law_counts"]) fun _ _ _ _ _ _ us hl => match us, hl with | [_, _], _ => rfl⟩
  have F_40 := fun_mk (st := s__law_able) l_40 c_40 k_40
  have CA_40 : Cal K mg "_law_able" f_40 _ ["_law_calls_here", "_law_counts", "_law_places_here"] := ⟨W.mg_of X G a_40, k_40, F_40.binds (ps := ["_law_calls_here", "_law_counts", "_law_places_here"]) fun _ _ _ _ _ _ us hl => match us, hl with | [_, _, _], _ => rfl⟩
  have F_41 := fun_mk (st := s__law_asking) l_41 c_41 k_41
  have CA_41 : Cal K mg "_law_asking" f_41 _ ["_law_calls_here", "_law_counts"] := ⟨W.mg_of X G a_41, k_41, F_41.binds (ps := ["_law_calls_here", "_law_counts"]) fun _ _ _ _ _ _ us hl => match us, hl with | [_, _], _ => rfl⟩
  have F_42 := fun_mk (st := s__law_walked) l_42 c_42 k_42
  have CA_42 : Cal K mg "_law_walked" f_42 _ ["_law_row", "_law_start_here", "_law_calls_here", "_law_places_here"] := ⟨W.mg_of X G a_42, k_42, F_42.binds (ps := ["_law_row", "_law_start_here", "_law_calls_here", "_law_places_here"]) fun _ _ _ _ _ _ us hl => match us, hl with | [_, _, _, _], _ => rfl⟩
  have F_43 := fun_mk (st := s_law) l_43 c_43 k_43
  have m_Call := W.mg_of X G a_Call
  have T_Call : TCall K C_Call := ⟨⟨pg_Call, hd_Call, po_Call, sa_Call⟩, n_Call_number, n_Call_caller, n_Call_count, n_Call_word, n_Call_causes⟩
  have m_HeardCall := W.mg_of X G a_HeardCall
  have T_HeardCall : TCall K C_HeardCall := ⟨⟨pg_HeardCall, hd_HeardCall, po_HeardCall, sa_HeardCall⟩, n_HeardCall_number, n_HeardCall_caller, n_HeardCall_count, n_HeardCall_word, n_HeardCall_causes⟩
  have m_OneCall := W.mg_of X G a_OneCall
  have T_OneCall : TCall K C_OneCall := ⟨⟨pg_OneCall, hd_OneCall, po_OneCall, sa_OneCall⟩, n_OneCall_number, n_OneCall_caller, n_OneCall_count, n_OneCall_word, n_OneCall_causes⟩
  have m_OwnCall := W.mg_of X G a_OwnCall
  have T_OwnCall : TCall K C_OwnCall := ⟨⟨pg_OwnCall, hd_OwnCall, po_OwnCall, sa_OwnCall⟩, n_OwnCall_number, n_OwnCall_caller, n_OwnCall_count, n_OwnCall_word, n_OwnCall_causes⟩
  have mt_HeardCall_asks_place : Meth K C_HeardCall "asks_place" f_18 := ⟨at_HeardCall_asks_place, i_18, k_18⟩
  have mt_HeardCall_free : Meth K C_HeardCall "free" f_13 := ⟨at_HeardCall_free, i_13, k_13⟩
  have mt_HeardCall_in_turn : Meth K C_HeardCall "in_turn" f_11 := ⟨at_HeardCall_in_turn, i_11, k_11⟩
  have mt_HeardCall_kind : Meth K C_HeardCall "kind" f_31 := ⟨at_HeardCall_kind, i_31, k_31⟩
  have mt_HeardCall_name : Meth K C_HeardCall "name" f_16 := ⟨at_HeardCall_name, i_16, k_16⟩
  have mt_HeardCall_rank : Meth K C_HeardCall "rank" f_17 := ⟨at_HeardCall_rank, i_17, k_17⟩
  have mt_HeardCall_told : Meth K C_HeardCall "told" f_33 := ⟨at_HeardCall_told, i_33, k_33⟩
  have mt_OneCall_asks_place : Meth K C_OneCall "asks_place" f_19 := ⟨at_OneCall_asks_place, i_19, k_19⟩
  have mt_OneCall_free : Meth K C_OneCall "free" f_13 := ⟨at_OneCall_free, i_13, k_13⟩
  have mt_OneCall_in_turn : Meth K C_OneCall "in_turn" f_11 := ⟨at_OneCall_in_turn, i_11, k_11⟩
  have mt_OneCall_kind : Meth K C_OneCall "kind" f_32 := ⟨at_OneCall_kind, i_32, k_32⟩
  have mt_OneCall_name : Meth K C_OneCall "name" f_16 := ⟨at_OneCall_name, i_16, k_16⟩
  have mt_OneCall_rank : Meth K C_OneCall "rank" f_17 := ⟨at_OneCall_rank, i_17, k_17⟩
  have mt_OneCall_told : Meth K C_OneCall "told" f_33 := ⟨at_OneCall_told, i_33, k_33⟩
  have mt_OwnCall_asks_place : Meth K C_OwnCall "asks_place" f_18 := ⟨at_OwnCall_asks_place, i_18, k_18⟩
  have mt_OwnCall_free : Meth K C_OwnCall "free" f_12 := ⟨at_OwnCall_free, i_12, k_12⟩
  have mt_OwnCall_in_turn : Meth K C_OwnCall "in_turn" f_11 := ⟨at_OwnCall_in_turn, i_11, k_11⟩
  have mt_OwnCall_kind : Meth K C_OwnCall "kind" f_30 := ⟨at_OwnCall_kind, i_30, k_30⟩
  have mt_OwnCall_name : Meth K C_OwnCall "name" f_16 := ⟨at_OwnCall_name, i_16, k_16⟩
  have mt_OwnCall_rank : Meth K C_OwnCall "rank" f_17 := ⟨at_OwnCall_rank, i_17, k_17⟩
  have mt_OwnCall_told : Meth K C_OwnCall "told" f_33 := ⟨at_OwnCall_told, i_33, k_33⟩
  have M_HeardCall : Mk K C_HeardCall f_6 := ⟨mk_HeardCall, at_HeardCall___init__, i_6, kc_HeardCall⟩
  have M_OneCall : Mk K C_OneCall f_6 := ⟨mk_OneCall, at_OneCall___init__, i_6, kc_OneCall⟩
  have M_OwnCall : Mk K C_OwnCall f_7 := ⟨mk_OwnCall, at_OwnCall___init__, i_7, kc_OwnCall⟩
  have cf_Call___init__ : ClsFn K C_Call "__init__" f_6 := ⟨ga_Call, rd_Call, fc_Call___init__, rfl, k_6⟩
  have gm_KINDS := W.mg_of X G gm0_KINDS
  have gr_KINDS : RelV (.ref aK) (.ref aK) := rfl
  have gv_KINDS : GV_KINDS K (.ref aK) := ⟨aK, rfl, fun H => .inr ⟨_, _, _, gl_KINDS, rfl, rfl, (by show 3 ≤ sizeLine; decide), .cons ⟨_, rfl⟩ (.cons ⟨_, rfl⟩ (.cons ⟨_, rfl⟩ .nil))⟩⟩
  have Z_abs : mg "abs" = none := W.mg_none_of X G z_abs
  have Z_all : mg "all" = none := W.mg_none_of X G z_all
  have Z_bool : mg "bool" = none := W.mg_none_of X G z_bool
  have Z_dict : mg "dict" = none := W.mg_none_of X G z_dict
  have Z_int : mg "int" = none := W.mg_none_of X G z_int
  have Z_isinstance : mg "isinstance" = none := W.mg_none_of X G z_isinstance
  have Z_len : mg "len" = none := W.mg_none_of X G z_len
  have Z_list : mg "list" = none := W.mg_none_of X G z_list
  have Z_max : mg "max" = none := W.mg_none_of X G z_max
  have Z_min : mg "min" = none := W.mg_none_of X G z_min
  have Z_range : mg "range" = none := W.mg_none_of X G z_range
  have Z_set : mg "set" = none := W.mg_none_of X G z_set
  have Z_sorted : mg "sorted" = none := W.mg_none_of X G z_sorted
  have Z_tuple : mg "tuple" = none := W.mg_none_of X G z_tuple
  refine ⟨W.fnOf "law" "law" (defArgs s_law) (defBody s_law) (defScope s_law) .none kV_43 dc_43 pm_43 an_43 cd_43 ct_43, fun s v => .of_eq rfl, fun base _ _ => ?_⟩
  have G_0 : FnOk l.prog w K mg base CX0 1 f_0 _ ["counts", "hand"] (sp_count_of K) := ok_count_of F_0
  have G_1 : FnOk l.prog w K mg base CX0 1 f_1 _ ["some"] (sp_hands_among K) := ok_hands_among F_1 Z_list Z_set Z_sorted
  have G_2 : FnOk l.prog w K mg base CX0 2 f_2 _ ["one", "other"] (sp_covers K) := ok_covers F_2 (G_0.mono (by decide)) CA_0 (G_1.mono (by decide)) CA_1 Z_all
  have G_3 : FnOk l.prog w K mg base CX0 1 f_3 _ ["pairs"] (sp_unpacked K) := ok_unpacked F_3 Z_dict
  have G_4 : FnOk l.prog w K mg base CX0 2 f_4 _ ["one", "other"] (sp_joined K) := ok_joined F_4 (G_0.mono (by decide)) CA_0 (G_1.mono (by decide)) CA_1 (G_3.mono (by decide)) CA_3 Z_max
  have G_5 : FnOk l.prog w K mg base CX0 2 f_5 _ ["counts", "name"] (sp_covers_name K) := ok_covers_name F_5 (G_0.mono (by decide)) CA_0
  have G_6 : FnOk l.prog w K mg base CX0 1 f_6 _ ["self", "number", "caller", "count", "word", "causes"] (sp_Call___init__ K) := ok_Call___init__ F_6
  have G_7 : FnOk l.prog w K mg base CX0 2 f_7 _ ["self", "number", "caller", "count", "word", "causes"] (sp_OwnCall___init__ K) := ok_OwnCall___init__ F_7 (G_6.mono (by decide)) B_6 T_Call m_Call cf_Call___init__
  have G_8 : FnOk l.prog w K mg base CX0 1 f_8 _ ["value"] (sp_is_whole K) := ok_is_whole F_8 Z_bool Z_int Z_isinstance
  have G_9 : FnOk l.prog w K mg base CX0 2 f_9 _ ["word"] (sp_is_word K) := ok_is_word F_9 (G_8.mono (by decide)) CA_8 Z_abs
  have G_10 : FnOk l.prog w K mg base CX0 4 f_10 _ ["number", "caller", "count", "kind", "word", "causes"] (sp_make_call K mg) := ok_make_call F_10 (G_6.mono (by decide)) B_6 (G_7.mono (by decide)) B_7 (G_9.mono (by decide)) CA_9 T_HeardCall T_OneCall T_OwnCall m_HeardCall m_OneCall m_OwnCall M_HeardCall M_OneCall M_OwnCall gm_KINDS gr_KINDS gv_KINDS
  have G_11 : FnOk l.prog w K mg base CX0 2 f_11 _ ["self", "counts"] (sp_Call_in_turn K) := ok_Call_in_turn F_11 (G_0.mono (by decide)) CA_0
  have G_12 : FnOk l.prog w K mg base CX0 3 f_12 _ ["self", "counts"] (sp_Call_free K mg) := ok_Call_free F_12 (G_11.mono (by decide)) B_11 T_OwnCall m_OwnCall mt_OwnCall_in_turn
  have G_13 : FnOk l.prog w K mg base CX0 3 f_13 _ ["self", "counts"] (sp_HeardCall_free K mg) := ok_HeardCall_free F_13 (G_2.mono (by decide)) CA_2 (G_3.mono (by decide)) CA_3 (G_11.mono (by decide)) B_11 T_HeardCall T_OneCall m_HeardCall m_OneCall mt_HeardCall_in_turn mt_OneCall_in_turn
  have G_14 : FnOk l.prog w K mg base CX0 3 f_14 _ ["places", "counts", "start"] (sp_first_open K) := ok_first_open F_14 (G_5.mono (by decide)) CA_5 Z_len
  have G_15 : FnOk l.prog w K mg base CX0 1 f_15 _ ["places", "at"] (sp_name_at K) := ok_name_at F_15 Z_len
  have G_16 : FnOk l.prog w K mg base CX0 1 f_16 _ ["self"] (sp_Call_name K) := ok_Call_name F_16
  have G_17 : FnOk l.prog w K mg base CX0 1 f_17 _ ["self"] (sp_Call_rank K) := ok_Call_rank F_17
  have G_18 : FnOk l.prog w K mg base CX0 1 f_18 _ ["self"] (sp_Call_asks_place K) := ok_Call_asks_place F_18
  have G_19 : FnOk l.prog w K mg base CX0 1 f_19 _ ["self"] (sp_OneCall_asks_place K) := ok_OneCall_asks_place F_19
  have G_20 : FnOk l.prog w K mg base CX0 2 f_20 _ ["call"] (sp_rank_of K mg) := ok_rank_of F_20 (G_17.mono (by decide)) B_17 T_HeardCall T_OneCall T_OwnCall m_HeardCall m_OneCall m_OwnCall mt_HeardCall_rank mt_OneCall_rank mt_OwnCall_rank
  have G_21 : FnOk l.prog w K mg base CX0 4 f_21 _ ["call", "counts", "name"] (sp_can_be_taken K mg) := ok_can_be_taken F_21 (G_12.mono (by decide)) B_12 (G_13.mono (by decide)) B_13 (G_16.mono (by decide)) B_16 (G_18.mono (by decide)) B_18 (G_19.mono (by decide)) B_19 T_HeardCall T_OneCall T_OwnCall m_HeardCall m_OneCall m_OwnCall mt_HeardCall_asks_place mt_HeardCall_free mt_HeardCall_name mt_OneCall_asks_place mt_OneCall_free mt_OneCall_name mt_OwnCall_asks_place mt_OwnCall_free mt_OwnCall_name
  have G_22 : FnOk l.prog w K mg base CX0 5 f_22 _ ["callers", "ranked", "counts", "name"] (sp_first_to_take K mg) := ok_first_to_take F_22 (G_0.mono (by decide)) CA_0 (G_21.mono (by decide)) CA_21 T_HeardCall T_OneCall T_OwnCall m_HeardCall m_OneCall m_OwnCall
  have G_23 : FnOk l.prog w K mg base CX0 1 f_23 _ ["callers", "last"] (sp_callers_from K) := ok_callers_from F_23
  have G_24 : FnOk l.prog w K mg base CX0 6 f_24 _ ["counts", "calls", "places"] (sp_run K mg) := ok_run F_24 (G_4.mono (by decide)) CA_4 (G_14.mono (by decide)) CA_14 (G_15.mono (by decide)) CA_15 (G_20.mono (by decide)) CA_20 (G_22.mono (by decide)) CA_22 (G_23.mono (by decide)) CA_23 Z_dict Z_set Z_sorted T_HeardCall T_OneCall T_OwnCall m_HeardCall m_OneCall m_OwnCall
  have G_25 : FnOk l.prog w K mg base CX0 4 f_25 _ ["calls", "counts"] (sp_least_asking K mg) := ok_least_asking F_25 (G_12.mono (by decide)) B_12 (G_13.mono (by decide)) B_13 (G_18.mono (by decide)) B_18 (G_19.mono (by decide)) B_19 (G_20.mono (by decide)) CA_20 Z_min T_HeardCall T_OneCall T_OwnCall m_HeardCall m_OneCall m_OwnCall mt_HeardCall_asks_place mt_HeardCall_free mt_OneCall_asks_place mt_OneCall_free mt_OwnCall_asks_place mt_OwnCall_free
  have G_26 : FnOk l.prog w K mg base CX0 7 f_26 _ ["counts", "calls", "places"] (sp_placed K mg) := ok_placed F_26 (G_14.mono (by decide)) CA_14 (G_16.mono (by decide)) B_16 (G_24.mono (by decide)) CA_24 (G_25.mono (by decide)) CA_25 Z_list T_HeardCall T_OneCall T_OwnCall m_HeardCall m_OneCall m_OwnCall mt_HeardCall_name mt_OneCall_name mt_OwnCall_name
  have G_27 : FnOk l.prog w K mg base CX0 1 f_27 _ ["_law_script", "_law_k"] (sp__law_cell_at K) := ok__law_cell_at F_27 Z_len
  have G_28 : FnOk l.prog w K mg base CX0 1 f_28 _ ["_law_cell"] (sp__law_hands K) := ok__law_hands F_28 Z_range
  have G_29 : FnOk l.prog w K mg base CX0 1 f_29 _ ["_law_hands_here", "_law_cell"] (sp__law_start K) := ok__law_start F_29 Z_range
  have G_30 : FnOk l.prog w K mg base CX0 1 f_30 _ ["self"] (sp_OwnCall_kind K) := ok_OwnCall_kind F_30
  have G_31 : FnOk l.prog w K mg base CX0 1 f_31 _ ["self"] (sp_HeardCall_kind K) := ok_HeardCall_kind F_31
  have G_32 : FnOk l.prog w K mg base CX0 1 f_32 _ ["self"] (sp_OneCall_kind K) := ok_OneCall_kind F_32
  have G_33 : FnOk l.prog w K mg base CX0 2 f_33 _ ["self"] (sp_Call_told K mg) := ok_Call_told F_33 (G_30.mono (by decide)) B_30 (G_31.mono (by decide)) B_31 (G_32.mono (by decide)) B_32 T_HeardCall T_OneCall T_OwnCall m_HeardCall m_OneCall m_OwnCall mt_HeardCall_kind mt_OneCall_kind mt_OwnCall_kind
  have G_34 : FnOk l.prog w K mg base CX0 1 f_34 _ ["_law_hands_here", "_law_made", "_law_cell"] (sp__law_causes K) := ok__law_causes F_34 Z_int Z_tuple
  have G_35 : FnOk l.prog w K mg base CX0 2 f_35 _ ["_law_hands_here", "_law_number", "_law_start_here", "_law_cells"] (sp__law_calls K) := ok__law_calls F_35 (G_34.mono (by decide)) CA_34 Z_dict
  have G_36 : FnOk l.prog w K mg base CX0 1 f_36 _ ["_law_name"] (sp__law_by_count K) := ok__law_by_count F_36
  have G_37 : FnOk l.prog w K mg base CX0 3 f_37 _ ["_law_ones", "_law_cell"] (sp__law_places K) := ok__law_places F_37 (G_36.mono (by decide)) CA_36 Z_len Z_range Z_sorted
  have G_38 : FnOk l.prog w K mg base CX0 1 f_38 _ ["_law_told", "_law_counts"] (sp__law_free K) := ok__law_free F_38 Z_all
  have G_39 : FnOk l.prog w K mg base CX0 1 f_39 _ ["_law_places_here", "_law_counts"] (sp__law_reached K) := ok__law_reached F_39 Z_len Z_range
  have G_40 : FnOk l.prog w K mg base CX0 2 f_40 _ ["_law_calls_here", "_law_counts", "_law_places_here"] (sp__law_able K) := ok__law_able F_40 (G_38.mono (by decide)) CA_38 (G_39.mono (by decide)) CA_39
  have G_41 : FnOk l.prog w K mg base CX0 2 f_41 _ ["_law_calls_here", "_law_counts"] (sp__law_asking K) := ok__law_asking F_41 (G_38.mono (by decide)) CA_38
  have G_42 : FnOk l.prog w K mg base CX0 3 f_42 _ ["_law_row", "_law_start_here", "_law_calls_here", "_law_places_here"] (sp__law_walked K) := ok__law_walked F_42 (G_39.mono (by decide)) CA_39 (G_40.mono (by decide)) CA_40 (G_41.mono (by decide)) CA_41 Z_dict Z_min
  exact ok_law F_43 (G_10.mono (by decide)) CA_10 (G_26.mono (by decide)) CA_26 (G_27.mono (by decide)) CA_27 (G_28.mono (by decide)) CA_28 (G_29.mono (by decide)) CA_29 (G_33.mono (by decide)) B_33 (G_35.mono (by decide)) CA_35 (G_37.mono (by decide)) CA_37 (G_42.mono (by decide)) CA_42 Z_dict Z_isinstance Z_len Z_list Z_tuple T_HeardCall T_OneCall T_OwnCall m_HeardCall m_OneCall m_OwnCall mt_HeardCall_told mt_OneCall_told mt_OwnCall_told
theorem walk {l : PySem.W.OpenLaw} {q : Program} {loose : List Str} {XP : (Str → Option Value) → Heap → Prop} {YP : World → Heap → Prop} {d : DefRec} {K : Params → PySem.W.Frag} (hn : l.most = some 63) (hdf : d.params.defaults = [])
    (hY : ∀ (w : World) (h : Heap), YP w h → (K w.params).In h)
    (F : ∀ (w : World) (mg : Str → Option Value) (fa : Addr) (h : Heap), (K w.params).In h → h.Ns mainGlobals mg → mg d.name = some (.ref fa) →
      ∃ fd : FuncData, (∀ (s : Shared) (u : Value), BindsTo s fd ⟨[u], []⟩ [("_law_script", u)]) ∧ ∀ base : Heap, (K w.params).In base → base.Ns mainGlobals mg → FnOk l.prog w (K w.params) mg base CX0 8 fa fd ["_law_script"] (sp_law (K w.params))) :
    PySem.W.WalkO q loose XP YP l.row.toRowW d [] (fun f vs => PySem.call f vs) :=
  L2.walk_of (n := 63) (k := 8) (x := "_law_script") (CX := fun _ => CX0) (sp := fun w => sp_law (K w.params)) hn (by decide) hdf ⟨rfl, by decide, by decide⟩ hY F (fun _ _ a ns hl _ hS => ⟨a, ns, rfl, hS, hl, fun _ => rfl⟩) fun _ _ _ _ _ z => z
end K25
def PySem.W.Fast.tw10699613763947113274 : Unit := ()
def PySem.W.Fast.tw2784149703475186053 : Unit := ()
def PySem.W.Fast.tw10015868036589259166 : Unit := ()
def PySem.W.Fast.tw15249714659142658365 : Unit := ()
def PySem.W.Fast.tw11405065378061630581 : Unit := ()
def PySem.W.Fast.tw15135716271772693181 : Unit := ()
def PySem.W.Fast.tw13438928966865882135 : Unit := ()
def PySem.W.Fast.tw17875226089944069647 : Unit := ()
def PySem.W.Fast.tw8077833805186378504 : Unit := ()
def PySem.W.Fast.tw6008375046230617112 : Unit := ()
def PySem.W.Fast.tw9123997560612011591 : Unit := ()
def PySem.W.Fast.tw9464970380469419734 : Unit := ()
def PySem.W.Fast.tw8090540776027912852 : Unit := ()
open PySem PySem.W PyProof.Rows
set_option maxRecDepth 100000 in
set_option maxHeartbeats 0 in
theorem PySem.Challenge.cw_groupcall_k25_places_given_holds : PySem.Challenge.rw_groupcall_k25_places_given.Holds := by
  w_on; o_law; k_head; (case hw => w_witness2)
  k_fill
  refine K25.walk (l := PySem.Challenge.rw_groupcall_k25_places_given) rfl rfl (fun w h Y => PySem.W.kIn_of Y) ?F
  case F =>
    intro w mg fa h KX G hmg
    refine' K25.all_mk KX G hmg ?a_0 ?a_1 ?a_2 ?a_3 ?a_4 ?a_5 ?a_8 ?a_9 ?a_10 ?a_14 ?a_15 ?a_20 ?a_21 ?a_22 ?a_23 ?a_24 ?a_25 ?a_26 ?a_27 ?a_28 ?a_29 ?a_34 ?a_35 ?a_36 ?a_37 ?a_38 ?a_39 ?a_40 ?a_41 ?a_42 ?a_43 ?a_Call ?a_HeardCall ?a_OneCall ?a_OwnCall ?gm0_KINDS ?z_abs ?z_all ?z_bool ?z_dict ?z_int ?z_isinstance ?z_len ?z_list ?z_max ?z_min ?z_range ?z_set ?z_sorted ?z_tuple ?at_HeardCall___init__ ?at_HeardCall_asks_place ?at_HeardCall_free ?at_HeardCall_in_turn ?at_HeardCall_kind ?at_HeardCall_name ?at_HeardCall_rank ?at_HeardCall_told ?at_OneCall___init__ ?at_OneCall_asks_place ?at_OneCall_free ?at_OneCall_in_turn ?at_OneCall_kind ?at_OneCall_name ?at_OneCall_rank ?at_OneCall_told ?at_OwnCall___init__ ?at_OwnCall_asks_place ?at_OwnCall_free ?at_OwnCall_in_turn ?at_OwnCall_kind ?at_OwnCall_name ?at_OwnCall_rank ?at_OwnCall_told ?fc_Call___init__ ?l_0 ?c_0 ?k_0 ?l_1 ?c_1 ?k_1 ?l_2 ?c_2 ?k_2 ?l_3 ?c_3 ?k_3 ?l_4 ?c_4 ?k_4 ?l_5 ?c_5 ?k_5 ?l_6 ?c_6 ?k_6 ?l_7 ?c_7 ?k_7 ?l_8 ?c_8 ?k_8 ?l_9 ?c_9 ?k_9 ?l_10 ?c_10 ?k_10 ?l_11 ?c_11 ?k_11 ?l_12 ?c_12 ?k_12 ?l_13 ?c_13 ?k_13 ?l_14 ?c_14 ?k_14 ?l_15 ?c_15 ?k_15 ?l_16 ?c_16 ?k_16 ?l_17 ?c_17 ?k_17 ?l_18 ?c_18 ?k_18 ?l_19 ?c_19 ?k_19 ?l_20 ?c_20 ?k_20 ?l_21 ?c_21 ?k_21 ?l_22 ?c_22 ?k_22 ?l_23 ?c_23 ?k_23 ?l_24 ?c_24 ?k_24 ?l_25 ?c_25 ?k_25 ?l_26 ?c_26 ?k_26 ?l_27 ?c_27 ?k_27 ?l_28 ?c_28 ?k_28 ?l_29 ?c_29 ?k_29 ?l_30 ?c_30 ?k_30 ?l_31 ?c_31 ?k_31 ?l_32 ?c_32 ?k_32 ?l_33 ?c_33 ?k_33 ?l_34 ?c_34 ?k_34 ?l_35 ?c_35 ?k_35 ?l_36 ?c_36 ?k_36 ?l_37 ?c_37 ?k_37 ?l_38 ?c_38 ?k_38 ?l_39 ?c_39 ?k_39 ?l_40 ?c_40 ?k_40 ?l_41 ?c_41 ?k_41 ?l_42 ?c_42 ?k_42 ?l_43 ?c_43 ?k_43 ?i_6 ?i_18 ?i_12 ?i_11 ?i_16 ?i_17 ?i_33 ?i_13 ?i_31 ?i_19 ?i_32 ?i_7 ?i_30 ?pg_Call ?hd_Call ?po_Call ?sa_Call ?n_Call_number ?n_Call_caller ?n_Call_count ?n_Call_word ?n_Call_causes ?pg_HeardCall ?hd_HeardCall ?po_HeardCall ?sa_HeardCall ?n_HeardCall_number ?n_HeardCall_caller ?n_HeardCall_count ?n_HeardCall_word ?n_HeardCall_causes ?pg_OneCall ?hd_OneCall ?po_OneCall ?sa_OneCall ?n_OneCall_number ?n_OneCall_caller ?n_OneCall_count ?n_OneCall_word ?n_OneCall_causes ?pg_OwnCall ?hd_OwnCall ?po_OwnCall ?sa_OwnCall ?n_OwnCall_number ?n_OwnCall_caller ?n_OwnCall_count ?n_OwnCall_word ?n_OwnCall_causes ?mk_HeardCall ?kc_HeardCall ?mk_OneCall ?kc_OneCall ?mk_OwnCall ?kc_OwnCall ?ga_Call ?rd_Call ?gl_KINDS
    (case a_0 => first | k_is | rfl | decide)
    (case a_1 => first | k_is | rfl | decide)
    (case a_2 => first | k_is | rfl | decide)
    (case a_3 => first | k_is | rfl | decide)
    (case a_4 => first | k_is | rfl | decide)
    (case a_5 => first | k_is | rfl | decide)
    (case a_8 => first | k_is | rfl | decide)
    (case a_9 => first | k_is | rfl | decide)
    (case a_10 => first | k_is | rfl | decide)
    (case a_14 => first | k_is | rfl | decide)
    (case a_15 => first | k_is | rfl | decide)
    (case a_20 => first | k_is | rfl | decide)
    (case a_21 => first | k_is | rfl | decide)
    (case a_22 => first | k_is | rfl | decide)
    (case a_23 => first | k_is | rfl | decide)
    (case a_24 => first | k_is | rfl | decide)
    (case a_25 => first | k_is | rfl | decide)
    (case a_26 => first | k_is | rfl | decide)
    (case a_27 => first | k_is | rfl | decide)
    (case a_28 => first | k_is | rfl | decide)
    (case a_29 => first | k_is | rfl | decide)
    (case a_34 => first | k_is | rfl | decide)
    (case a_35 => first | k_is | rfl | decide)
    (case a_36 => first | k_is | rfl | decide)
    (case a_37 => first | k_is | rfl | decide)
    (case a_38 => first | k_is | rfl | decide)
    (case a_39 => first | k_is | rfl | decide)
    (case a_40 => first | k_is | rfl | decide)
    (case a_41 => first | k_is | rfl | decide)
    (case a_42 => first | k_is | rfl | decide)
    (case a_43 => first | k_is | rfl | decide)
    (case a_Call => first | k_is | rfl | decide)
    (case a_HeardCall => first | k_is | rfl | decide)
    (case a_OneCall => first | k_is | rfl | decide)
    (case a_OwnCall => first | k_is | rfl | decide)
    (case gm0_KINDS => first | k_is | rfl | decide)
    (case z_abs => first | k_is | rfl | decide)
    (case z_all => first | k_is | rfl | decide)
    (case z_bool => first | k_is | rfl | decide)
    (case z_dict => first | k_is | rfl | decide)
    (case z_int => first | k_is | rfl | decide)
    (case z_isinstance => first | k_is | rfl | decide)
    (case z_len => first | k_is | rfl | decide)
    (case z_list => first | k_is | rfl | decide)
    (case z_max => first | k_is | rfl | decide)
    (case z_min => first | k_is | rfl | decide)
    (case z_range => first | k_is | rfl | decide)
    (case z_set => first | k_is | rfl | decide)
    (case z_sorted => first | k_is | rfl | decide)
    (case z_tuple => first | k_is | rfl | decide)
    (case at_HeardCall___init__ => first | k_is | rfl | decide)
    (case at_HeardCall_asks_place => first | k_is | rfl | decide)
    (case at_HeardCall_free => first | k_is | rfl | decide)
    (case at_HeardCall_in_turn => first | k_is | rfl | decide)
    (case at_HeardCall_kind => first | k_is | rfl | decide)
    (case at_HeardCall_name => first | k_is | rfl | decide)
    (case at_HeardCall_rank => first | k_is | rfl | decide)
    (case at_HeardCall_told => first | k_is | rfl | decide)
    (case at_OneCall___init__ => first | k_is | rfl | decide)
    (case at_OneCall_asks_place => first | k_is | rfl | decide)
    (case at_OneCall_free => first | k_is | rfl | decide)
    (case at_OneCall_in_turn => first | k_is | rfl | decide)
    (case at_OneCall_kind => first | k_is | rfl | decide)
    (case at_OneCall_name => first | k_is | rfl | decide)
    (case at_OneCall_rank => first | k_is | rfl | decide)
    (case at_OneCall_told => first | k_is | rfl | decide)
    (case at_OwnCall___init__ => first | k_is | rfl | decide)
    (case at_OwnCall_asks_place => first | k_is | rfl | decide)
    (case at_OwnCall_free => first | k_is | rfl | decide)
    (case at_OwnCall_in_turn => first | k_is | rfl | decide)
    (case at_OwnCall_kind => first | k_is | rfl | decide)
    (case at_OwnCall_name => first | k_is | rfl | decide)
    (case at_OwnCall_rank => first | k_is | rfl | decide)
    (case at_OwnCall_told => first | k_is | rfl | decide)
    (case fc_Call___init__ => first | k_is | rfl | decide)
    (case l_0 => first | k_is | rfl | decide)
    (case c_0 => first | k_is | rfl | decide)
    (case k_0 => first | k_is | rfl | decide)
    (case l_1 => first | k_is | rfl | decide)
    (case c_1 => first | k_is | rfl | decide)
    (case k_1 => first | k_is | rfl | decide)
    (case l_2 => first | k_is | rfl | decide)
    (case c_2 => first | k_is | rfl | decide)
    (case k_2 => first | k_is | rfl | decide)
    (case l_3 => first | k_is | rfl | decide)
    (case c_3 => first | k_is | rfl | decide)
    (case k_3 => first | k_is | rfl | decide)
    (case l_4 => first | k_is | rfl | decide)
    (case c_4 => first | k_is | rfl | decide)
    (case k_4 => first | k_is | rfl | decide)
    (case l_5 => first | k_is | rfl | decide)
    (case c_5 => first | k_is | rfl | decide)
    (case k_5 => first | k_is | rfl | decide)
    (case l_6 => first | k_is | rfl | decide)
    (case c_6 => first | k_is | rfl | decide)
    (case k_6 => first | k_is | rfl | decide)
    (case l_7 => first | k_is | rfl | decide)
    (case c_7 => first | k_is | rfl | decide)
    (case k_7 => first | k_is | rfl | decide)
    (case l_8 => first | k_is | rfl | decide)
    (case c_8 => first | k_is | rfl | decide)
    (case k_8 => first | k_is | rfl | decide)
    (case l_9 => first | k_is | rfl | decide)
    (case c_9 => first | k_is | rfl | decide)
    (case k_9 => first | k_is | rfl | decide)
    (case l_10 => first | k_is | rfl | decide)
    (case c_10 => first | k_is | rfl | decide)
    (case k_10 => first | k_is | rfl | decide)
    (case l_11 => first | k_is | rfl | decide)
    (case c_11 => first | k_is | rfl | decide)
    (case k_11 => first | k_is | rfl | decide)
    (case l_12 => first | k_is | rfl | decide)
    (case c_12 => first | k_is | rfl | decide)
    (case k_12 => first | k_is | rfl | decide)
    (case l_13 => first | k_is | rfl | decide)
    (case c_13 => first | k_is | rfl | decide)
    (case k_13 => first | k_is | rfl | decide)
    (case l_14 => first | k_is | rfl | decide)
    (case c_14 => first | k_is | rfl | decide)
    (case k_14 => first | k_is | rfl | decide)
    (case l_15 => first | k_is | rfl | decide)
    (case c_15 => first | k_is | rfl | decide)
    (case k_15 => first | k_is | rfl | decide)
    (case l_16 => first | k_is | rfl | decide)
    (case c_16 => first | k_is | rfl | decide)
    (case k_16 => first | k_is | rfl | decide)
    (case l_17 => first | k_is | rfl | decide)
    (case c_17 => first | k_is | rfl | decide)
    (case k_17 => first | k_is | rfl | decide)
    (case l_18 => first | k_is | rfl | decide)
    (case c_18 => first | k_is | rfl | decide)
    (case k_18 => first | k_is | rfl | decide)
    (case l_19 => first | k_is | rfl | decide)
    (case c_19 => first | k_is | rfl | decide)
    (case k_19 => first | k_is | rfl | decide)
    (case l_20 => first | k_is | rfl | decide)
    (case c_20 => first | k_is | rfl | decide)
    (case k_20 => first | k_is | rfl | decide)
    (case l_21 => first | k_is | rfl | decide)
    (case c_21 => first | k_is | rfl | decide)
    (case k_21 => first | k_is | rfl | decide)
    (case l_22 => first | k_is | rfl | decide)
    (case c_22 => first | k_is | rfl | decide)
    (case k_22 => first | k_is | rfl | decide)
    (case l_23 => first | k_is | rfl | decide)
    (case c_23 => first | k_is | rfl | decide)
    (case k_23 => first | k_is | rfl | decide)
    (case l_24 => first | k_is | rfl | decide)
    (case c_24 => first | k_is | rfl | decide)
    (case k_24 => first | k_is | rfl | decide)
    (case l_25 => first | k_is | rfl | decide)
    (case c_25 => first | k_is | rfl | decide)
    (case k_25 => first | k_is | rfl | decide)
    (case l_26 => first | k_is | rfl | decide)
    (case c_26 => first | k_is | rfl | decide)
    (case k_26 => first | k_is | rfl | decide)
    (case l_27 => first | k_is | rfl | decide)
    (case c_27 => first | k_is | rfl | decide)
    (case k_27 => first | k_is | rfl | decide)
    (case l_28 => first | k_is | rfl | decide)
    (case c_28 => first | k_is | rfl | decide)
    (case k_28 => first | k_is | rfl | decide)
    (case l_29 => first | k_is | rfl | decide)
    (case c_29 => first | k_is | rfl | decide)
    (case k_29 => first | k_is | rfl | decide)
    (case l_30 => first | k_is | rfl | decide)
    (case c_30 => first | k_is | rfl | decide)
    (case k_30 => first | k_is | rfl | decide)
    (case l_31 => first | k_is | rfl | decide)
    (case c_31 => first | k_is | rfl | decide)
    (case k_31 => first | k_is | rfl | decide)
    (case l_32 => first | k_is | rfl | decide)
    (case c_32 => first | k_is | rfl | decide)
    (case k_32 => first | k_is | rfl | decide)
    (case l_33 => first | k_is | rfl | decide)
    (case c_33 => first | k_is | rfl | decide)
    (case k_33 => first | k_is | rfl | decide)
    (case l_34 => first | k_is | rfl | decide)
    (case c_34 => first | k_is | rfl | decide)
    (case k_34 => first | k_is | rfl | decide)
    (case l_35 => first | k_is | rfl | decide)
    (case c_35 => first | k_is | rfl | decide)
    (case k_35 => first | k_is | rfl | decide)
    (case l_36 => first | k_is | rfl | decide)
    (case c_36 => first | k_is | rfl | decide)
    (case k_36 => first | k_is | rfl | decide)
    (case l_37 => first | k_is | rfl | decide)
    (case c_37 => first | k_is | rfl | decide)
    (case k_37 => first | k_is | rfl | decide)
    (case l_38 => first | k_is | rfl | decide)
    (case c_38 => first | k_is | rfl | decide)
    (case k_38 => first | k_is | rfl | decide)
    (case l_39 => first | k_is | rfl | decide)
    (case c_39 => first | k_is | rfl | decide)
    (case k_39 => first | k_is | rfl | decide)
    (case l_40 => first | k_is | rfl | decide)
    (case c_40 => first | k_is | rfl | decide)
    (case k_40 => first | k_is | rfl | decide)
    (case l_41 => first | k_is | rfl | decide)
    (case c_41 => first | k_is | rfl | decide)
    (case k_41 => first | k_is | rfl | decide)
    (case l_42 => first | k_is | rfl | decide)
    (case c_42 => first | k_is | rfl | decide)
    (case k_42 => first | k_is | rfl | decide)
    (case l_43 => first | k_is | rfl | decide)
    (case c_43 => first | k_is | rfl | decide)
    (case k_43 => first | k_is | rfl | decide)
    (case i_6 => first | k_is | rfl | decide)
    (case i_18 => first | k_is | rfl | decide)
    (case i_12 => first | k_is | rfl | decide)
    (case i_11 => first | k_is | rfl | decide)
    (case i_16 => first | k_is | rfl | decide)
    (case i_17 => first | k_is | rfl | decide)
    (case i_33 => first | k_is | rfl | decide)
    (case i_13 => first | k_is | rfl | decide)
    (case i_31 => first | k_is | rfl | decide)
    (case i_19 => first | k_is | rfl | decide)
    (case i_32 => first | k_is | rfl | decide)
    (case i_7 => first | k_is | rfl | decide)
    (case i_30 => first | k_is | rfl | decide)
    (case pg_Call => first | k_is | rfl | decide)
    (case hd_Call => first | k_is | rfl | decide)
    (case po_Call => first | k_is | rfl | decide)
    (case sa_Call => first | k_is | rfl | decide)
    (case n_Call_number => first | k_is | rfl | decide)
    (case n_Call_caller => first | k_is | rfl | decide)
    (case n_Call_count => first | k_is | rfl | decide)
    (case n_Call_word => first | k_is | rfl | decide)
    (case n_Call_causes => first | k_is | rfl | decide)
    (case pg_HeardCall => first | k_is | rfl | decide)
    (case hd_HeardCall => first | k_is | rfl | decide)
    (case po_HeardCall => first | k_is | rfl | decide)
    (case sa_HeardCall => first | k_is | rfl | decide)
    (case n_HeardCall_number => first | k_is | rfl | decide)
    (case n_HeardCall_caller => first | k_is | rfl | decide)
    (case n_HeardCall_count => first | k_is | rfl | decide)
    (case n_HeardCall_word => first | k_is | rfl | decide)
    (case n_HeardCall_causes => first | k_is | rfl | decide)
    (case pg_OneCall => first | k_is | rfl | decide)
    (case hd_OneCall => first | k_is | rfl | decide)
    (case po_OneCall => first | k_is | rfl | decide)
    (case sa_OneCall => first | k_is | rfl | decide)
    (case n_OneCall_number => first | k_is | rfl | decide)
    (case n_OneCall_caller => first | k_is | rfl | decide)
    (case n_OneCall_count => first | k_is | rfl | decide)
    (case n_OneCall_word => first | k_is | rfl | decide)
    (case n_OneCall_causes => first | k_is | rfl | decide)
    (case pg_OwnCall => first | k_is | rfl | decide)
    (case hd_OwnCall => first | k_is | rfl | decide)
    (case po_OwnCall => first | k_is | rfl | decide)
    (case sa_OwnCall => first | k_is | rfl | decide)
    (case n_OwnCall_number => first | k_is | rfl | decide)
    (case n_OwnCall_caller => first | k_is | rfl | decide)
    (case n_OwnCall_count => first | k_is | rfl | decide)
    (case n_OwnCall_word => first | k_is | rfl | decide)
    (case n_OwnCall_causes => first | k_is | rfl | decide)
    (case mk_HeardCall => first | k_is | rfl | decide)
    (case kc_HeardCall => first | k_is | rfl | decide)
    (case mk_OneCall => first | k_is | rfl | decide)
    (case kc_OneCall => first | k_is | rfl | decide)
    (case mk_OwnCall => first | k_is | rfl | decide)
    (case kc_OwnCall => first | k_is | rfl | decide)
    (case ga_Call => first | k_is | rfl | decide)
    (case rd_Call => first | k_is | rfl | decide)
    (case gl_KINDS => first | k_is | rfl | decide)

