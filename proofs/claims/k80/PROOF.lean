import PyProof.Rows.All
import Wide.All
import OpenK.AllK
import Wide.FinOn
import Lean
import PyProof.EqAt
import PyProof.EqKinds
import PyProof.TupleCall
import PyProof.AttrMissHeap
import KE.KSortTup
import KE.KDictList
import KE.KNest
import KE.KNestM
import OpenK.KRaise
import KE.KIsAll
import KE.KMatchCls
import PyProof.ExcAttrAll.ValueError
import PyProof.Rows.Range3
import PyProof.ZipIter
import PyProof.Rows.FactsT2
import PyProof.Rows.ZipGen
import KE.KItemsList
import PyProof.TupleKey
import PyProof.DictFindH
import PyProof.EnumMake
import PyProof.EnumStmt
import Wide.Seal
import PySem.Challenge.RW_groupcall_k80_right_histories
set_option Elab.async false
set_option linter.all false
set_option maxRecDepth 100000

namespace L2
open PySem PySem.Spec PyProof.Rows


abbrev Key := Sum Int Str
def keyIs : Key → Value → Bool
  | .inl k, v => Value.isInt k v
  | .inr x, v => Value.isStrOf x v
def keyH (w : World) : Key → Int
  | .inl k => hashInt k
  | .inr x => hashStr w x
theorem keyIs_shape : ∀ {k : Key} {v : Value}, keyIs k v = true → (∃ i t, k = Sum.inl i ∧ v = Value.int i t) ∨ (∃ x t, k = Sum.inr x ∧ v = Value.str x t)
  | .inl i, v, h => by
    obtain ⟨t, e⟩ := Value.isInt_shape (k := i) (v := v) h
    exact .inl ⟨i, t, rfl, e⟩
  | .inr x, v, h => by
    obtain ⟨t, e⟩ := Value.isStrOf_shape (x := x) (v := v) h
    exact .inr ⟨x, t, rfl, e⟩
theorem keyIs_int (i : Int) (t : Tok) : keyIs (.inl i) (.int i t) = true := by simp [keyIs, Value.isInt]
theorem keyIs_str (x : Str) (t : Tok) : keyIs (.inr x) (.str x t) = true := by simp [keyIs, Value.isStrOf]
theorem key_ll (a b : Int) : decide ((Sum.inl a : Key) = Sum.inl b) = (a == b) := by
  by_cases e : a = b
  · subst e; simp
  · have h : ¬ (Sum.inl a : Key) = Sum.inl b := fun q => e (Sum.inl.inj q)
    rw [decide_eq_false h]
    exact (beq_eq_false_iff_ne.mpr e).symm
theorem key_rr (a b : Str) : decide ((Sum.inr a : Key) = Sum.inr b) = decide (a = b) := by
  by_cases e : a = b
  · subst e; simp
  · have h : ¬ (Sum.inr a : Key) = Sum.inr b := fun q => e (Sum.inr.inj q)
    rw [decide_eq_false h, decide_eq_false e]
theorem key_lr (a : Int) (b : Str) : decide ((Sum.inl a : Key) = Sum.inr b) = false := decide_eq_false (fun q => nomatch q)
theorem key_rl (a : Str) (b : Int) : decide ((Sum.inr a : Key) = Sum.inl b) = false := decide_eq_false (fun q => nomatch q)

def mixKind (prog : Program) (w : World) : PySem.KeyKind prog w Key where
  is := keyIs
  hash := keyH w
  inj := fun v a b ha hb => by
    rcases keyIs_shape ha with ⟨i, t, rfl, rfl⟩ | ⟨x, t, rfl, rfl⟩
    · rcases keyIs_shape hb with ⟨j, u, rfl, e⟩ | ⟨y, u, rfl, e⟩
      · injection e with e1 _; rw [e1]
      · exact nomatch e
    · rcases keyIs_shape hb with ⟨j, u, rfl, e⟩ | ⟨y, u, rfl, e⟩
      · exact nomatch e
      · injection e with e1 _; rw [e1]
  byValue := fun k v h => by
    rcases keyIs_shape h with ⟨i, t, rfl, rfl⟩ | ⟨x, t, rfl, rfl⟩ <;> rfl
  pyHash := fun hv h => by
    rcases keyIs_shape hv with ⟨i, t, rfl, rfl⟩ | ⟨x, t, rfl, rfl⟩
    · exact wpAny_pyHash_int h
    · exact wpAny_pyHash_str h
  eqBool := fun hu hv h => by
    rcases keyIs_shape hu with ⟨i, t, rfl, rfl⟩ | ⟨x, t, rfl, rfl⟩
    · rcases keyIs_shape hv with ⟨j, u, rfl, rfl⟩ | ⟨y, u, rfl, rfl⟩
      · rw [key_ll] at h; exact wpAny_eqBool_int h
      · rw [key_lr] at h; exact SeqAt.EqAt.int_str i t y u _ _ _ _ h
    · rcases keyIs_shape hv with ⟨j, u, rfl, rfl⟩ | ⟨y, u, rfl, rfl⟩
      · rw [key_rl] at h; exact SeqAt.EqAt.str_int x t j u _ _ _ _ h
      · rw [key_rr] at h; exact wpAny_eqBool_str h
  «strs» := fun k x t v h => by
    rcases keyIs_shape h with ⟨i, u, rfl, e⟩ | ⟨y, u, rfl, e⟩
    · exact nomatch e
    · injection e with e1 _
      subst e1
      cases v <;> rfl

theorem mixKind_int (prog : Program) (w : World) (i : Int) (t : Tok) : (mixKind prog w).is (.inl i) (.int i t) = true := keyIs_int i t
theorem mixKind_str (prog : Program) (w : World) (x : Str) (t : Tok) : (mixKind prog w).is (.inr x) (.str x t) = true := keyIs_str x t
end L2

namespace L2
open PySem PySem.Spec PyProof.Rows


inductive V where
  | non | bl (b : Bool) | int (i : Int) | str (x : Str) | byt (b : Array UInt8) | flt (b : UInt64) | ref (a : Addr) | ty (n : String)
  deriving DecidableEq

def RelV : V → Value → Prop
  | .non, u => u = Value.none
  | .bl b, u => u = Value.bool b
  | .int i, u => ∃ t, u = Value.int i t
  | .str x, u => ∃ t, u = Value.str x t
  | .byt b, u => ∃ t, u = Value.bytes b t
  | .flt b, u => ∃ t, u = Value.float b t
  | .ref a, u => u = Value.ref a
  | .ty n, u => u = Value.type n

abbrev Vals : List V → List Value → Prop := Paired RelV
theorem Vals.length {xs : List V} {us : List Value} (r : Vals xs us) : xs.length = us.length := Paired.length r
theorem Vals.get : ∀ {xs : List V} {us : List Value} {i : Nat} {x : V}, Vals xs us → xs[i]? = some x → ∃ u, us[i]? = some u ∧ RelV x u
  | _, _, _, _, .nil, e => by simp at e
  | _, _, 0, _, .cons r _, e => by simp at e; subst e; exact ⟨_, rfl, r⟩
  | _, _, i + 1, x, .cons _ t, e => by
    obtain ⟨u, h1, h2⟩ := Vals.get (i := i) (x := x) t (by simpa using e)
    exact ⟨u, by simpa using h1, h2⟩
theorem Vals.set {x : V} {u : Value} (r : RelV x u) : ∀ {xs : List V} {us : List Value} (i : Nat), Vals xs us → Vals (xs.set i x) (us.set i u)
  | _, _, _, .nil => .nil
  | _, _, 0, .cons _ t => .cons r t
  | _, _, i + 1, .cons q t => .cons q (Vals.set r i t)
theorem Vals.append : ∀ {xs ys : List V} {us ws : List Value}, Vals xs us → Vals ys ws → Vals (xs ++ ys) (us ++ ws)
  | _, _, _, _, .nil, s => s
  | _, _, _, _, .cons r t, s => .cons r (Vals.append t s)
theorem Vals.take : ∀ {xs : List V} {us : List Value} (n : Nat), Vals xs us → Vals (xs.take n) (us.take n)
  | _, _, 0, _ => .nil
  | _, _, _ + 1, .nil => .nil
  | _, _, n + 1, .cons r t => .cons r (Vals.take n t)
theorem Vals.drop : ∀ {xs : List V} {us : List Value} (n : Nat), Vals xs us → Vals (xs.drop n) (us.drop n)
  | _, _, 0, r => r
  | _, _, _ + 1, .nil => .nil
  | _, _, n + 1, .cons _ t => Vals.drop n t
def RelO : Option V → Option Value → Prop
  | some v, some u => RelV v u
  | none, none => True
  | _, _ => False
def KV {κ : Type} : List (κ × V) → List (κ × Value) → Prop := Paired fun (p : κ × V) (q : κ × Value) => p.1 = q.1 ∧ RelV p.2 q.2


def kV : Key → V
  | .inl i => .int i
  | .inr x => .str x


inductive HO where
  
  | lst (xs : List V)
  
  | tup (xs : List V)
  
  | dK (kvs : List (Key × V)) | dT (kvs : List (List Key × V))
  
  | set (S : Int → Bool) (n : Nat)
  
  | ins (C dx : Addr) (fs : List (Str × V))
  
  | own (x : Addr)
  
  | xd (fs : List (Str × V))
  
  | met (f x : Addr)
  
  | rng (lo hi : Int)
  
  | frz (o : Obj) (u : HO)
  
  | tbl (ps : Array Value)
  
  | ext (φ : Heap → Prop)

abbrev Hp := Addr → Option HO
def upd (H : Hp) (a : Addr) (o : HO) : Hp := fun b => if b = a then some o else H b
theorem upd_same {H : Hp} {a : Addr} {o : HO} : upd H a o a = some o := by unfold upd; rw [if_pos rfl]
theorem upd_ne {H : Hp} {a b : Addr} {o : HO} (h : b ≠ a) : upd H a o b = H b := by unfold upd; rw [if_neg h]
theorem ne_of {H : Hp} {a b : Addr} {o u : HO} (h : H a = some o) (h' : H b = some u) (d : o ≠ u) : a ≠ b := by
  intro e; subst e; rw [h] at h'; exact d (Option.some.inj h')
theorem ne_of_none {H : Hp} {a b : Addr} {o : HO} (h : H a = some o) (h' : H b = none) : a ≠ b := by
  intro e; subst e; rw [h] at h'; cases h'


def IsTpl (h : Heap) (a : Addr) (items : Array Value) : Prop := ∃ o, h.get? a = some o ∧ o.cls = .type "tuple" ∧ ∃ n, o.data = .seq items n ∧ o.dict = none ∧ o.slots = #[]
theorem IsTpl.tup {h : Heap} {a : Addr} {items : Array Value} (x : IsTpl h a items) : IsTup h a items := let ⟨o, e, c, n, d, _⟩ := x; ⟨o, e, c, n, d⟩
theorem IsTpl.lt {h : Heap} {a : Addr} {items : Array Value} (x : IsTpl h a items) : a < h.objs.size := x.tup.lt
theorem IsTpl.new (h : Heap) (items : Array Value) : IsTpl (h.push { cls := .type "tuple", data := .seq items }) h.objs.size items := ⟨_, Heap.get?_push_size _ rfl, rfl, _, rfl, rfl, rfl⟩
section
variable (P : Program) (w : World)
def ObjOk (H : Hp) (h : Heap) (a : Addr) : HO → Prop
  | .lst xs => xs.length ≤ sizeLine ∧ ∃ (its : List Value) (n : Nat), Vals xs its ∧ h.get? a = some { cls := .type "list", data := .seq its.toArray n }
  | .tup xs => xs.length ≤ sizeLine ∧ ∃ its : List Value, Vals xs its ∧ IsTpl h a its.toArray
  | .dK kvs => kvs.length ≤ sizeLine ∧ (a == sysModules) = false ∧ ∃ vs, KV kvs vs ∧ h.DictOf (mixKind P w) a vs
  | .dT kvs => kvs.length ≤ sizeLine ∧ (a == sysModules) = false ∧ ∃ xs : List (List Key × Addr × Value),
      Paired (fun (p : List Key × V) (q : List Key × Addr × Value) => p.1 = q.1 ∧ H q.2.1 = some (.tup (p.1.map kV)) ∧ RelV p.2 q.2.2) kvs xs ∧
      ∃ o es ep, h.get? a = some o ∧ o.ExactDict ∧ o.data = .dict es ep ∧ es.toList = xs.map (entryOfKey (tupleKind (mixKind P w))) ∧ (xs.map (·.1)).Nodup
  | .set S n => h.SetOf (intKind P w) a S n
  | .ins C dx fs => H dx = some (.own a) ∧ fs.length ≤ 1000 ∧ dx ≠ a ∧ h.get? a = some (PySem.W.instObj C dx) ∧
      ∃ mA, h.Ns1 dx mA ∧ (∀ f, RelO (fs.lookup f) (mA f)) ∧ PySem.Within mA (fs.map (·.1))
  | .own _ => ∃ o, h.get? a = some o
  | .xd fs => ∃ mA, h.Ns1 a mA ∧ ∀ f, RelO (fs.lookup f) (mA f)
  | .rng lo hi => ∃ t u v, h.get? a = some { cls := .type "range", data := .fields #[.int lo t, .int hi u, .int 1 v] }
  | .frz o u => h.get? a = some o ∧ ObjOk H h a u
  | .tbl ps => h.get? a = some { cls := .none, data := .fields ps }
  | .met f x => h.get? a = some (PySem.W.methodObj (.ref f) (.ref x))
  | .ext φ => φ h ∧ (∃ o, h.get? a = some o) ∧ ∀ h1 h2 : Heap, φ h1 → (∀ o, h1.get? a = some o → h2.get? a = some o) → φ h2

def HOk (H : Hp) (h : Heap) : Prop := ∀ a o, H a = some o → ObjOk P w H h a o
end

section
variable {P : Program} {w : World} {H H' : Hp} {h h' : Heap} {a : Addr} {o : HO}
theorem ObjOk.lt (x : ObjOk P w H h a o) : a < h.objs.size := by
  cases o with
  | lst xs => obtain ⟨_, _, _, _, e⟩ := x; exact Heap.lt_size e
  | tup xs => obtain ⟨_, _, _, p⟩ := x; exact p.lt
  | dK kvs => obtain ⟨_, _, _, _, o, _, _, e, _⟩ := x; exact Heap.lt_size e
  | dT kvs => obtain ⟨_, _, _, _, o, _, _, e, _⟩ := x; exact Heap.lt_size e
  | set S n => obtain ⟨o, _, _, _, e, _⟩ := x; exact Heap.lt_size e
  | ins C dx fs => obtain ⟨_, _, _, e, _⟩ := x; exact Heap.lt_size e
  | own y => obtain ⟨_, e⟩ := x; exact Heap.lt_size e
  | xd fs => obtain ⟨_, ⟨_, _, _, e, _⟩, _⟩ := x; exact Heap.lt_size e
  | rng lo hi => obtain ⟨_, _, _, e⟩ := x; exact Heap.lt_size e
  | frz ob u => obtain ⟨e, _⟩ := x; exact Heap.lt_size e
  | tbl ps => exact Heap.lt_size (show h.get? a = some _ from x)
  | met f y => exact Heap.lt_size (show h.get? a = some _ from x)
  | ext φ => obtain ⟨_, ⟨_, e⟩, _⟩ := x; exact Heap.lt_size e
theorem Paired.mapP {α β : Type} {F G : α → β → Prop} : ∀ {l₁ : List α} {l₂ : List β}, Paired F l₁ l₂ → (∀ a b, F a b → G a b) → Paired G l₁ l₂
  | _, _, .nil, _ => .nil
  | _, _, .cons r t, f => .cons (f _ _ r) (Paired.mapP t f)
theorem ObjOk.stay (x : ObjOk P w H h a o) (k : ∀ b u, (b = a ∨ H b = some (.own a)) → h.get? b = some u → h'.get? b = some u)
    (ho : ∀ b, H b = some (.own a) → H' b = some (.own a)) (ht : ∀ b xs, H b = some (.tup xs) → H' b = some (.tup xs)) : ObjOk P w H' h' a o := by
  induction o with
  | lst xs => obtain ⟨z, its, n, r, e⟩ := x; exact ⟨z, its, n, r, k _ _ (.inl rfl) e⟩
  | tup xs => obtain ⟨z, its, r, ob, e, c⟩ := x; exact ⟨z, its, r, ob, k _ _ (.inl rfl) e, c⟩
  | dK kvs => obtain ⟨z, y, vs, r, ob, es, ep, e, c⟩ := x; exact ⟨z, y, vs, r, ob, es, ep, k _ _ (.inl rfl) e, c⟩
  | dT kvs =>
    obtain ⟨z, y, xs, r, ob, es, ep, e, c⟩ := x
    exact ⟨z, y, xs, Paired.mapP r fun p q z => ⟨z.1, ht _ _ z.2.1, z.2.2⟩, ob, es, ep, k _ _ (.inl rfl) e, c⟩
  | set S n => obtain ⟨ob, es, ep, t, e, c⟩ := x; exact ⟨ob, es, ep, t, k _ _ (.inl rfl) e, c⟩
  | ins C dx fs =>
    obtain ⟨d, z, ne, e, mA, ⟨od, es, ep, e2, c⟩, r⟩ := x
    exact ⟨ho _ d, z, ne, k _ _ (.inl rfl) e, mA, ⟨od, es, ep, k _ _ (.inr d) e2, c⟩, r⟩
  | own y => obtain ⟨ob, e⟩ := x; exact ⟨ob, k _ _ (.inl rfl) e⟩
  | xd fs => obtain ⟨mA, ⟨od, es, ep, e, c⟩, r⟩ := x; exact ⟨mA, ⟨od, es, ep, k _ _ (.inl rfl) e, c⟩, r⟩
  | rng lo hi => obtain ⟨t, u, v, e⟩ := x; exact ⟨t, u, v, k _ _ (.inl rfl) e⟩
  | frz ob u ih => obtain ⟨e, q⟩ := x; exact ⟨k _ _ (.inl rfl) e, ih q⟩
  | tbl ps =>
    have e : h.get? a = some { cls := .none, data := .fields ps } := x
    show h'.get? a = some { cls := .none, data := .fields ps }
    exact k a _ (.inl rfl) e
  | met f y =>
    have e : h.get? a = some (PySem.W.methodObj (.ref f) (.ref y)) := x
    show h'.get? a = some (PySem.W.methodObj (.ref f) (.ref y))
    exact k a _ (.inl rfl) e
  | ext φ => obtain ⟨p, ⟨o, e⟩, st⟩ := x; exact ⟨st _ _ p fun o q => k _ _ (.inl rfl) q, ⟨o, k _ _ (.inl rfl) e⟩, st⟩
theorem HOk.lt (x : HOk P w H h) (e : H a = some o) : a < h.objs.size := (x a o e).lt
theorem HOk.fresh (x : HOk P w H h) (e : h.objs.size ≤ a) : H a = none := by
  cases q : H a with
  | none => rfl
  | some u => exact absurd (Nat.lt_of_lt_of_le (x.lt q) e) (Nat.lt_irrefl _)

theorem HOk.kept (x : HOk P w H h) (k : ∀ b u, h.get? b = some u → h'.get? b = some u) : HOk P w H h' := fun a o e =>
  (x a o e).stay (fun b u _ q => k b u q) (fun _ q => q) fun _ _ q => q

theorem HOk.laid (x : HOk P w H h) (k : ∀ b u, h.get? b = some u → h'.get? b = some u) (hp : h.objs.size ≤ a) (new : ObjOk P w (upd H a o) h' a o) : HOk P w (upd H a o) h' := fun b u e => by
  have hn := x.fresh hp
  by_cases hb : b = a
  · subst hb; rw [upd_same] at e; cases e; exact new
  · rw [upd_ne hb] at e
    exact (x b u e).stay (fun c v _ q => k c v q) (fun c q => by rw [upd_ne (ne_of_none q hn)]; exact q) fun c xs q => by rw [upd_ne (ne_of_none q hn)]; exact q
end


def Rd (H : Hp) (a : Addr) (u : HO) : Prop := H a = some u ∨ ∃ o, H a = some (.frz o u)
theorem Rd.ok {P : Program} {w : World} {H : Hp} {h : Heap} {a : Addr} {u : HO} (r : Rd H a u) (x : HOk P w H h) : ObjOk P w H h a u := by
  rcases r with r | ⟨o, r⟩
  · exact x a u r
  · obtain ⟨_, q⟩ := x a _ r
    exact q

def Mut : Option HO → Prop
  | some (.lst _) => True
  | some (.dK _) => True
  | some (.dT _) => True
  | some (.set _ _) => True
  | some (.ins _ _ _) => True
  | some (.ext _) => True
  | _ => False
section
variable {P : Program} {w : World} {H : Hp} {h h' : Heap} {x e : Addr} {o' : HO}

theorem HOk.write (ok : HOk P w H h) (mu : Mut (H x)) (he : e = x ∨ H e = some (.own x)) (k : ∀ b u, b ≠ e → h.get? b = some u → h'.get? b = some u) (heo : ∃ u, h'.get? e = some u)
    (new : ObjOk P w (upd H x o') h' x o') : HOk P w (upd H x o') h' := fun b u q => by
  have nown : ∀ c y, H c = some (.own y) → c ≠ x := fun c y r z => by subst z; rw [r] at mu; exact mu
  have ntup : ∀ c xs, H c = some (.tup xs) → c ≠ x := fun c xs r z => by subst z; rw [r] at mu; exact mu
  by_cases hb : b = x
  · subst hb; rw [upd_same] at q; cases q; exact new
  · rw [upd_ne hb] at q
    by_cases hbe : b = e
    · have q' : H b = some (.own x) := by
        rcases he with z | z
        · exact absurd (hbe.trans z) hb
        · rw [hbe]; exact z
      rw [q] at q'; cases q'
      obtain ⟨v, hv⟩ := heo
      exact ⟨v, by rw [hbe]; exact hv⟩
    · refine (ok b u q).stay (fun c v hc r => k c v ?_ r) (fun c r => by rw [upd_ne (nown c b r)]; exact r) fun c xs r => by rw [upd_ne (ntup c xs r)]; exact r
      rcases hc with rfl | hc
      · exact hbe
      · rintro rfl
        rcases he with z | z
        · exact nown c b hc z
        · rw [hc] at z; cases z; exact hb rfl
end


structure Un (fs ex : List Addr) (H H' : Hp) (h h' : Heap) : Prop where
  keep : ∀ b o, h.get? b = some o → H b = none → b ∉ fs → b ∉ ex → h'.get? b = some o
  slot : ∀ b o, h.get? b = some o → H b = none → b ∈ fs → b ∉ ex → ∃ sl, h'.get? b = some { o with slots := sl }
  free : ∀ b o, h.get? b = some o → H b = none → b ∉ ex → H' b = none
  there : ∀ b o, h.get? b = some o → b ∉ ex → ∃ o', h'.get? b = some o'
  tups : ∀ b xs, H b = some (.tup xs) → H' b = some (.tup xs)
  frzs : ∀ b o u, H b = some (.frz o u) → H' b = some (.frz o u)
  tbls : ∀ b ps, H b = some (.tbl ps) → ∃ more, H' b = some (.tbl (ps ++ more))
section
variable {fs fs' ex ex' : List Addr} {H H1 H2 : Hp} {h h1 h2 h' : Heap} {a x e : Addr} {o : HO}
theorem Un.any (u : Un fs ex H H1 h h1) {b : Addr} {ob : Obj} (q : h.get? b = some ob) (n : H b = none) (hx : b ∉ ex) : ∃ sl, h1.get? b = some { ob with slots := sl } := by
  by_cases hb : b ∈ fs
  · exact u.slot b ob q n hb hx
  · exact ⟨ob.slots, u.keep b ob q n hb hx⟩
theorem Un.kept (k : ∀ b u, h.get? b = some u → h'.get? b = some u) : Un fs ex H H h h' :=
  ⟨fun b ob q _ _ _ => k b ob q, fun b ob q _ _ _ => ⟨ob.slots, k b ob q⟩, fun _ _ _ n _ => n, fun b ob q _ => ⟨ob, k b ob q⟩, fun _ _ q => q, fun _ _ _ q => q, fun _ ps q => ⟨#[], by rw [q]; simp⟩⟩
theorem Un.refl : Un fs ex H H h h := Un.kept fun _ _ q => q
theorem Un.laid (k : ∀ b u, h.get? b = some u → h'.get? b = some u) (hp : h.objs.size ≤ a) (hn : H a = none) : Un fs ex H (upd H a o) h h' where
  keep := fun b u q _ _ _ => k b u q
  slot := fun b u q _ _ _ => ⟨u.slots, k b u q⟩
  free := fun b u q n _ => by rw [upd_ne (Nat.ne_of_lt (Nat.lt_of_lt_of_le (Heap.lt_size q) hp))]; exact n
  there := fun b u q _ => ⟨u, k b u q⟩
  tups := fun b xs q => by rw [upd_ne (ne_of_none q hn)]; exact q
  frzs := fun b u xs q => by rw [upd_ne (ne_of_none q hn)]; exact q
  tbls := fun b ps q => ⟨#[], by rw [upd_ne (ne_of_none q hn), q]; simp⟩
theorem Un.write (mu : Mut (H x)) (he : e = x ∨ H e = some (.own x)) (k : ∀ b u, b ≠ e → h.get? b = some u → h'.get? b = some u) (heo : ∃ u, h'.get? e = some u) : Un fs ex H (upd H x o) h h' := by
  have hx : ∀ b, H b = none → b ≠ x := fun b n z => by subst z; rw [n] at mu; exact mu
  have hb : ∀ b, H b = none → b ≠ e := fun b n z => by
    subst z
    rcases he with r | r
    · exact hx b n r
    · rw [n] at r; cases r
  have hm : ∀ b u, H b = some u → ¬ Mut (some u) → b ≠ x := fun b u q nm z => by subst z; rw [q] at mu; exact nm mu
  refine ⟨fun b u q n _ _ => k b u (hb b n) q, fun b u q n _ _ => ⟨u.slots, k b u (hb b n) q⟩, fun b u q n _ => by rw [upd_ne (hx b n)]; exact n, fun b u q _ => ?_,
    fun b xs q => by rw [upd_ne (hm b _ q fun z => z)]; exact q, fun b u xs q => by rw [upd_ne (hm b _ q fun z => z)]; exact q, fun b ps q => ⟨#[], by rw [upd_ne (hm b _ q fun z => z), q]; simp⟩⟩
  by_cases hbe : b = e
  · subst hbe; exact heo
  · exact ⟨u, k b u hbe q⟩
end


def trk (h : Heap) (H : Hp) : List Addr := (List.range h.objs.size).filter fun a => (H a).isSome
def hidT (h : Heap) (H : Hp) : Heap := PySem.W.hideAll h (trk h H)
theorem hidT_size (h : Heap) (H : Hp) : (hidT h H).objs.size = h.objs.size := PySem.W.hideAll_size _ _
theorem hidT_get {h : Heap} {H : Hp} {b : Addr} {o : Obj} (e : h.get? b = some o) (n : H b = none) : (hidT h H).get? b = some o :=
  PySem.W.hideAll_get _ e fun hm => by
    have q : (H b).isSome = true := (List.mem_filter.mp hm).2
    rw [n] at q; simp at q
theorem of_hidT {h : Heap} {H : Hp} {b : Addr} {o : Obj} (e : (hidT h H).get? b = some o) : h.get? b = some o ∧ H b = none := by
  have e' : h.get? b = some o := PySem.W.of_hideAll (trk h H) e
  refine ⟨e', ?_⟩
  cases q : H b with
  | none => rfl
  | some x =>
    have hm : b ∈ trk h H := List.mem_filter.mpr ⟨List.mem_range.mpr (Heap.lt_size e'), by simp [q]⟩
    have z : (hidT h H).get? b = none := PySem.W.hideAll_none (trk h H) hm
    rw [z] at e; cases e


end L2

namespace L2
open PySem PySem.Spec PyProof.Rows


structure Mod (K : PySem.W.Frag) (mg : Str → Option Value) (base : Heap) : Prop where
  kin : K.In base
  glob : base.Ns mainGlobals mg
  blt : ∃ mb, base.Ns builtinsNs mb ∧ ∀ x : Str, x ≠ "__name__" → mb x = bootBuiltins x
  nolimit : base.NoLimit


structure Cx where
  prog : Program
  w : World
  K : PySem.W.Frag
  mg : Str → Option Value
  base : Heap
  A : Around
  N : List Str
  s₀ : Shared
  H₀ : Hp
  env : Env
  outer : List Env
  stack : List Env
  ex : List Addr
  fn : Str → Bool
  calm : Bool
  pn : List (Addr × Obj)
  xe : Value → Shared → Prop

def frs (l : List Env) : List Addr := l.filterMap (·.frame)
abbrev Cx.fs (X : Cx) : List Addr := frs X.outer

def Vis (sc : Scope) (x : Str) : Prop := sc.names.lookup x = some .local ∨ sc.names.lookup x = some .cell ∨ sc.names.lookup x = some .free
def Loc (sc : Scope) (x : Str) : Prop := sc.names.lookup x = some .local ∨ sc.names.lookup x = some .cell
def Look (env : Env) (h : Heap) (m : Str → Option Value) (x : Str) (u : Value) : Prop :=
  (env.kindOf x = some .local ∧ m x = some u) ∨ ((env.kindOf x = some .cell ∨ env.kindOf x = some .free) ∧ ∃ c, env.cells.lookup x = some c ∧ h.IsCell c (some u))

structure Cx.Ok (X : Cx) : Prop where
  mod : Mod X.K X.mg X.base
  kind : X.env.scope.kind = .function
  glob : X.env.globals = mainGlobals
  blt : X.env.builtins = builtinsNs
  above : X.s₀.heap.objs.size ≤ X.env.locals
  inj : ∀ x y c, X.env.cells.lookup x = some c → X.env.cells.lookup y = some c → x = y
  has : ∀ x, (X.env.kindOf x = some .cell ∨ X.env.kindOf x = some .free) → ∃ c, X.env.cells.lookup x = some c
  cab : ∀ x c, X.fn x = true → X.env.cells.lookup x = some c → X.s₀.heap.objs.size ≤ c
  hd : X.calm = true → X.A.handled = none
  frames : X.A.frames = some X.stack
  stk : X.stack = X.outer ∨ (X.stack = X.env :: X.outer ∧ X.env.frame = some X.env.locals)
  exf : ∀ b ∈ X.ex, b ≠ X.env.locals ∧ ∀ x c, X.env.cells.lookup x = some c → c ≠ b
  bs : ∀ b o, X.base.get? b = some o → X.s₀.heap.get? b = some o ∧ X.H₀ b = none
  bsz : X.base.objs.size ≤ X.s₀.heap.objs.size
  noex : ∀ b o, X.base.get? b = some o → b ∉ X.ex
  exfs : ∀ b ∈ X.ex, b ∉ X.fs
  funs : X.s₀.heap.FunFrames X.base X.outer
  frf : ∀ b ∈ X.fs, X.H₀ b = none

structure Inv (X : Cx) (pins : List (Addr × Obj)) (σ : List (Option V)) (H : Hp) (s : Shared) : Prop where
  ok : X.Ok
  os : s.os = X.s₀.os
  bare : AllBare s.gens
  base : Un X.fs X.ex X.H₀ H X.s₀.heap s.heap
  loc : ∃ m, s.heap.Ns X.env.locals m ∧ ∀ (i : Nat) (x : Str) (v : V), X.N[i]? = some x → σ[i]? = some (some v) → Vis X.env.scope x → ∃ u, RelV v u ∧ Look X.env s.heap m x u
  cell : ∀ x c, X.env.cells.lookup x = some c → ∃ v, s.heap.IsCell c v
  free : H X.env.locals = none
  freeC : ∀ x c, X.env.cells.lookup x = some c → H c = none
  pin : ∀ p ∈ X.pn ++ pins, s.heap.get? p.1 = some p.2 ∧ H p.1 = none ∧ p.1 ≠ X.env.locals ∧ p.1 ∉ X.fs ∧ ∀ v, p.2.data ≠ .cell v
  hok : HOk X.prog X.w H s.heap
  len : σ.length = X.N.length

section
variable {X : Cx} {pins : List (Addr × Obj)} {σ : List (Option V)} {H H' : Hp} {s : Shared} {h' : Heap}

theorem Cx.Ok.nofr (ok : X.Ok) {b : Addr} {o : Obj} (e : X.base.get? b = some o) : b ∉ X.fs := fun hb => by
  have := (ok.funs.mem hb).1
  rw [e] at this; cases this
theorem Inv.bs (I : Inv X pins σ H s) : ∀ b o, X.base.get? b = some o → s.heap.get? b = some o ∧ H b = none := fun b o e =>
  ⟨I.base.keep b o (I.ok.bs b o e).1 (I.ok.bs b o e).2 (I.ok.nofr e) (I.ok.noex b o e), I.base.free b o (I.ok.bs b o e).1 (I.ok.bs b o e).2 (I.ok.noex b o e)⟩
theorem Inv.bk (I : Inv X pins σ H s) : ∀ b o, X.base.get? b = some o → s.heap.get? b = some o := fun b o e => (I.bs b o e).1
theorem Inv.mod (I : Inv X pins σ H s) : Mod X.K X.mg X.base := I.ok.mod
theorem Inv.kIn (I : Inv X pins σ H s) : X.K.In s.heap := I.ok.mod.kin.keeps I.bk
theorem Inv.lt (I : Inv X pins σ H s) : X.env.locals < s.heap.objs.size := let ⟨_, hn, _⟩ := I.loc; hn.lt
theorem Inv.sz (I : Inv X pins σ H s) : X.s₀.heap.objs.size ≤ s.heap.objs.size := Nat.le_trans I.ok.above (Nat.le_of_lt I.lt)
theorem Inv.nofs (I : Inv X pins σ H s) {a : Addr} (h : s.heap.objs.size ≤ a) : a ∉ X.fs := fun hb => by
  obtain ⟨_, o, ho, _⟩ := I.ok.funs.mem hb
  exact absurd (Nat.lt_of_lt_of_le (Heap.lt_size ho) (Nat.le_trans I.sz h)) (Nat.lt_irrefl _)
theorem Inv.cne (I : Inv X pins σ H s) : ∀ x c, X.env.cells.lookup x = some c → c ≠ X.env.locals := fun x c e z => by
  obtain ⟨v, o, ho, hd⟩ := I.cell x c e
  obtain ⟨m, ⟨o', es, ep, ho', hd', _⟩, _⟩ := I.loc
  rw [z, ho'] at ho; cases ho; rw [hd'] at hd; cases hd
theorem Inv.funs (I : Inv X pins σ H s) : s.heap.FunFrames X.base X.outer := by
  have all : ∀ (l : List Env), (∀ b ∈ frs l, b ∈ X.fs) → X.s₀.heap.FunFrames X.base l → s.heap.FunFrames X.base l := by
    intro l
    induction l with
    | nil => intro _ _; trivial
    | cons env r ih =>
      intro hs hl
      obtain ⟨hk, ⟨L, o, hf, hn, ho, hd⟩, hr⟩ := hl
      have hL : L ∈ X.fs := hs L (by unfold frs; rw [List.filterMap_cons, hf]; exact List.mem_cons_self)
      obtain ⟨sl, e⟩ := I.base.slot L o ho (I.ok.frf L hL) hL fun z => I.ok.exfs L z hL
      exact ⟨hk, ⟨L, _, hf, hn, e, hd⟩, ih (fun b hb => hs b (by unfold frs; rw [List.filterMap_cons, hf]; exact List.mem_cons_of_mem _ hb)) hr⟩
  exact all X.outer (fun _ hb => hb) I.ok.funs


theorem Inv.stack (I : Inv X pins σ H s) : s.heap.FunFrames X.base X.stack := by
  rcases I.ok.stk with e | ⟨e, hf⟩
  · rw [e]; exact I.funs
  · rw [e]
    obtain ⟨m, hn, _⟩ := I.loc
    refine .cons (by rw [I.ok.kind]; decide) hf hn ?_ I.funs
    exact Heap.get?_none_of_le (Nat.le_trans I.ok.bsz I.ok.above)
theorem Inv.stkSub (I : Inv X pins σ H s) : ∀ b ∈ frs X.stack, b ∈ X.env.locals :: X.fs := fun b hb => by
  rcases I.ok.stk with e | ⟨e, hf⟩
  · rw [e] at hb; exact List.mem_cons_of_mem _ hb
  · rw [e] at hb
    unfold frs at hb
    rw [List.filterMap_cons, hf] at hb
    exact hb
theorem Inv.stkFree (I : Inv X pins σ H s) : ∀ b ∈ frs X.stack, H b = none := fun b hb => by
  rcases List.mem_cons.mp (I.stkSub b hb) with e | hb
  · rw [e]; exact I.free
  · obtain ⟨_, o, ho, _⟩ := I.ok.funs.mem hb
    exact I.base.free b o ho (I.ok.frf b hb) fun z => I.ok.exfs b z hb


theorem Inv.step {g' : Array GenState} {t' : Nat} {d' : Drawn} {ch : List Addr} (I : Inv X pins σ H s)
    (hch : ∀ b ∈ ch, (b ∈ X.ex ∨ X.s₀.heap.objs.size ≤ b) ∧ b ≠ X.env.locals ∧ (∀ x c, X.env.cells.lookup x = some c → c ≠ b) ∧ ∀ p ∈ X.pn ++ pins, p.1 ≠ b)
    (keep : ∀ b o, b ≠ X.env.locals → b ∉ X.fs → b ∉ ch → s.heap.get? b = some o → H b = none → h'.get? b = some o)
    (slot : ∀ b o, b ≠ X.env.locals → b ∈ X.fs → b ∉ ch → s.heap.get? b = some o → H b = none → ∃ sl, h'.get? b = some { o with slots := sl }) (free : ∀ b o, b ∉ ch → s.heap.get? b = some o → H b = none → H' b = none)
    (there : ∀ b o, b ∉ ch → s.heap.get? b = some o → ∃ o', h'.get? b = some o')
    (tups : ∀ b xs, H b = some (.tup xs) → H' b = some (.tup xs)) (frzs : ∀ b o u, H b = some (.frz o u) → H' b = some (.frz o u)) (tbls : ∀ b ps, H b = some (.tbl ps) → ∃ more, H' b = some (.tbl (ps ++ more)))
    (ns : ∀ m, s.heap.Ns X.env.locals m → h'.Ns X.env.locals m) (hok : HOk X.prog X.w H' h') (hg : AllBare g') :
    Inv X pins σ H' { s with heap := h', gens := g', drawn := d', toks := t' } := by
  have neL : ∀ b o, X.s₀.heap.get? b = some o → b ≠ X.env.locals := fun b o e => Nat.ne_of_lt (Nat.lt_of_lt_of_le (Heap.lt_size e) I.ok.above)
  have neC : ∀ b o, X.s₀.heap.get? b = some o → b ∉ X.ex → b ∉ ch := fun b o e hx hb => by
    rcases (hch b hb).1 with z | z
    · exact hx z
    · exact absurd (Nat.lt_of_lt_of_le (Heap.lt_size e) z) (Nat.lt_irrefl _)
  have cellK : ∀ x c, X.env.cells.lookup x = some c → ∀ v, s.heap.IsCell c v → h'.IsCell c v := fun x c e v ⟨o, ho, hd⟩ => by
    have nch : c ∉ ch := fun z => (hch c z).2.2.1 x c e rfl
    by_cases hc : c ∈ X.fs
    · obtain ⟨sl, q⟩ := slot c o (I.cne x c e) hc nch ho (I.freeC x c e)
      exact ⟨_, q, hd⟩
    · exact ⟨o, keep c o (I.cne x c e) hc nch ho (I.freeC x c e), hd⟩
  refine ⟨I.ok, I.os, hg, ⟨fun b o e n hb hx => ?_, fun b o e n hb hx => ?_, fun b o e n hx => ?_, fun b o e hx => ?_, fun b xs e => tups b xs (I.base.tups b xs e), fun b o xs e => frzs b o xs (I.base.frzs b o xs e), fun b ps e => ?_⟩, ?_, fun x c e => ?_, ?_, fun x c e => ?_, fun p hp => ?_, hok, I.len⟩
  · exact keep b o (neL b o e) hb (neC b o e hx) (I.base.keep b o e n hb hx) (I.base.free b o e n hx)
  · obtain ⟨sl, e1⟩ := I.base.slot b o e n hb hx
    obtain ⟨sl', e2⟩ := slot b _ (neL b o e) hb (neC b o e hx) e1 (I.base.free b o e n hx)
    exact ⟨sl', e2⟩
  · obtain ⟨o', e1⟩ := I.base.there b o e hx
    exact free b o' (neC b o e hx) e1 (I.base.free b o e n hx)
  · obtain ⟨o', e1⟩ := I.base.there b o e hx
    exact there b o' (neC b o e hx) e1
  · obtain ⟨m1, e1⟩ := I.base.tbls b ps e
    obtain ⟨m2, e2⟩ := tbls b _ e1
    exact ⟨m1 ++ m2, by rw [e2, Array.append_assoc]⟩
  · obtain ⟨m, hn, hl⟩ := I.loc
    refine ⟨m, ns m hn, fun i x v e1 e2 e3 => ?_⟩
    obtain ⟨u, r, l⟩ := hl i x v e1 e2 e3
    refine ⟨u, r, ?_⟩
    rcases l with l | ⟨k, c, e, z⟩
    · exact .inl l
    · exact .inr ⟨k, c, e, cellK x c e _ z⟩
  · obtain ⟨v, z⟩ := I.cell x c e
    exact ⟨v, cellK x c e v z⟩
  · obtain ⟨m, ⟨o, _, _, ho, _⟩, _⟩ := I.loc
    exact free _ o (fun z => (hch _ z).2.1 rfl) ho I.free
  · obtain ⟨v, o, ho, hd⟩ := I.cell x c e
    exact free c o (fun z => (hch c z).2.2.1 x c e rfl) ho (I.freeC x c e)
  · obtain ⟨e, n, ne, nf, d⟩ := I.pin p hp
    have nch : p.1 ∉ ch := fun z => (hch p.1 z).2.2.2 p hp rfl
    exact ⟨keep p.1 p.2 ne nf nch e n, free p.1 p.2 nch e n, ne, nf, d⟩

theorem Inv.un {t' : Nat} (I : Inv X pins σ H s) (u : Un X.fs [] H H' s.heap h') (hok : HOk X.prog X.w H' h') : Inv X pins σ H' { s with heap := h', toks := t' } := by
  obtain ⟨m, ⟨o, es, ep, ho, r⟩, _⟩ := id I.loc
  obtain ⟨sl, hL⟩ := u.any ho I.free (by simp)
  exact I.step (g' := s.gens) (d' := s.drawn) (ch := []) (fun _ z => nomatch z) (fun b o _ hb _ e n => u.keep b o e n hb (by simp)) (fun b o _ hb _ e n => u.slot b o e n hb (by simp)) (fun b o _ e n => u.free b o e n (by simp)) (fun b o _ e => u.there b o e (by simp)) u.tups u.frzs u.tbls (fun m' hm => by
    obtain ⟨o', es', ep', ho', r'⟩ := hm
    rw [ho] at ho'; cases ho'
    exact ⟨_, es', ep', hL, r'⟩) hok I.bare

theorem Inv.call {g' : Array GenState} {t' : Nat} {d' : Drawn} {ch : List Addr} (I : Inv X pins σ H s) (u : Un (frs X.stack) ch H H' s.heap h') (hok : HOk X.prog X.w H' h') (hg : AllBare g')
    (hch : ∀ b ∈ ch, (b ∈ X.ex ∨ X.s₀.heap.objs.size ≤ b) ∧ b ≠ X.env.locals ∧ (∀ x c, X.env.cells.lookup x = some c → c ≠ b) ∧ ∀ p ∈ X.pn ++ pins, p.1 ≠ b) :
    Inv X pins σ H' { s with heap := h', gens := g', drawn := d', toks := t' } := by
  obtain ⟨m, ⟨o, es, ep, ho, r⟩, _⟩ := id I.loc
  obtain ⟨sl, hL⟩ := u.any ho I.free fun z => (hch _ z).2.1 rfl
  exact I.step (ch := ch) hch (fun b o hL hb hc e n => u.keep b o e n (fun z => (List.mem_cons.mp (I.stkSub b z)).elim hL hb) hc) (fun b o _ _ hc e n => u.any e n hc) (fun b o hc e n => u.free b o e n hc) (fun b o hc e => u.there b o e hc) u.tups u.frzs u.tbls (fun m' hm => by
    obtain ⟨o', es', ep', ho', r'⟩ := hm
    rw [ho] at ho'; cases ho'
    exact ⟨_, es', ep', hL, r'⟩) hok hg

theorem Inv.turned {t' : Nat} {it : Addr} (I : Inv X pins σ H s) (k : ∀ b o, b ≠ it → s.heap.get? b = some o → h'.get? b = some o) (hn : H it = none) (hL : it ≠ X.env.locals)
    (h1 : it ∈ X.ex ∨ X.s₀.heap.objs.size ≤ it) (h2 : ∀ x c, X.env.cells.lookup x = some c → c ≠ it) (h3 : ∀ p ∈ X.pn ++ pins, p.1 ≠ it) : Inv X pins σ H { s with heap := h', toks := t' } := by
  have nit : ∀ b u, H b = some u → b ≠ it := fun b u e z => by rw [z, hn] at e; cases e
  refine I.step (g' := s.gens) (d' := s.drawn) (ch := [it]) (fun b hb => ?_) (fun b o _ _ hc e _ => k b o (fun z => hc (by simp [z])) e) (fun b o _ _ hc e _ => ⟨o.slots, k b o (fun z => hc (by simp [z])) e⟩) (fun _ _ _ _ n => n)
    (fun b o hc e => ⟨o, k b o (fun z => hc (by simp [z])) e⟩) (fun _ _ e => e) (fun _ _ _ e => e) (fun b ps e => ⟨#[], by rw [e]; simp⟩) (fun m hm => ?_) (fun b u e => ?_) I.bare
  · have e : b = it := by simpa using hb
    subst e
    exact ⟨h1, hL, h2, h3⟩
  · obtain ⟨o, es, ep, ho, r⟩ := hm
    exact ⟨o, es, ep, k _ o (Ne.symm hL) ho, r⟩
  · refine (I.hok b u e).stay (fun c v hc q => k c v ?_ q) (fun _ q => q) fun _ _ q => q
    rcases hc with z | z
    · rw [z]; exact nit b u e
    · exact nit c _ z
theorem Inv.tok (I : Inv X pins σ H s) (t : Nat) : Inv X pins σ H { s with toks := t } := I.un (h' := s.heap) (t' := t) Un.refl I.hok

theorem Inv.kept {t' : Nat} (I : Inv X pins σ H s) (k : ∀ b u, s.heap.get? b = some u → h'.get? b = some u) : Inv X pins σ H { s with heap := h', toks := t' } := I.un (Un.kept k) (I.hok.kept k)

theorem Inv.laid {a : Addr} {o : HO} {t' : Nat} (I : Inv X pins σ H s) (k : ∀ b u, s.heap.get? b = some u → h'.get? b = some u) (hp : s.heap.objs.size ≤ a) (new : ObjOk X.prog X.w (upd H a o) h' a o) :
    Inv X pins σ (upd H a o) { s with heap := h', toks := t' } := I.un (Un.laid k hp (I.hok.fresh hp)) (I.hok.laid k hp new)

theorem Inv.write {x e : Addr} {o : HO} {t' : Nat} (I : Inv X pins σ H s) (mu : Mut (H x)) (he : e = x ∨ H e = some (.own x)) (k : ∀ b u, b ≠ e → s.heap.get? b = some u → h'.get? b = some u) (heo : ∃ u, h'.get? e = some u)
    (new : ObjOk X.prog X.w (upd H x o) h' x o) : Inv X pins σ (upd H x o) { s with heap := h', toks := t' } := I.un (Un.write mu he k heo) (I.hok.write mu he k heo new)

theorem Inv.pins_of {pins' : List (Addr × Obj)} (I : Inv X pins σ H s) (h : ∀ p ∈ pins', s.heap.get? p.1 = some p.2 ∧ H p.1 = none ∧ p.1 ≠ X.env.locals ∧ p.1 ∉ X.fs ∧ ∀ v, p.2.data ≠ .cell v) : Inv X pins' σ H s :=
  ⟨I.ok, I.os, I.bare, I.base, I.loc, I.cell, I.free, I.freeC, fun p hp => (List.mem_append.mp hp).elim (fun z => I.pin p (List.mem_append_left _ z)) (h p), I.hok, I.len⟩

theorem nodup_ix {N : List Str} (hN : N.Nodup) {i j : Nat} {x : Str} (a : N[i]? = some x) (b : N[j]? = some x) : i = j := by
  obtain ⟨h1, e1⟩ := List.getElem?_eq_some_iff.mp a
  obtain ⟨h2, e2⟩ := List.getElem?_eq_some_iff.mp b
  exact (List.getElem_inj hN).mp (e1.trans e2.symm)


theorem store_ok2 {M : Model} {A : Around} {E : Value → Shared → Prop} {i : Nat} {x : Str} {v : V} {u : Value} {Q : Unit → Shared → Prop} (I : Inv X pins σ H s) (hN : X.N.Nodup) (hi : X.N[i]? = some x) (hx : Loc X.env.scope x) (r : RelV v u)
    (h : ∀ s', Inv X pins (σ.set i (some v)) H s' → (∃ a, Heap.SameBut a s.heap s'.heap ∧ (a = X.env.locals ∨ X.env.cells.lookup x = some a)) → Q () s') (hf : X.fn x = true ∨ X.env.scope.names.lookup x = some .local := by first | exact .inl rfl | exact .inr rfl | assumption) : wpAny M A (storeName X.env x u) Q E s := by
  obtain ⟨m, hn, hl⟩ := id I.loc
  have hcls : (X.env.scope.kind == .class || (X.env.scope.kind == .module && X.env.locals != X.env.globals)) = false := by rw [I.ok.kind]; rfl
  have hiσ : i < σ.length := by rw [I.len]; exact (List.getElem?_eq_some_iff.mp hi).1
  have cne := I.cne
  have tracked : ∀ {a : Addr} {h' : Heap}, (∃ o, s.heap.get? a = some o ∧ H a = none) → Heap.SameBut a s.heap h' → HOk X.prog X.w H h' := fun {a h'} ha hs b ob e => by
    obtain ⟨_, _, hfree⟩ := ha
    refine (I.hok b ob e).stay (fun c w' hc q => (hs.2 c ?_).trans q) (fun _ q => q) fun _ _ q => q
    rintro rfl
    rcases hc with rfl | hc
    · rw [hfree] at e; cases e
    · rw [hfree] at hc; cases hc
  rcases hx with hk | hk
  · refine wpAny_storeName_local hk hn (fun h' hn' hs => ?_) hcls
    obtain ⟨oL, _, _, hoL, _⟩ := id hn
    refine h _ ⟨I.ok, I.os, I.bare, ⟨fun b o e n hb hx => ?_, fun b o e n hb hx => ?_, I.base.free, fun b o e hx => ?_, I.base.tups, I.base.frzs, I.base.tbls⟩, ⟨_, hn', fun j y v' e1 e2 e3 => ?_⟩, fun y c e => ?_, I.free, I.freeC, fun p hp => ?_, tracked ⟨oL, hoL, I.free⟩ hs, by simpa using I.len⟩ ⟨_, hs, .inl rfl⟩
    · exact (hs.2 b (Nat.ne_of_lt (Nat.lt_of_lt_of_le (Heap.lt_size e) I.ok.above))).trans (I.base.keep b o e n hb hx)
    · obtain ⟨sl, e1⟩ := I.base.slot b o e n hb hx
      exact ⟨sl, (hs.2 b (Nat.ne_of_lt (Nat.lt_of_lt_of_le (Heap.lt_size e) I.ok.above))).trans e1⟩
    · obtain ⟨o', e1⟩ := I.base.there b o e hx
      exact ⟨o', (hs.2 b (Nat.ne_of_lt (Nat.lt_of_lt_of_le (Heap.lt_size e) I.ok.above))).trans e1⟩
    · by_cases hj : j = i
      · subst hj
        rw [hi] at e1; cases e1
        rw [List.getElem?_set_self hiσ] at e2
        cases e2
        exact ⟨u, r, .inl ⟨hk, by simp⟩⟩
      · rw [List.getElem?_set_ne (Ne.symm hj)] at e2
        obtain ⟨u', r', q⟩ := hl j y v' e1 e2 e3
        refine ⟨u', r', ?_⟩
        rcases q with ⟨k, e⟩ | ⟨k, c, e, z⟩
        · refine .inl ⟨k, ?_⟩
          have : y ≠ x := fun e => hj (nodup_ix hN e1 (e ▸ hi))
          simp [this, e]
        · exact .inr ⟨k, c, e, z.sameBut hs (cne y c e)⟩
    · obtain ⟨w', z⟩ := I.cell y c e
      exact ⟨w', z.sameBut hs (cne y c e)⟩
    · obtain ⟨e, n, ne, nf, d⟩ := I.pin p hp
      exact ⟨(hs.2 p.1 ne).trans e, n, ne, nf, d⟩
  · have hfn : X.fn x = true := by
      rcases hf with z | z
      · exact z
      · rw [z] at hk; cases hk
    obtain ⟨c, hc⟩ := I.ok.has x (.inl hk)
    obtain ⟨w', z⟩ := I.cell x c hc
    refine wpAny_storeName_cell I.ok.kind hk hc z (fun h' hc' hs => ?_)
    obtain ⟨oc, hoc, hocd⟩ := id z
    refine h { s with heap := h' } ⟨I.ok, I.os, I.bare, ⟨fun b o e n hb hx => ?_, fun b o e n hb hx => ?_, I.base.free, fun b o e hx => ?_, I.base.tups, I.base.frzs, I.base.tbls⟩, ⟨m, hn.sameBut hs (Ne.symm (cne x c hc)), fun j y v' e1 e2 e3 => ?_⟩, fun y c' e => ?_, I.free, I.freeC, fun p hp => ?_, tracked ⟨oc, hoc, I.freeC x c hc⟩ hs, by simpa using I.len⟩ ⟨c, hs, .inr hc⟩
    · exact (hs.2 b (Nat.ne_of_lt (Nat.lt_of_lt_of_le (Heap.lt_size e) (I.ok.cab x c hfn hc)))).trans (I.base.keep b o e n hb hx)
    · obtain ⟨sl, e1⟩ := I.base.slot b o e n hb hx
      exact ⟨sl, (hs.2 b (Nat.ne_of_lt (Nat.lt_of_lt_of_le (Heap.lt_size e) (I.ok.cab x c hfn hc)))).trans e1⟩
    · obtain ⟨o', e1⟩ := I.base.there b o e hx
      exact ⟨o', (hs.2 b (Nat.ne_of_lt (Nat.lt_of_lt_of_le (Heap.lt_size e) (I.ok.cab x c hfn hc)))).trans e1⟩
    · by_cases hj : j = i
      · subst hj
        rw [hi] at e1; cases e1
        rw [List.getElem?_set_self hiσ] at e2
        cases e2
        exact ⟨u, r, .inr ⟨.inl hk, c, hc, hc'⟩⟩
      · rw [List.getElem?_set_ne (Ne.symm hj)] at e2
        obtain ⟨u', r', q⟩ := hl j y v' e1 e2 e3
        refine ⟨u', r', ?_⟩
        rcases q with q | ⟨k, c', e, z'⟩
        · exact .inl q
        · refine .inr ⟨k, c', e, z'.sameBut hs ?_⟩
          rintro rfl
          exact hj (nodup_ix hN e1 (I.ok.inj _ _ _ e hc ▸ hi))
    · by_cases hcc : c' = c
      · subst hcc; exact ⟨_, hc'⟩
      · obtain ⟨w2, z2⟩ := I.cell y c' e
        exact ⟨w2, z2.sameBut hs hcc⟩
    · obtain ⟨e, n, ne, nf, d⟩ := I.pin p hp
      refine ⟨(hs.2 p.1 ?_).trans e, n, ne, nf, d⟩
      intro q
      rw [q, hoc] at e
      have q' : oc = p.2 := Option.some.inj e
      exact d w' (by rw [← q']; exact hocd)
theorem store_ok {M : Model} {A : Around} {E : Value → Shared → Prop} {i : Nat} {x : Str} {v : V} {u : Value} {Q : Unit → Shared → Prop} (I : Inv X pins σ H s) (hN : X.N.Nodup) (hi : X.N[i]? = some x) (hx : Loc X.env.scope x) (r : RelV v u)
    (h : ∀ s', Inv X pins (σ.set i (some v)) H s' → Q () s') (hf : X.fn x = true ∨ X.env.scope.names.lookup x = some .local := by first | exact .inl rfl | exact .inr rfl | assumption) : wpAny M A (storeName X.env x u) Q E s :=
  store_ok2 I hN hi hx r (fun s' I' _ => h s' I') hf

theorem Inv.call' {s' : Shared} {ch : List Addr} (I : Inv X pins σ H s) (ho : s'.os = s.os) (u : Un (frs X.stack) ch H H' s.heap s'.heap) (hok : HOk X.prog X.w H' s'.heap) (hg : AllBare s'.gens)
    (hch : ∀ b ∈ ch, (b ∈ X.ex ∨ X.s₀.heap.objs.size ≤ b) ∧ b ≠ X.env.locals ∧ (∀ x c, X.env.cells.lookup x = some c → c ≠ b) ∧ ∀ p ∈ X.pn ++ pins, p.1 ≠ b) : Inv X pins σ H' s' := by
  obtain ⟨h', g', d', t', o'⟩ := s'
  have e : o' = s.os := ho
  subst e
  exact I.call (g' := g') (t' := t') (d' := d') u hok hg hch
end



abbrev XK := Value → Option Addr → Hp → Prop
abbrev St := List (Option V)
abbrev VK := V → Hp → Prop

abbrev TE := St → Hp → VK → Prop
abbrev TT := St → Hp → (Bool → Hp → Prop) → Prop
abbrev TA := St → Hp → (List V → Hp → Prop) → Prop

structure Ends where
  nx : St → Hp → Prop
  rt : VK
  bk : St → Hp → Prop := fun _ _ => False
  ct : St → Hp → Prop := fun _ _ => False
abbrev TS := Ends → St → Hp → Prop

def EP (X : Cx) (pins : List (Addr × Obj)) (σ : St) (Q : VK) (u : Value) (s' : Shared) : Prop := ∃ v H', Inv X pins σ H' s' ∧ RelV v u ∧ Q v H'
def TP (X : Cx) (pins : List (Addr × Obj)) (σ : St) (Q : Bool → Hp → Prop) (b : Bool) (s' : Shared) : Prop := ∃ H', Inv X pins σ H' s' ∧ Q b H'
def AP (X : Cx) (pins : List (Addr × Obj)) (σ : St) (Q : List V → Hp → Prop) (us : List Value) (s' : Shared) : Prop := ∃ vs H', Inv X pins σ H' s' ∧ Vals vs us ∧ Q vs H'
def SP (X : Cx) (pins : List (Addr × Obj)) (D : Ends) (f : Flow) (s' : Shared) : Prop :=
  match f with
  | .next => ∃ σ' H', Inv X pins σ' H' s' ∧ D.nx σ' H'
  | .brk => ∃ σ' H', Inv X pins σ' H' s' ∧ D.bk σ' H'
  | .cont => ∃ σ' H', Inv X pins σ' H' s' ∧ D.ct σ' H'
  | .ret u => ∃ v σ' H', Inv X pins σ' H' s' ∧ RelV v u ∧ D.rt v H'

def PE (X : Cx) (e : Expr) (t : TE) : Prop :=
  ∀ (pins : List (Addr × Obj)) (s : Shared) (σ : St) (H : Hp) (Q : VK), Inv X pins σ H s → t σ H Q → wpAny (model X.prog X.w) X.A (eval e X.env) (EP X pins σ Q) X.xe s
def PT (X : Cx) (e : Expr) (t : TT) : Prop :=
  ∀ (pins : List (Addr × Obj)) (s : Shared) (σ : St) (H : Hp) (Q : Bool → Hp → Prop), Inv X pins σ H s → t σ H Q → wpAny (model X.prog X.w) X.A (isTrue e X.env (eval e X.env)) (TP X pins σ Q) X.xe s

def PW (X : Cx) (e : Expr) (t : TT) : Prop :=
  ∀ (whole : Sem Value) (pins : List (Addr × Obj)) (s : Shared) (σ : St) (H : Hp) (Q : Bool → Hp → Prop), Inv X pins σ H s → t σ H Q → wpAny (model X.prog X.w) X.A (isTrue e X.env whole) (TP X pins σ Q) X.xe s
theorem PW.pt {X : Cx} {e : Expr} {t : TT} (h : PW X e t) : PT X e t := h _

def PA (X : Cx) (es : List Expr) (t : TA) : Prop :=
  ∀ (pos : Pos) (pins : List (Addr × Obj)) (s : Shared) (σ : St) (H : Hp) (Q : List V → Hp → Prop), Inv X pins σ H s → t σ H Q → wpAny (model X.prog X.w) X.A (spliced (backTo pos (starEach es X.env))) (AP X pins σ Q) X.xe s
def PS (X : Cx) (st : Stmt) (t : TS) : Prop :=
  ∀ (pins : List (Addr × Obj)) (s : Shared) (σ : St) (H : Hp) (D : Ends), Inv X pins σ H s → t D σ H → wpAny (model X.prog X.w) X.A (exec st X.env) (SP X pins D) X.xe s
def PSs (X : Cx) (st : List Stmt) (t : TS) : Prop :=
  ∀ (pins : List (Addr × Obj)) (s : Shared) (σ : St) (H : Hp) (D : Ends), Inv X pins σ H s → t D σ H → wpAny (model X.prog X.w) X.A (execs st X.env) (SP X pins D) X.xe s

theorem thn {α : Type} {t : Sem α} {Q Q' : α → Shared → Prop} {M : Model} {A : Around} {E : Value → Shared → Prop} {s : Shared} (h : wpAny M A t Q E s) (hQ : ∀ a s, Q a s → Q' a s) : wpAny M A t Q' E s := wpAny_mono h hQ fun _ _ x => x
end L2

namespace L2
open PySem PySem.Spec PyProof.Rows
section
variable {X : Cx}


theorem bin {a b : Expr} {ta tb : TE} (ha : PE X a ta) (hb : PE X b tb) {pins : List (Addr × Obj)} {s : Shared} {σ : St} {H : Hp} {R : V → V → Hp → Prop} (I : Inv X pins σ H s) (h : ta σ H fun x H1 => tb σ H1 fun y H2 => R x y H2)
    {α : Type} {Q : α → Shared → Prop} {f : Value → Value → Sem α}
    (hf : ∀ v u s2 x y H2, Inv X pins σ H2 s2 → RelV x v → RelV y u → R x y H2 → wpAny (model X.prog X.w) X.A (f v u) Q X.xe s2) :
    wpAny (model X.prog X.w) X.A (eval a X.env) (fun v s₁ => wpAny (model X.prog X.w) X.A (eval b X.env) (fun u s₂ => wpAny (model X.prog X.w) X.A (f v u) Q X.xe s₂) X.xe s₁) X.xe s := by
  refine thn (ha pins s σ H _ I h) fun v s1 ⟨x, H1, I1, r1, q1⟩ => ?_
  refine thn (hb pins s1 σ H1 _ I1 q1) fun u s2 ⟨y, H2, I2, r2, q2⟩ => ?_
  exact hf v u s2 x y H2 I2 r1 r2 q2


def tVar (i : Nat) : TE := fun σ H Q => ∃ v, σ[i]? = some (some v) ∧ Q v H
def tC (v : V) : TE := fun _ H Q => Q v H
theorem pe_var {i : Nat} {x : Str} {pos : Pos} (hN : X.N[i]? = some x) (hv : Vis X.env.scope x) (hd : (x == ("__debug__" : Str)) = false := by decide) (hcd : (x == ("__classdict__" : Str)) = false := by decide) : PE X (.Name x pos) (tVar i) := by
  intro pins s σ H Q I h
  obtain ⟨v, e, h⟩ := h
  obtain ⟨m, hn, hl⟩ := I.loc
  obtain ⟨u, r, l⟩ := hl i x v hN e hv
  have fin : EP X pins σ Q u s := ⟨v, H, I, r, h⟩
  rcases l with ⟨hk, hm⟩ | ⟨hk, c, hc, hcell⟩
  · exact wpAny_Name (wpAny_loadName_local I.ok.kind hk hn hm fin) hd
  · rcases hk with hk | hk
    · exact wpAny_Name (wpAny_loadName_cell I.ok.kind hk hc hcell fin) hd
    · exact wpAny_Name (wpAny_loadName_free I.ok.kind hk hc hcell fin hcd) hd
theorem pe_int {i j pos} : PE X (.Constant (.int i) j pos) (tC (.int i)) := fun _ _ _ H _ I h => wpAny_Constant_int ⟨.int i, H, I.tok _, ⟨_, rfl⟩, h⟩
theorem pe_bl {b j pos} : PE X (.Constant (.bool b) j pos) (tC (.bl b)) := fun _ _ _ H _ I h => Constant_bool ⟨.bl b, H, I, rfl, h⟩
theorem pe_non {j pos} : PE X (.Constant .none j pos) (tC .non) := fun _ _ _ H _ I h => Constant_none ⟨.non, H, I, rfl, h⟩
theorem pe_str {x j pos} : PE X (.Constant (.str x) j pos) (tC (.str x)) := fun _ _ _ H _ I h => Calls.Constant_str ⟨.str x, H, I.tok _, ⟨_, rfl⟩, h⟩


def Gl (X : Cx) (x : Str) : Prop := X.env.kindOf x = some .globalImplicit
theorem ld_glob {E : Value → Shared → Prop} {pins : List (Addr × Obj)} {s : Shared} {σ : St} {H : Hp} {x : Str} {u : Value} {pos : Pos} {Q : Value → Shared → Prop} (I : Inv X pins σ H s) (hg : Gl X x) (hm : X.mg x = some u) (h : Q u s)
    (hd : (x == ("__debug__" : Str)) = false := by decide) : wpAny (model X.prog X.w) X.A (eval (.Name x pos) X.env) Q E s :=
  Calls.Name_function_global I.ok.kind hg (Calls.loadGlobal_global (by rw [I.ok.glob]; exact I.mod.glob.keeps I.bk) hm h) hd
theorem ld_blt {E : Value → Shared → Prop} {pins : List (Addr × Obj)} {s : Shared} {σ : St} {H : Hp} {x : Str} {u : Value} {pos : Pos} {Q : Value → Shared → Prop} (I : Inv X pins σ H s) (hg : Gl X x) (hm : X.mg x = none) (hv : bootBuiltins x = some u) (h : Q u s)
    (hn : x ≠ "__name__" := by decide) (hd : (x == ("__debug__" : Str)) = false := by decide) : wpAny (model X.prog X.w) X.A (eval (.Name x pos) X.env) Q E s := by
  obtain ⟨mb, h1, h2⟩ := I.mod.blt
  exact Calls.Name_function_global I.ok.kind hg (Calls.loadGlobal_builtin (by rw [I.ok.glob]; exact I.mod.glob.keeps I.bk) hm (by rw [I.ok.blt]; exact h1.keeps I.bk) ((h2 x hn).trans hv) h) hd

theorem pe_glob {x : Str} {v : V} {u : Value} {pos : Pos} (hg : Gl X x) (hm : X.mg x = some u) (r : RelV v u) (hd : (x == ("__debug__" : Str)) = false := by decide) : PE X (.Name x pos) (tC v) :=
  fun _ _ _ H _ I h => ld_glob I hg hm ⟨v, H, I, r, h⟩ hd
variable {a b : Expr} {ta tb : TE} {pos : Pos}
def PC (X : Cx) (op : CmpOp) (a b : Expr) (t : TE) : Prop :=
  ∀ (pins : List (Addr × Obj)) (s : Shared) (σ : St) (H : Hp) (Q : VK), Inv X pins σ H s → t σ H Q →
    wpAny (model X.prog X.w) X.A (eval a X.env) (fun v s₁ => wpAny (model X.prog X.w) X.A (eval b X.env) (fun u s₂ => wpAny (model X.prog X.w) X.A (compareOp op v u) (EP X pins σ Q) X.xe s₂) X.xe s₁) X.xe s
theorem pe_cmp {op : CmpOp} {t : TE} (h : PC X op a b t) (h1 : behindInMarks op b = false := by first | exact nobehind _ (by decide) (by decide) | rfl) : PE X (.Compare a [op] [b] pos) t := fun pins s σ H Q I hw => wpAny_Compare1 (h pins s σ H Q I hw) h1
variable {tA tB' : TT} {rest : List Expr}
def tAnd (t u : TT) : TT := fun σ H Q => t σ H fun c H1 => if c = true then u σ H1 Q else Q false H1
def tOr (t u : TT) : TT := fun σ H Q => t σ H fun c H1 => if c = true then Q true H1 else u σ H1 Q
def tNot (t : TT) : TT := fun σ H Q => t σ H fun c H1 => Q (!c) H1
theorem pw_and1 (ha : PT X a tA) : PW X (.BoolOp .And [a] pos) tA := by
  intro wh pins s σ H Q I h
  refine isTrue_and (thn (ha pins s σ H Q I h) fun c s1 e => ?_)
  cases c with
  | true => exact isTrue_and_nil e
  | false => exact e
theorem pw_or1 (ha : PT X a tA) : PW X (.BoolOp .Or [a] pos) tA := by
  intro wh pins s σ H Q I h
  refine isTrue_or (thn (ha pins s σ H Q I h) fun c s1 e => ?_)
  cases c with
  | false => exact isTrue_or_nil e
  | true => exact e
theorem pw_and (ha : PT X a tA) (hb : PW X (.BoolOp .And (b :: rest) pos) tB') : PW X (.BoolOp .And (a :: b :: rest) pos) (tAnd tA tB') := by
  intro wh pins s σ H Q I h
  refine isTrue_and (thn (ha pins s σ H _ I h) fun c s1 ⟨H1, I1, q1⟩ => ?_)
  cases c with
  | true => exact hb wh pins s1 σ H1 Q I1 q1
  | false => exact ⟨H1, I1, q1⟩
theorem pw_or (ha : PT X a tA) (hb : PW X (.BoolOp .Or (b :: rest) pos) tB') : PW X (.BoolOp .Or (a :: b :: rest) pos) (tOr tA tB') := by
  intro wh pins s σ H Q I h
  refine isTrue_or (thn (ha pins s σ H _ I h) fun c s1 ⟨H1, I1, q1⟩ => ?_)
  cases c with
  | true => exact ⟨H1, I1, q1⟩
  | false => exact hb wh pins s1 σ H1 Q I1 q1
theorem pt_not (ha : PT X a tA) : PT X (.UnaryOp .Not a pos) (tNot tA) := by
  intro pins s σ H Q I h
  exact isTrue_not (ha pins s σ H (fun c H1 => Q (!c) H1) I h)

def tAndV (ta tb : TE) : TE := fun σ H Q => ta σ H fun x H1 => ∃ c, x = .bl c ∧ if c = true then tb σ H1 Q else Q (.bl false) H1
def tOrV (ta tb : TE) : TE := fun σ H Q => ta σ H fun x H1 => ∃ c, x = .bl c ∧ if c = true then Q (.bl true) H1 else tb σ H1 Q
def tNotV (ta : TE) : TE := fun σ H Q => ta σ H fun x H1 => ∃ c, x = .bl c ∧ Q (.bl (!c)) H1
theorem pe_one {op} {t : TE} (h : PE X a t) : PE X (.BoolOp op [a] pos) t := fun pins s σ H Q I hw => BoolOp_one (h pins s σ H Q I hw)
theorem pe_and (ha : PE X a ta) (hb : PE X (.BoolOp .And (b :: rest) pos) tb) : PE X (.BoolOp .And (a :: b :: rest) pos) (tAndV ta tb) := by
  intro pins s σ H Q I h
  refine BoolOp_and (thn (ha pins s σ H _ I h) fun v s1 ⟨x, H1, I1, r1, q1⟩ => ?_)
  obtain ⟨c, rfl, q1⟩ := q1
  cases r1
  refine wpAny_truthy_bool ?_
  cases c with
  | true => exact hb pins s1 σ H1 Q I1 q1
  | false => exact ⟨.bl false, H1, I1, rfl, q1⟩
theorem pe_or (ha : PE X a ta) (hb : PE X (.BoolOp .Or (b :: rest) pos) tb) : PE X (.BoolOp .Or (a :: b :: rest) pos) (tOrV ta tb) := by
  intro pins s σ H Q I h
  refine BoolOp_or (thn (ha pins s σ H _ I h) fun v s1 ⟨x, H1, I1, r1, q1⟩ => ?_)
  obtain ⟨c, rfl, q1⟩ := q1
  cases r1
  refine wpAny_truthy_bool ?_
  cases c with
  | false => exact hb pins s1 σ H1 Q I1 q1
  | true => exact ⟨.bl true, H1, I1, rfl, q1⟩
theorem pe_not (ha : PE X a ta) : PE X (.UnaryOp .Not a pos) (tNotV ta) := by
  intro pins s σ H Q I h
  refine UnaryOp_ (thn (ha pins s σ H _ I h) fun v s1 ⟨x, H1, I1, r1, q1⟩ => ?_)
  obtain ⟨c, rfl, q1⟩ := q1
  cases r1
  exact not_of (wpAny_truthy_bool ⟨.bl (!c), H1, I1, rfl, q1⟩)

def tIf (t : TT) (ta tb : TE) : TE := fun σ H Q => t σ H fun c H1 => if c = true then ta σ H1 Q else tb σ H1 Q
theorem pe_ifExp {c : Expr} (hc : PT X c tA) (ha : PE X a ta) (hb : PE X b tb) : PE X (.IfExp c a b pos) (tIf tA ta tb) := by
  intro pins s σ H Q I h
  refine wpAny_IfExp (thn (hc pins s σ H _ I h) fun d s1 ⟨H1, I1, q1⟩ => ?_)
  cases d with
  | true => exact ha pins s1 σ H1 Q I1 q1
  | false => exact hb pins s1 σ H1 Q I1 q1
end
end L2

namespace L2
open PySem PySem.Spec PyProof.Rows


def SqL (K : PySem.W.Frag) (H : Hp) (a : Addr) (xs : List V) : Prop :=
  Rd H a (.lst xs) ∨
    ∃ (o : Obj) (its : Array Value) (n : Nat), K.lookup a = some o ∧ o.cls = .type "list" ∧ o.dict = none ∧ o.data = .seq its n ∧ its.size ≤ sizeLine ∧ Vals xs its.toList
def SqT (K : PySem.W.Frag) (H : Hp) (a : Addr) (xs : List V) : Prop :=
  Rd H a (.tup xs) ∨
    ∃ (o : Obj) (its : Array Value) (n : Nat), K.lookup a = some o ∧ o.cls = .type "tuple" ∧ o.data = .seq its n ∧ its.size ≤ sizeLine ∧ Vals xs its.toList
def absV : Value → Option V
  | .none => some .non
  | .bool b => some (.bl b)
  | .int i _ => some (.int i)
  | .str x _ => some (.str x)
  | .bytes b _ => some (.byt b)
  | .float b _ => some (.flt b)
  | .ref a => some (.ref a)
  | .type n => some (.ty n)
  | _ => none
theorem RelV.abs {x : V} {u : Value} (r : RelV x u) : absV u = some x := by
  cases x with
  | non => cases r; rfl
  | bl _ => cases r; rfl
  | int _ => obtain ⟨t, rfl⟩ := r; rfl
  | str _ => obtain ⟨t, rfl⟩ := r; rfl
  | byt _ => obtain ⟨t, rfl⟩ := r; rfl
  | flt _ => obtain ⟨t, rfl⟩ := r; rfl
  | ref _ => cases r; rfl
  | ty _ => cases r; rfl
theorem RelV.inj {x y : V} {u : Value} (r : RelV x u) (q : RelV y u) : x = y := Option.some.inj (r.abs.symm.trans q.abs)
theorem Vals.inj : ∀ {xs ys : List V} {us : List Value}, Vals xs us → Vals ys us → xs = ys
  | _, _, _, .nil, .nil => rfl
  | _, _, _, .cons r t, .cons r' t' => by rw [r.inj r', Vals.inj t t']
section
variable {X : Cx} {pins : List (Addr × Obj)} {σ : St} {H : Hp} {s : Shared} {a : Addr} {xs ys : List V}
theorem SqL.of {K : PySem.W.Frag} (h : H a = some (.lst xs)) : SqL K H a xs := .inl (.inl h)
theorem SqT.of {K : PySem.W.Frag} (h : H a = some (.tup xs)) : SqT K H a xs := .inl (.inl h)
theorem Inv.list (I : Inv X pins σ H s) (h : SqL X.K H a xs) : ∃ its : List Value, Vals xs its ∧ PlainL s.heap a its.toArray ∧ xs.length ≤ sizeLine := by
  rcases h with h | ⟨o, its, n, hk, hc, hd, hs, hz, r⟩
  · obtain ⟨z, its, n, r, e⟩ := h.ok I.hok
    exact ⟨its, r, ⟨_, n, e, rfl, rfl, rfl⟩, z⟩
  · refine ⟨its.toList, r, ⟨o, n, I.kIn a o hk, hc, hd, by simpa using hs⟩, ?_⟩
    have e := r.length
    simp only [Array.length_toList] at e
    omega
theorem Inv.tuple (I : Inv X pins σ H s) (h : SqT X.K H a xs) : ∃ its : List Value, Vals xs its ∧ IsTup s.heap a its.toArray ∧ xs.length ≤ sizeLine := by
  rcases h with h | ⟨o, its, n, hk, hc, hs, hz, r⟩
  · obtain ⟨z, its, r, p⟩ := h.ok I.hok
    exact ⟨its, r, p.tup, z⟩
  · refine ⟨its.toList, r, ⟨o, I.kIn a o hk, hc, n, by simpa using hs⟩, ?_⟩
    have e := r.length
    simp only [Array.length_toList] at e
    omega
theorem Inv.list_inj (I : Inv X pins σ H s) (h : SqL X.K H a xs) (h' : SqL X.K H a ys) : xs = ys := by
  obtain ⟨its, r, ⟨o, n, e, _, _, d⟩, _⟩ := I.list h
  obtain ⟨its', r', ⟨o', n', e', _, _, d'⟩, _⟩ := I.list h'
  rw [e] at e'; cases e'
  rw [d] at d'
  injection d' with d1 _
  have : its = its' := by simpa using congrArg Array.toList d1
  subst this
  exact r.inj r'
theorem Inv.tuple_inj (I : Inv X pins σ H s) (h : SqT X.K H a xs) (h' : SqT X.K H a ys) : xs = ys := by
  obtain ⟨its, r, ⟨o, e, _, n, d⟩, _⟩ := I.tuple h
  obtain ⟨its', r', ⟨o', e', _, n', d'⟩, _⟩ := I.tuple h'
  rw [e] at e'; cases e'
  rw [d] at d'
  injection d' with d1 _
  have : its = its' := by simpa using congrArg Array.toList d1
  subst this
  exact r.inj r'
end


abbrev Cx.wish (X : Cx) (E : Value → Shared → Prop) : Cx := { X with xe := E }

abbrev Cx.nox (X : Cx) : Cx := X.wish fun _ _ => False
theorem Cx.Ok.wish {X : Cx} (ok : X.Ok) (E : Value → Shared → Prop) : (X.wish E).Ok :=
  ⟨ok.mod, ok.kind, ok.glob, ok.blt, ok.above, ok.inj, ok.has, ok.cab, ok.hd, ok.frames, ok.stk, ok.exf, ok.bs, ok.bsz, ok.noex, ok.exfs, ok.funs, ok.frf⟩
theorem Cx.Ok.unwish {X : Cx} {E : Value → Shared → Prop} (ok : (X.wish E).Ok) : X.Ok :=
  ⟨ok.mod, ok.kind, ok.glob, ok.blt, ok.above, ok.inj, ok.has, ok.cab, ok.hd, ok.frames, ok.stk, ok.exf, ok.bs, ok.bsz, ok.noex, ok.exfs, ok.funs, ok.frf⟩
section
variable {X : Cx} {pins : List (Addr × Obj)} {σ : St} {H : Hp} {s : Shared} {E : Value → Shared → Prop}
theorem Inv.wish (I : Inv X pins σ H s) (E : Value → Shared → Prop) : Inv (X.wish E) pins σ H s := ⟨I.ok.wish E, I.os, I.bare, I.base, I.loc, I.cell, I.free, I.freeC, I.pin, I.hok, I.len⟩
theorem Inv.unwish (I : Inv (X.wish E) pins σ H s) : Inv X pins σ H s := ⟨I.ok.unwish, I.os, I.bare, I.base, I.loc, I.cell, I.free, I.freeC, I.pin, I.hok, I.len⟩
theorem SP.unwish {D : Ends} {f : Flow} {s' : Shared} (h : SP (X.wish E) pins D f s') : SP X pins D f s' := by
  cases f with
  | next => obtain ⟨σ', H', I, q⟩ := h; exact ⟨σ', H', I.unwish, q⟩
  | brk => obtain ⟨σ', H', I, q⟩ := h; exact ⟨σ', H', I.unwish, q⟩
  | cont => obtain ⟨σ', H', I, q⟩ := h; exact ⟨σ', H', I.unwish, q⟩
  | ret u => obtain ⟨v, σ', H', I, r, q⟩ := h; exact ⟨v, σ', H', I.unwish, r, q⟩
theorem PSs.nox {st : List Stmt} {t : TS} (h : PSs X.nox st t) : PSs X st t := fun pins s σ H D I hw =>
  wpAny_mono (h pins s σ H D (I.wish _) hw) (fun _ _ q => q.unwish) fun _ _ z => False.elim z
end


section
variable {X : Cx} {st : Stmt} {rest : List Stmt} {t u : TS} {e : Expr} {te : TE} {pos : Pos}
def tNext : TS := fun D σ H => D.nx σ H
def tSeq (t u : TS) : TS := fun D σ H => t { D with nx := u D } σ H
theorem pss_nil : PSs X [] tNext := fun _ _ σ H _ I h => wpAny_execs_nil ⟨σ, H, I, h⟩
theorem pss_cons (h1 : PS X st t) (h2 : PSs X rest u) : PSs X (st :: rest) (tSeq t u) := by
  intro pins s σ H D I h
  refine wpAny_execs_cons (thn (h1 pins s σ H { D with nx := u D } I h) fun f s1 q => ?_)
  cases f with
  | next =>
    obtain ⟨σ', H', I', q⟩ := q
    exact h2 pins s1 σ' H' D I' q
  | ret v => exact q
  | brk => exact q
  | cont => exact q
theorem pss_one (h1 : PS X st t) : PSs X [st] t := by
  intro pins s σ H D I h
  refine wpAny_execs_cons (thn (h1 pins s σ H D I h) fun f s1 q => ?_)
  cases f with
  | next => exact wpAny_execs_nil q
  | ret v => exact q
  | brk => exact q
  | cont => exact q
theorem Inv.quiet {pins : List (Addr × Obj)} {σ : St} {H : Hp} {s : Shared} (I : Inv X pins σ H s) : interactive X.env = false := by simp [interactive, I.ok.kind]

def tDrop (te : TE) : TS := fun D σ H => te σ H fun _ H1 => D.nx σ H1
theorem ps_expr (he : PE X e te) (hs : swapsWith e none pos.line X.env = pure false := by rfl) : PS X (.Expr e pos) (tDrop te) := by
  intro pins s σ H D I h
  exact wpAny_Expr_any (thn (he pins s σ H _ I h) fun v s1 ⟨x, H1, I1, r1, q1⟩ => ⟨σ, H1, I1, q1⟩) I.quiet hs
def tRet (te : TE) : TS := fun D σ H => te σ H D.rt
theorem ps_ret (he : PE X e te) : PS X (.Return (some e) pos) (tRet te) := by
  intro pins s σ H D I h
  exact wpAny_Return_some (thn (he pins s σ H _ I h) fun v s1 ⟨x, H1, I1, r1, q1⟩ => ⟨x, σ, H1, I1, r1, q1⟩)
def tIfS (c : TT) (t u : TS) : TS := fun D σ H => c σ H fun b H1 => if b = true then t D σ H1 else u D σ H1
theorem ps_if {c : Expr} {a b : List Stmt} {tc : TT} (hc : PT X c tc) (ha : PSs X a t) (hb : PSs X b u) : PS X (.If c a b pos) (tIfS tc t u) := by
  intro pins s σ H D I h
  refine wpAny_If (thn (hc pins s σ H _ I h) fun d s1 ⟨H1, I1, q1⟩ => ?_)
  cases d with
  | true => exact ha pins s1 σ H1 D I1 q1
  | false => exact hb pins s1 σ H1 D I1 q1

end


abbrev TG := V → St → Hp → (St → Hp → Prop) → Prop
abbrev TGs := List V → St → Hp → (St → Hp → Prop) → Prop
def PG (X : Cx) (target : Expr) (t : TG) : Prop :=
  ∀ (pins : List (Addr × Obj)) (s : Shared) (σ : St) (H : Hp) (v : V) (u : Value) (Q : St → Hp → Prop), Inv X pins σ H s → RelV v u → t v σ H Q →
    wpAny (model X.prog X.w) X.A (assign target X.env u) (fun _ s' => ∃ σ' H', Inv X pins σ' H' s' ∧ Q σ' H') X.xe s

def PGs (X : Cx) (ts : List Expr) (t : TGs) : Prop :=
  ∀ (pins : List (Addr × Obj)) (s : Shared) (σ : St) (H : Hp) (vs : List V) (us : List Value) (Q : St → Hp → Prop), Inv X pins σ H s → Vals vs us → t vs σ H Q →
    wpAny (model X.prog X.w) X.A (assignInOrder ((assignEach ts X.env).map (·.2)) us) (fun _ s' => ∃ σ' H', Inv X pins σ' H' s' ∧ Q σ' H') X.xe s

section
variable {X : Cx} {pos : Pos}
def gName (i : Nat) : TG := fun v σ H Q => Q (σ.set i (some v)) H
theorem pg_name {i : Nat} {x : Str} (hN : X.N.Nodup) (hi : X.N[i]? = some x) (hx : Loc X.env.scope x) (hf : X.fn x = true ∨ X.env.scope.names.lookup x = some .local := by first | exact .inl rfl | exact .inr rfl | assumption) : PG X (.Name x pos) (gName i) := by
  intro pins s σ H v u Q I r h
  exact wpAny_assign_Name (store_ok I hN hi hx r (fun s' I' => ⟨_, H, I', h⟩) hf)
def gNil : TGs := fun vs σ H Q => vs = [] ∧ Q σ H
def gCons (t : TG) (u : TGs) : TGs := fun vs σ H Q => ∃ v r, vs = v :: r ∧ t v σ H fun σ' H' => u r σ' H' Q
theorem pgs_nil : PGs X [] gNil := by
  intro pins s σ H vs us Q I r h
  obtain ⟨e, h⟩ := h
  subst e
  cases r
  exact assignInOrder_nil ⟨σ, H, I, h⟩
theorem pgs_cons {e : Expr} {es : List Expr} {t : TG} {u : TGs} (h1 : PG X e t) (h2 : PGs X es u)
    (hs : (assignEach (e :: es) X.env).map (·.2) = assign e X.env :: (assignEach es X.env).map (·.2) := by rfl) : PGs X (e :: es) (gCons t u) := by
  intro pins s σ H vs us Q I r h
  obtain ⟨v, vr, e1, h⟩ := h
  subst e1
  cases r with
  | cons r rr =>
    rw [hs]
    refine assignInOrder_cons (thn (h1 pins s σ H _ _ _ I r h) fun _ s1 ⟨σ1, H1, I1, q1⟩ => ?_)
    exact h2 pins s1 σ1 H1 _ _ Q I1 rr q1

def gTup (K : PySem.W.Frag) (n : Nat) (t : TGs) : TG := fun v σ H Q => ∃ a xs, v = .ref a ∧ SqT K H a xs ∧ xs.length = n ∧ t xs σ H Q
theorem pg_tup {es : List Expr} {k : Nat} {t : TGs} {n : Nat} (hc : X.calm = true) (h : PGs X es t)
    (hn : (assignEach es X.env).length = n := by rfl) (hst : (assignEach es X.env).findIdx? (·.1) = none := by rfl) : PG X (.Tuple es k pos) (gTup X.K n t) := by
  intro pins s σ H v u Q I r hw
  obtain ⟨a, xs, e1, hq, hl, hw⟩ := hw
  subst e1
  cases r
  obtain ⟨its, rv, ht, hz⟩ := I.tuple hq
  refine assign_Tuple_tuple (I.ok.hd hc) ht (by simp [hn, ← hl, rv.length]) hst fun h' hx => ?_
  have I1 : Inv X pins σ H { s with heap := h' } := I.kept (t' := s.toks) fun b o e => hx b o (Nat.ne_of_lt (Heap.lt_size e)) e
  exact h pins _ σ H xs _ Q I1 (by simpa using rv) hw

def tAsg (te : TE) (g : TG) : TS := fun D σ H => te σ H fun x H1 => g x σ H1 D.nx
theorem ps_asg {tg e : Expr} {te : TE} {g : TG} (he : PE X e te) (hg : PG X tg g) (hs : swapsWithSole [tg] e pos.line X.env = pure false := by rfl) (hw : swappedStores [tg] e X.env = pure none := by rfl)
    (h1 : (assignEach [tg] X.env).map (·.2) = [assign tg X.env] := by rfl) : PS X (.Assign [tg] e pos) (tAsg te g) := by
  intro pins s σ H D I h
  refine wpAny_Assign_stores (thn (he pins s σ H _ I h) fun v s1 ⟨x, H1, I1, r1, q1⟩ => ?_) hs hw
  rw [h1]
  exact thn (hg pins s1 σ H1 x v _ I1 r1 q1) fun _ s2 q => q

theorem ps_set {i : Nat} {x : Str} {e : Expr} {te : TE} {pos' : Pos} (hN : X.N.Nodup) (hi : X.N[i]? = some x) (hx : Loc X.env.scope x) (he : PE X e te) (hs : swapsWith e (some (.Name x pos')) pos.line X.env = pure false := by rfl) (hf : X.fn x = true ∨ X.env.scope.names.lookup x = some .local := by first | exact .inl rfl | exact .inr rfl | assumption) :
    PS X (.Assign [.Name x pos'] e pos) (tAsg te (gName i)) := by
  intro pins s σ H D I h
  refine wpAny_Assign_Name (thn (he pins s σ H _ I h) fun v s1 ⟨y, H1, I1, r1, q1⟩ => ?_) hs
  exact store_ok I1 hN hi hx r1 (fun s2 I2 => ⟨_, H1, I2, q1⟩) hf

end


section
variable {X : Cx} {pos : Pos}

end



structure It where
  go : Nat → Hp → Prop
  yld : Nat → Hp → V → Hp → Prop
  stop : Nat → Hp → Prop

def FpOk (X : Cx) (pins : List (Addr × Obj)) (H : Hp) (b : Addr) : Prop :=
  H b = none ∧ b ≠ X.env.locals ∧ b ∉ X.fs ∧ (b ∈ X.ex ∨ X.s₀.heap.objs.size ≤ b) ∧ (∀ x c, X.env.cells.lookup x = some c → c ≠ b) ∧ ∀ p ∈ X.pn ++ pins, p.1 ≠ b
theorem Inv.fpOk {X : Cx} {pins : List (Addr × Obj)} {σ : St} {H H' : Hp} {s : Shared} {b : Addr} (I : Inv X pins σ H s) (hb : s.heap.objs.size ≤ b) (hn : H' b = none) : FpOk X pins H' b := by
  refine ⟨hn, Nat.ne_of_gt (Nat.lt_of_lt_of_le I.lt hb), I.nofs hb, .inr (Nat.le_trans I.sz hb), fun x c e z => ?_, fun p hp z => ?_⟩
  · obtain ⟨v, q⟩ := I.cell x c e
    exact absurd (Nat.lt_of_lt_of_le q.lt (by rw [z]; exact hb)) (Nat.lt_irrefl _)
  · exact absurd (Nat.lt_of_lt_of_le (Heap.lt_size (I.pin p hp).1) (by rw [z]; exact hb)) (Nat.lt_irrefl _)
structure Turn (P : Program) (w : World) (K : PySem.W.Frag) (tg : Expr) (J : It) (fp : List Addr) (it : Addr) (tn : Nat → Heap → Prop) : Prop where
  mem : it ∈ fp
  obj : ∀ i h, tn i h → ∀ b ∈ fp, ∃ o, h.get? b = some o ∧ ∀ v, o.data ≠ .cell v
  keep : ∀ i h h', tn i h → (∀ b ∈ fp, ∀ o, h.get? b = some o → h'.get? b = some o) → tn i h'
  item : ∀ (X : Cx), X.prog = P → X.w = w → X.K = K → X.calm = true → ∀ (i : Nat) (pins : List (Addr × Obj)) (s : Shared) (σ : St) (H : Hp) (E : Value → Shared → Prop), Inv X pins σ H s → (∀ b ∈ fp, FpOk X pins H b) → tn i s.heap → J.go i H →
    wpAny (model P w) X.A (pyNext (.ref it)) (fun r s1 => ∃ u, r = some u ∧
      wpAny (model P w) X.A (letOwnedTupleGo tg (.ref it) u) (fun _ s2 => ∃ x H', Inv X pins σ H' s2 ∧ RelV x u ∧ J.yld i H x H' ∧ tn (i + 1) s2.heap ∧ ∀ b ∈ fp, H' b = none) E s1) E s
  done : ∀ (X : Cx), X.prog = P → X.w = w → X.K = K → X.calm = true → ∀ (i : Nat) (pins : List (Addr × Obj)) (s : Shared) (σ : St) (H : Hp) (E : Value → Shared → Prop), Inv X pins σ H s → (∀ b ∈ fp, FpOk X pins H b) → tn i s.heap → J.stop i H →
    wpAny (model P w) X.A (pyNext (.ref it)) (fun r s1 => r = none ∧ Inv X pins σ H s1) E s
  self : ∀ (A : Around) (i : Nat) (s : Shared) (Q : Value → Shared → Prop) (E : Value → Shared → Prop), tn i s.heap → Q (.ref it) s → wpAny (model P w) A (pyIter (.ref it)) Q E s
abbrev TI := St → Hp → (It → Hp → Prop) → Prop

def PIE (X : Cx) (pins : List (Addr × Obj)) (σ : St) (tg : Expr) (R : It → Hp → Prop) (itv : Value) (s2 : Shared) : Prop :=
  ∃ (it : Addr) (fp : List Addr) (tn : Nat → Heap → Prop) (J : It) (H' : Hp), itv = .ref it ∧ Inv X pins σ H' s2 ∧ Turn X.prog X.w X.K tg J fp it tn ∧ tn 0 s2.heap ∧ (∀ b ∈ fp, FpOk X pins H' b) ∧ R J H'
def PI (X : Cx) (tg iter : Expr) (wi : TI) : Prop :=
  ∀ (pins : List (Addr × Obj)) (s : Shared) (σ : St) (H : Hp) (R : It → Hp → Prop), Inv X pins σ H s → wi σ H R →
    wpAny (model X.prog X.w) X.A (eval iter X.env) (fun v s1 => wpAny (model X.prog X.w) X.A (pyIter v) (PIE X pins σ tg R) X.xe s1) X.xe s


theorem go_of {M : Model} {A : Around} {E : Value → Shared → Prop} {s : Shared} {tg : Expr} {it : Addr} {u : Value} {o : Obj} {n : String} {vs : Array Value} {Q : Unit → Shared → Prop} (ho : s.heap.get? it = some o) (hc : o.cls = .type n) (hd : o.data = .fields vs)
    (hn : ["enumerate", "zip", "dict_itemiterator", "dict_reverseitemiterator", "odict_iterator", "itertools.zip_longest", "itertools.pairwise"].contains n = false) (hQ : Q () s) : wpAny M A (letOwnedTupleGo tg (.ref it) u) Q E s := by
  unfold letOwnedTupleGo
  cases tg <;> first
    | exact wpAny_pure hQ
    | (cases u <;> first
        | exact wpAny_pure hQ
        | (refine wpAny_bind (wpAny_load ho ?_)
           rw [hc, hd]
           show wpAny M A (if (["enumerate", "zip", "dict_itemiterator", "dict_reverseitemiterator", "odict_iterator", "itertools.zip_longest", "itertools.pairwise"].contains n && vs[0]? == some (rawInt _)) = true then _ else _) Q E s
           rw [if_neg (by intro h; rw [hn, Bool.false_and] at h; cases h)]
           exact wpAny_pure hQ))


def Itl (K : PySem.W.Frag) (a : Addr) : It :=
  ⟨fun i H => ∃ xs x, SqL K H a xs ∧ xs[i]? = some x, fun i H x H' => H' = H ∧ ∀ xs, SqL K H a xs → xs[i]? = some x, fun i H => ∃ xs, SqL K H a xs ∧ xs.length ≤ i⟩
def Itt (K : PySem.W.Frag) (a : Addr) : It :=
  ⟨fun i H => ∃ xs x, SqT K H a xs ∧ xs[i]? = some x, fun i H x H' => H' = H ∧ ∀ xs, SqT K H a xs → xs[i]? = some x, fun i H => ∃ xs, SqT K H a xs ∧ xs.length ≤ i⟩

def Itr (lo : Int) (n : Nat) : It := ⟨fun i _ => i < n, fun i H x H' => H' = H ∧ x = .int (lo + i), fun i _ => n ≤ i⟩
theorem turn_list {P : Program} {w : World} {K : PySem.W.Frag} {tg : Expr} (a it : Addr) : Turn P w K tg (Itl K a) [it] it (fun i h => h.IsListIter it a i) where
  mem := by simp
  obj := fun i h st b hb => by
    have e : b = it := by simpa using hb
    subst e
    obtain ⟨o, e, c, d⟩ := st
    exact ⟨o, e, fun v z => by rw [d] at z; cases z⟩
  keep := fun i h h' st k => st.at fun o e => k it (by simp) o e
  item := by
    intro X hP hw hK hc i pins s σ H E I hf st hg
    subst hP hw hK
    obtain ⟨xs, x, hq, hx⟩ := hg
    obtain ⟨its, rv, p, hz⟩ := I.list hq
    obtain ⟨u, hu, ru⟩ := rv.get hx
    obtain ⟨f0, f1, f2, f3, f4, f5⟩ := hf it (by simp)
    refine wpAny_pyNext_list_item st p.isList (x := u) (by simpa using hu) fun h' st' sb => ?_
    have I1 : Inv X pins σ H { s with heap := h' } := I.turned (t' := s.toks) (fun b o hb e => (sb.2 b hb).trans e) f0 f1 f3 f4 f5
    obtain ⟨o, e, c, d⟩ := id st'
    exact ⟨u, rfl, go_of (s := { s with heap := h' }) e c d (by decide) ⟨x, H, I1, ru, ⟨rfl, fun ys hy => by rw [I.list_inj hy hq]; exact hx⟩, st', fun b hb => (hf b hb).1⟩⟩
  done := by
    intro X hP hw hK hc i pins s σ H E I hf st hg
    subst hP hw hK
    obtain ⟨xs, hq, hx⟩ := hg
    obtain ⟨its, rv, p, hz⟩ := I.list hq
    obtain ⟨f0, f1, f2, f3, f4, f5⟩ := hf it (by simp)
    have hl := rv.length
    exact wpAny_pyNext_list_end (I.ok.hd hc) st p.isList (by simp; omega) fun h' eb => ⟨rfl, I.turned (t' := s.toks) (fun b o hb e => eb b o hb e) f0 f1 f3 f4 f5⟩
  self := fun _ _ _ _ _ st h => wpAny_pyIter_listiter st h
theorem turn_tuple {P : Program} {w : World} {K : PySem.W.Frag} {tg : Expr} (a it : Addr) : Turn P w K tg (Itt K a) [it] it (fun i h => h.IsTupleIter it a i) where
  mem := by simp
  obj := fun i h st b hb => by
    have e : b = it := by simpa using hb
    subst e
    obtain ⟨o, e, c, d⟩ := st
    exact ⟨o, e, fun v z => by rw [d] at z; cases z⟩
  keep := fun i h h' st k => st.at fun o e => k it (by simp) o e
  item := by
    intro X hP hw hK hc i pins s σ H E I hf st hg
    subst hP hw hK
    obtain ⟨xs, x, hq, hx⟩ := hg
    obtain ⟨its, rv, p, hz⟩ := I.tuple hq
    obtain ⟨u, hu, ru⟩ := rv.get hx
    obtain ⟨f0, f1, f2, f3, f4, f5⟩ := hf it (by simp)
    refine wpAny_pyNext_tuple_item st (show s.heap.IsTuple a its.toArray from p) (x := u) (by simpa using hu) fun h' st' sb => ?_
    have I1 : Inv X pins σ H { s with heap := h' } := I.turned (t' := s.toks) (fun b o hb e => (sb.2 b hb).trans e) f0 f1 f3 f4 f5
    obtain ⟨o, e, c, d⟩ := id st'
    exact ⟨u, rfl, go_of (s := { s with heap := h' }) e c d (by decide) ⟨x, H, I1, ru, ⟨rfl, fun ys hy => by rw [I.tuple_inj hy hq]; exact hx⟩, st', fun b hb => (hf b hb).1⟩⟩
  done := by
    intro X hP hw hK hc i pins s σ H E I hf st hg
    subst hP hw hK
    obtain ⟨xs, hq, hx⟩ := hg
    obtain ⟨its, rv, p, hz⟩ := I.tuple hq
    obtain ⟨f0, f1, f2, f3, f4, f5⟩ := hf it (by simp)
    have hl := rv.length
    exact wpAny_pyNext_tuple_end (I.ok.hd hc) st (show s.heap.IsTuple a its.toArray from p) (by simp; omega) fun h' eb => ⟨rfl, I.turned (t' := s.toks) (fun b o hb e => eb b o hb e) f0 f1 f3 f4 f5⟩
  self := fun _ _ _ _ _ st h => wpAny_pyIter_tupleiter st h
theorem turn_range {P : Program} {w : World} {K : PySem.W.Frag} {tg : Expr} (it : Addr) (lo : Int) (n : Nat) : Turn P w K tg (Itr lo n) [it] it (fun i h => IsRangeIter h it (lo + (i : Nat) * 1) ((n : Int) - (i : Nat)) 1) where
  mem := by simp
  obj := fun i h st b hb => by
    have e : b = it := by simpa using hb
    subst e
    exact ⟨_, st, fun v z => by
      have z' : Data.fields _ = Data.cell v := z
      cases z'⟩
  keep := fun i h h' st k => k it (by simp) _ st
  item := by
    intro X hP hw hK hc i pins s σ H E I hf st hg
    subst hP hw hK
    obtain ⟨f0, f1, f2, f3, f4, f5⟩ := hf it (by simp)
    have W := Walks.range (prog := X.prog) (w := X.w) (I.ok.hd hc) it lo 1 n
    refine W.item i s _ _ hg st fun v h' tk hv st' kk => ?_
    obtain ⟨t, rfl⟩ := hv
    have I1 : Inv X pins σ H { s with heap := h', toks := tk } := I.turned (fun b o hb e => kk b o (by simpa using hb) e) f0 f1 f3 f4 f5
    refine ⟨_, rfl, go_of (s := { s with heap := h', toks := tk }) (n := "range_iterator") st' rfl rfl (by decide) ⟨.int (lo + i), H, I1, ⟨t, ?_⟩, ⟨rfl, rfl⟩, st', fun b hb => (hf b hb).1⟩⟩
    rw [Int.mul_one]
  done := by
    intro X hP hw hK hc i pins s σ H E I hf st hg
    subst hP hw hK
    obtain ⟨f0, f1, f2, f3, f4, f5⟩ := hf it (by simp)
    exact wpAny_pyNext_range_end (I.ok.hd hc) st (by have : n ≤ i := hg; omega) fun h' eb => ⟨rfl, I.turned (t' := s.toks) (fun b o hb e => eb b o hb e) f0 f1 f3 f4 f5⟩
  self := fun _ _ _ _ _ st h => wpAny_pyIter_rangeiter st h
end L2

namespace L2
open PySem PySem.Spec PyProof.Rows
section
variable {X : Cx} {tg : Expr}
def iList (K : PySem.W.Frag) (tl : TE) : TI := fun σ H R => tl σ H fun x H1 => ∃ a, x = .ref a ∧ (∃ xs, SqL K H1 a xs) ∧ R (Itl K a) H1
def iTup (K : PySem.W.Frag) (tl : TE) : TI := fun σ H R => tl σ H fun x H1 => ∃ a, x = .ref a ∧ (∃ xs, SqT K H1 a xs) ∧ R (Itt K a) H1
theorem pi_list {l : Expr} {tl : TE} (hl : PE X l tl) : PI X tg l (iList X.K tl) := by
  intro pins s σ H R I h
  refine thn (hl pins s σ H _ I h) fun v s1 ⟨x, H1, I1, r1, q1⟩ => ?_
  obtain ⟨a, e, ⟨xs, hq⟩, q⟩ := q1
  subst e
  cases r1
  obtain ⟨its, rv, p, hz⟩ := I1.list hq
  refine wpAny_pyIter_list p.isList ?_
  refine ⟨s1.heap.objs.size, [s1.heap.objs.size], _, _, H1, rfl, I1.kept (t' := s1.toks) fun b o e => Heap.get?_push_of_some _ e, turn_list a _, ⟨_, Heap.get?_push_size _ rfl, rfl, rfl⟩, fun b hb => ?_, q⟩
  have e : b = s1.heap.objs.size := by simpa using hb
  subst e
  exact I1.fpOk (Nat.le_refl _) (I1.hok.fresh (Nat.le_refl _))
theorem pi_tup {l : Expr} {tl : TE} (hl : PE X l tl) : PI X tg l (iTup X.K tl) := by
  intro pins s σ H R I h
  refine thn (hl pins s σ H _ I h) fun v s1 ⟨x, H1, I1, r1, q1⟩ => ?_
  obtain ⟨a, e, ⟨xs, hq⟩, q⟩ := q1
  subst e
  cases r1
  obtain ⟨its, rv, p, hz⟩ := I1.tuple hq
  refine wpAny_pyIter_tuple (show s1.heap.IsTuple a its.toArray from p) ?_
  refine ⟨s1.heap.objs.size, [s1.heap.objs.size], _, _, H1, rfl, I1.kept (t' := s1.toks) fun b o e => Heap.get?_push_of_some _ e, turn_tuple a _, ⟨_, Heap.get?_push_size _ rfl, rfl, rfl⟩, fun b hb => ?_, q⟩
  have e : b = s1.heap.objs.size := by simpa using hb
  subst e
  exact I1.fpOk (Nat.le_refl _) (I1.hok.fresh (Nat.le_refl _))

theorem range_it {pins : List (Addr × Obj)} {σ : St} {H : Hp} {s : Shared} {R : It → Hp → Prop} {E : Value → Shared → Prop} {lo hi : Int} {t u v : Tok} {tk : Nat} (I : Inv X pins σ H s) (h1 : -(2 ^ 62) ≤ lo) (h2 : lo < 2 ^ 62) (h3 : -(2 ^ 62) ≤ hi) (h4 : hi < 2 ^ 62)
    (q : R (Itr lo (hi - lo).toNat) H) : wpAny (model X.prog X.w) X.A (pyIter (.ref s.heap.objs.size)) (PIE X pins σ tg R) E { s with heap := s.heap.push { cls := .type "range", data := .fields #[.int lo t, .int hi u, .int 1 v] }, toks := tk } := by
  refine wpAny_pyIter_range (IsRange.new ..) (small_one h1 h2 h3 h4) ?_
  have I1 : Inv X pins σ H { s with heap := s.heap.push { cls := .type "range", data := .fields #[.int lo t, .int hi u, .int 1 v] }, toks := tk } := I.kept fun b o e => Heap.get?_push_of_some _ e
  refine ⟨(s.heap.push { cls := .type "range", data := .fields #[.int lo t, .int hi u, .int 1 v] }).objs.size, [(s.heap.push { cls := .type "range", data := .fields #[.int lo t, .int hi u, .int 1 v] }).objs.size], _, _, H, rfl,
    I1.kept (t' := tk) fun b o e => Heap.get?_push_of_some _ e, turn_range _ lo (hi - lo).toNat, ?_, fun b hb => ?_, q⟩
  · have e1 : lo + ((0 : Nat) : Int) * 1 = lo := by simp
    have e2 : (((hi - lo).toNat : Nat) : Int) - ((0 : Nat) : Int) = Builtin.Range.rangeSize lo hi 1 := by rw [rangeSize_one]; split <;> omega
    show IsRangeIter _ _ (lo + ((0 : Nat) : Int) * 1) ((((hi - lo).toNat : Nat) : Int) - ((0 : Nat) : Int)) 1
    rw [e1, e2]
    exact Heap.get?_push_size _ rfl
  · have e : b = (s.heap.push { cls := .type "range", data := .fields #[.int lo t, .int hi u, .int 1 v] }).objs.size := by simpa using hb
    subst e
    exact I1.fpOk (Nat.le_refl _) (I1.hok.fresh (Nat.le_refl _))
def iRng1 (ta : TA) : TI := fun σ H R => ta σ H fun vs H1 => ∃ j : Int, vs = [.int j] ∧ -(2 ^ 62) ≤ j ∧ j < 2 ^ 62 ∧ R (Itr 0 j.toNat) H1
def iRng2 (ta : TA) : TI := fun σ H R => ta σ H fun vs H1 => ∃ i j : Int, vs = [.int i, .int j] ∧ (-(2 ^ 62) ≤ i ∧ i < 2 ^ 62 ∧ -(2 ^ 62) ≤ j ∧ j < 2 ^ 62) ∧ R (Itr i (j - i).toNat) H1
theorem pi_range1 {a : Expr} {ta : TA} {p pos : Pos} (hg : Gl X "range") (hm : X.mg "range" = none) (ha : PA X [a] ta) (hs : starEach [a] X.env = [(false, eval a X.env)] := by rfl) : PI X tg (.Call (.Name "range" p) [a] [] pos) (iRng1 ta) := by
  intro pins s σ H R I h
  refine Call_ (ld_blt I hg hm boot_range (PyProof.Rows.callWith_type1 (thn (ha pos pins s σ H _ I h) fun us s1 ⟨vs, H1, I1, r1, q1⟩ => ?_) hs rfl))
  obtain ⟨j, e, q1, q2, q⟩ := q1
  subst e
  cases r1 with
  | cons r rr =>
    cases rr
    obtain ⟨t, rfl⟩ := r
    exact call_range_1 (range_it I1 (by omega) (by omega) q1 q2 (by simpa using q))
theorem pi_range2 {a b : Expr} {ta : TA} {p pos : Pos} (hg : Gl X "range") (hm : X.mg "range" = none) (ha : PA X [a, b] ta) (hs : starEach [a, b] X.env = [(false, eval a X.env), (false, eval b X.env)] := by rfl) (hs2 : starEach [b] X.env = [(false, eval b X.env)] := by rfl) :
    PI X tg (.Call (.Name "range" p) [a, b] [] pos) (iRng2 ta) := by
  intro pins s σ H R I h
  refine Call_ (ld_blt I hg hm boot_range (PyProof.Rows.callWith_type1 (thn (ha pos pins s σ H _ I h) fun us s1 ⟨vs, H1, I1, r1, q1⟩ => ?_) (by rw [hs, hs2]) (by rw [hs2]; rfl)))
  obtain ⟨i, j, e, ⟨q1, q2, q3, q4⟩, q⟩ := q1
  subst e
  cases r1 with
  | cons r rr =>
    cases rr with
    | cons r' rr =>
      cases rr
      obtain ⟨t, rfl⟩ := r
      obtain ⟨t', rfl⟩ := r'
      exact call_range_2 (range_it I1 q1 q2 q3 q4 q)



def tFor (wi : TI) (g : TG) (tb : TS) : TS := fun D σ H => wi σ H fun J H1 => ∃ W : Nat → Nat → St → Hp → Prop, (∃ m, W 0 m σ H1) ∧ ∀ i m σ H, W i m σ H →
  (J.stop i H ∧ D.nx σ H) ∨ (J.go i H ∧ ∃ N : St → Hp → Prop, (∀ σ' H', N σ' H' → ∃ m', m' < m ∧ W (i + 1) m' σ' H') ∧ ∀ x H', J.yld i H x H' → g x σ H' fun σ2 H2 => tb { D with nx := N, ct := N, bk := D.nx } σ2 H2)

def pinsAt (fp : List Addr) (h : Heap) : List (Addr × Obj) := fp.filterMap fun b => (h.get? b).map fun o => (b, o)
theorem mem_pinsAt {fp : List Addr} {h : Heap} {b : Addr} {o : Obj} (hb : b ∈ fp) (e : h.get? b = some o) : (b, o) ∈ pinsAt fp h := List.mem_filterMap.mpr ⟨b, hb, by rw [e]; rfl⟩
theorem of_pinsAt {fp : List Addr} {h : Heap} {p : Addr × Obj} (hp : p ∈ pinsAt fp h) : p.1 ∈ fp ∧ h.get? p.1 = some p.2 := by
  obtain ⟨b, hb, e⟩ := List.mem_filterMap.mp hp
  cases q : h.get? b with
  | none => rw [q] at e; cases e
  | some o =>
    rw [q] at e
    have e' : (b, o) = p := Option.some.inj e
    subst e'
    exact ⟨hb, q⟩
theorem Inv.pinned {pins : List (Addr × Obj)} {σ : St} {H : Hp} {s : Shared} {fp : List Addr} (I : Inv X pins σ H s) (hf : ∀ b ∈ fp, FpOk X pins H b) (ho : ∀ b ∈ fp, ∃ o, s.heap.get? b = some o ∧ ∀ v, o.data ≠ .cell v) : Inv X (pins ++ pinsAt fp s.heap) σ H s :=
  I.pins_of fun p hp => (List.mem_append.mp hp).elim (fun z => I.pin p (List.mem_append_right _ z)) fun z => by
    obtain ⟨hb, e⟩ := of_pinsAt z
    obtain ⟨f0, f1, f2, _⟩ := hf p.1 hb
    obtain ⟨o, e', d⟩ := ho p.1 hb
    rw [e] at e'; cases e'
    exact ⟨e, f0, f1, f2, d⟩
theorem Inv.unpinned {pins pl : List (Addr × Obj)} {σ : St} {H : Hp} {s : Shared} (I : Inv X (pins ++ pl) σ H s) : Inv X pins σ H s := I.pins_of fun p hp => I.pin p (List.mem_append_right _ (List.mem_append_left _ hp))
theorem ps_for {iter : Expr} {body : List Stmt} {wi : TI} {g : TG} {tb : TS} {pos : Pos} (hp : PassesOwn (model X.prog X.w) X.A X.env X.xe) (hc : X.calm = true) (hi : PI X tg iter wi) (hg : PG X tg g) (hb : PSs X body tb)
    (hs : ∀ x, foldedSetIterable iter X.env x = pure x := by intro _; rfl) : PS X (.For tg iter body [] pos) (tFor wi g tb) := by
  intro pins s σ H D I h
  refine wpAny_For (thn (hi pins s σ H _ I h) fun v s1 h1 => thn h1 fun itv s2 h2 => ?_) hs
  obtain ⟨it, fp, tn, J, H2, e, I2, T, st2, f2, W, ⟨m0, w0⟩, turn⟩ := h2
  subst e
  -- what stays true of the iterator's objects through the loop
  have stat : ∀ {H' : Hp}, (∀ b ∈ fp, H' b = none) → ∀ b ∈ fp, FpOk X pins H' b := fun hn b hb => ⟨hn b hb, (f2 b hb).2⟩
  refine codeAny_forLoop_any (fun n s' => ∃ i σ' H', Inv X pins σ' H' s' ∧ tn i s'.heap ∧ (∀ b ∈ fp, H' b = none) ∧ W i n σ' H') ?_ m0 ⟨0, σ, H2, I2, st2, fun b hb => (f2 b hb).1, w0⟩
  rintro n s3 ⟨i, σ3, H3, I3, st3, fr3, w3⟩
  rcases turn i n σ3 H3 w3 with ⟨stop, qn⟩ | ⟨go, N, hN, step⟩
  · refine wpAny_passesOwn hp (thn (T.done X rfl rfl rfl hc i pins s3 σ3 H3 X.xe I3 (stat fr3) st3 stop) fun r s4 ⟨hr, I4⟩ => ?_)
    subst hr
    exact wpAny_execs_nil ⟨σ3, H3, I4, qn⟩
  · refine wpAny_passesOwn hp (thn (T.item X rfl rfl rfl hc i pins s3 σ3 H3 X.xe I3 (stat fr3) st3 go) fun r s4 ⟨u, hr, h4⟩ => ?_)
    subst hr
    refine wpAny_passesOwn hp (thn h4 fun _ s5 ⟨x, H5, I5, r5, y5, st5, fr5⟩ => ?_)
    have I5' := I5.pinned (stat fr5) (T.obj _ _ st5)
    refine wpAny_passesOwn hp (thn (hg _ s5 σ3 H5 x u _ I5' r5 (step x H5 y5)) fun _ s6 ⟨σ6, H6, I6, q6⟩ => ?_)
    refine wpAny_passesOwn hp (thn (hb _ s6 σ6 H6 _ I6 q6) fun f s7 q7 => ?_)
    have again : ∀ {σ7 : St} {H7 : Hp}, Inv X (pins ++ pinsAt fp s5.heap) σ7 H7 s7 → N σ7 H7 → ∃ m, m < n ∧ ∃ i σ' H', Inv X pins σ' H' s7 ∧ tn i s7.heap ∧ (∀ b ∈ fp, H' b = none) ∧ W i m σ' H' := fun {σ7 H7} I7 n7 => by
      obtain ⟨m', hm, w7⟩ := hN σ7 H7 n7
      refine ⟨m', hm, i + 1, σ7, H7, I7.unpinned, T.keep _ _ _ st5 fun b hb o e => (I7.pin (b, o) (List.mem_append_right _ (List.mem_append_right _ (mem_pinsAt hb e)))).1, fun b hb => ?_, w7⟩
      obtain ⟨o, e, d⟩ := T.obj _ _ st5 b hb
      exact (I7.pin (b, o) (List.mem_append_right _ (List.mem_append_right _ (mem_pinsAt hb e)))).2.1
    cases f with
    | next => obtain ⟨σ7, H7, I7, n7⟩ := q7; exact again I7 n7
    | cont => obtain ⟨σ7, H7, I7, n7⟩ := q7; exact again I7 n7
    | brk => obtain ⟨σ7, H7, I7, q7⟩ := q7; exact ⟨σ7, H7, I7.unpinned, q7⟩
    | ret v => obtain ⟨x7, σ7, H7, I7, r7, q7⟩ := q7; exact ⟨x7, σ7, H7, I7.unpinned, r7, q7⟩
end



theorem for_list {K : PySem.W.Frag} {a : Addr} {xs : List V} {g : TG} {tb : TS} {D : Ends} {σ : St} {H : Hp} (Pv : Nat → St → Hp → Prop) (h0 : Pv 0 σ H) (hl : ∀ i σ H, i ≤ xs.length → Pv i σ H → SqL K H a xs)
    (hs : ∀ i x σ H, xs[i]? = some x → Pv i σ H → g x σ H fun σ2 H2 => tb { D with nx := Pv (i + 1), ct := Pv (i + 1), bk := D.nx } σ2 H2) (hd : ∀ σ H, Pv xs.length σ H → D.nx σ H) :
    ∃ W : Nat → Nat → St → Hp → Prop, (∃ m, W 0 m σ H) ∧ ∀ i m σ H, W i m σ H →
      ((Itl K a).stop i H ∧ D.nx σ H) ∨ ((Itl K a).go i H ∧ ∃ N : St → Hp → Prop, (∀ σ' H', N σ' H' → ∃ m', m' < m ∧ W (i + 1) m' σ' H') ∧ ∀ x H', (Itl K a).yld i H x H' → g x σ H' fun σ2 H2 => tb { D with nx := N, ct := N, bk := D.nx } σ2 H2) := by
  refine ⟨fun i m σ H => m = xs.length - i ∧ i ≤ xs.length ∧ Pv i σ H, ⟨xs.length, by simp, Nat.zero_le _, h0⟩, ?_⟩
  rintro i m σ H ⟨rfl, hi, p⟩
  have q := hl i σ H hi p
  by_cases hlt : i < xs.length
  · refine .inr ⟨⟨xs, xs[i], q, by simp [hlt]⟩, Pv (i + 1), fun σ' H' p' => ⟨xs.length - (i + 1), by omega, rfl, hlt, p'⟩, fun x H' y => ?_⟩
    obtain ⟨e, y⟩ := y
    subst e
    exact hs i x σ _ (y xs q) p
  · have e : i = xs.length := by omega
    subst e
    exact .inl ⟨⟨xs, q, Nat.le_refl _⟩, hd σ H p⟩
theorem for_tup {K : PySem.W.Frag} {a : Addr} {xs : List V} {g : TG} {tb : TS} {D : Ends} {σ : St} {H : Hp} (Pv : Nat → St → Hp → Prop) (h0 : Pv 0 σ H) (hl : ∀ i σ H, i ≤ xs.length → Pv i σ H → SqT K H a xs)
    (hs : ∀ i x σ H, xs[i]? = some x → Pv i σ H → g x σ H fun σ2 H2 => tb { D with nx := Pv (i + 1), ct := Pv (i + 1), bk := D.nx } σ2 H2) (hd : ∀ σ H, Pv xs.length σ H → D.nx σ H) :
    ∃ W : Nat → Nat → St → Hp → Prop, (∃ m, W 0 m σ H) ∧ ∀ i m σ H, W i m σ H →
      ((Itt K a).stop i H ∧ D.nx σ H) ∨ ((Itt K a).go i H ∧ ∃ N : St → Hp → Prop, (∀ σ' H', N σ' H' → ∃ m', m' < m ∧ W (i + 1) m' σ' H') ∧ ∀ x H', (Itt K a).yld i H x H' → g x σ H' fun σ2 H2 => tb { D with nx := N, ct := N, bk := D.nx } σ2 H2) := by
  refine ⟨fun i m σ H => m = xs.length - i ∧ i ≤ xs.length ∧ Pv i σ H, ⟨xs.length, by simp, Nat.zero_le _, h0⟩, ?_⟩
  rintro i m σ H ⟨rfl, hi, p⟩
  have q := hl i σ H hi p
  by_cases hlt : i < xs.length
  · refine .inr ⟨⟨xs, xs[i], q, by simp [hlt]⟩, Pv (i + 1), fun σ' H' p' => ⟨xs.length - (i + 1), by omega, rfl, hlt, p'⟩, fun x H' y => ?_⟩
    obtain ⟨e, y⟩ := y
    subst e
    exact hs i x σ _ (y xs q) p
  · have e : i = xs.length := by omega
    subst e
    exact .inl ⟨⟨xs, q, Nat.le_refl _⟩, hd σ H p⟩
theorem for_range {lo : Int} {n : Nat} {g : TG} {tb : TS} {D : Ends} {σ : St} {H : Hp} (Pv : Nat → St → Hp → Prop) (h0 : Pv 0 σ H)
    (hs : ∀ i σ H, i < n → Pv i σ H → g (.int (lo + i)) σ H fun σ2 H2 => tb { D with nx := Pv (i + 1), ct := Pv (i + 1), bk := D.nx } σ2 H2) (hd : ∀ σ H, Pv n σ H → D.nx σ H) :
    ∃ W : Nat → Nat → St → Hp → Prop, (∃ m, W 0 m σ H) ∧ ∀ i m σ H, W i m σ H →
      ((Itr lo n).stop i H ∧ D.nx σ H) ∨ ((Itr lo n).go i H ∧ ∃ N : St → Hp → Prop, (∀ σ' H', N σ' H' → ∃ m', m' < m ∧ W (i + 1) m' σ' H') ∧ ∀ x H', (Itr lo n).yld i H x H' → g x σ H' fun σ2 H2 => tb { D with nx := N, ct := N, bk := D.nx } σ2 H2) := by
  refine ⟨fun i m σ H => m = n - i ∧ i ≤ n ∧ Pv i σ H, ⟨n, by simp, Nat.zero_le _, h0⟩, ?_⟩
  rintro i m σ H ⟨rfl, hi, p⟩
  by_cases hlt : i < n
  · refine .inr ⟨hlt, Pv (i + 1), fun σ' H' p' => ⟨n - (i + 1), by omega, rfl, hlt, p'⟩, fun x H' y => ?_⟩
    obtain ⟨e, y⟩ := y
    subst e y
    exact hs i σ _ hlt p
  · have e : i = n := by omega
    subst e
    exact .inl ⟨Nat.le_refl _, hd σ H p⟩

end L2

namespace L2
open PySem PySem.Spec PyProof.Rows

abbrev R2 := V → V → Hp → VK → Prop

def OpR (X : Cx) (f : Value → Value → Sem Value) (r : R2) : Prop :=
  ∀ (pins : List (Addr × Obj)) (s : Shared) (σ : St) (H : Hp) (x y : V) (v u : Value) (Q : VK), Inv X pins σ H s → RelV x v → RelV y u → r x y H Q →
    wpAny (model X.prog X.w) X.A (f v u) (EP X pins σ Q) X.xe s

def UnR (X : Cx) (f : Value → Sem Value) (r : V → Hp → VK → Prop) : Prop :=
  ∀ (pins : List (Addr × Obj)) (s : Shared) (σ : St) (H : Hp) (x : V) (v : Value) (Q : VK), Inv X pins σ H s → RelV x v → r x H Q →
    wpAny (model X.prog X.w) X.A (f v) (EP X pins σ Q) X.xe s

def CallR (X : Cx) (f : Value) (r : List V → Hp → VK → Prop) : Prop :=
  ∀ (pins : List (Addr × Obj)) (s : Shared) (σ : St) (H : Hp) (xs : List V) (us : List Value) (Q : VK), Inv X pins σ H s → Vals xs us → r xs H Q →
    wpAny (model X.prog X.w) X.A (call f us) (EP X pins σ Q) X.xe s

def TruR (X : Cx) (r : V → Hp → (Bool → Hp → Prop) → Prop) : Prop :=
  ∀ (pins : List (Addr × Obj)) (s : Shared) (σ : St) (H : Hp) (x : V) (v : Value) (Q : Bool → Hp → Prop), Inv X pins σ H s → RelV x v → r x H Q →
    wpAny (model X.prog X.w) X.A (truthy v) (TP X pins σ Q) X.xe s

def tOp (r : R2) (ta tb : TE) : TE := fun σ H Q => ta σ H fun x H1 => tb σ H1 fun y H2 => r x y H2 Q
def tUn (r : V → Hp → VK → Prop) (ta : TE) : TE := fun σ H Q => ta σ H fun x H1 => r x H1 Q

def rI (C : Int → Int → Prop) (g : Int → Int → V) : R2 := fun x y H Q => ∃ i j, x = .int i ∧ y = .int j ∧ C i j ∧ Q (g i j) H
def rI0 (g : Int → Int → V) : R2 := fun x y H Q => ∃ i j, x = .int i ∧ y = .int j ∧ Q (g i j) H
def rU (g : Int → V) : V → Hp → VK → Prop := fun x H Q => ∃ i, x = .int i ∧ Q (g i) H

section
variable {X : Cx} {a b c : Expr} {ta tb tc : TE} {pos : Pos}

theorem binT (ha : PE X a ta) (hb : PE X b tb) {pins : List (Addr × Obj)} {s : Shared} {σ : St} {H : Hp} {R : V → V → Hp → Prop} (I : Inv X pins σ H s)
    (h : ta σ H fun x H1 => tb σ H1 fun y H2 => R x y H2) {Q : Value → Shared → Prop} {f : Value → Value → Sem Value}
    (hf : ∀ v u s2 x y H2, Inv X pins σ H2 s2 → RelV x v → RelV y u → R x y H2 → wpAny (model X.prog X.w) X.A (f v u) Q X.xe s2) :
    wpAny (model X.prog X.w) X.A (eval a X.env) (fun v s₁ => wpAny (model X.prog X.w) X.A (eval b X.env) (fun u s₂ => wpAny (model X.prog X.w) X.A (f v u) Q X.xe s₂) X.xe s₁) X.xe s := by
  refine thn (ha pins s σ H _ I h) fun v s1 ⟨x, H1, I1, r1, q1⟩ => ?_
  refine thn (hb pins s1 σ H1 _ I1 q1) fun u s2 ⟨y, H2, I2, r2, q2⟩ => ?_
  exact hf v u s2 x y H2 I2 r1 r2 q2

theorem pe_op {op : Operator} {r : R2} (ho : OpR X (binaryOp op) r) (ha : PE X a ta) (hb : PE X b tb) : PE X (.BinOp a op b pos) (tOp r ta tb) := by
  intro pins s σ H Q I h
  exact wpAny_BinOp (binT ha hb I h fun v u s2 x y H2 I2 rx ry q => ho pins s2 σ H2 x y v u Q I2 rx ry q)
theorem pe_un {op : UnaryOp} {r : V → Hp → VK → Prop} (ho : UnR X (unaryOp op) r) (ha : PE X a ta) : PE X (.UnaryOp op a pos) (tUn r ta) := by
  intro pins s σ H Q I h
  exact UnaryOp_ (thn (ha pins s σ H _ I h) fun v s1 ⟨x, H1, I1, r1, q1⟩ => ho pins s1 σ H1 x v Q I1 r1 q1)

theorem opI {f : Value → Value → Sem Value} {C : Int → Int → Prop} {g : Int → Int → Int}
    (rule : ∀ (i j : Int) (t u : Tok) (s : Shared) (Q : Value → Shared → Prop) (E : Value → Shared → Prop), C i j → Q (.int (g i j) s.toks) { s with toks := s.toks + 1 } → wpAny (model X.prog X.w) X.A (f (.int i t) (.int j u)) Q E s) :
    OpR X f (rI C fun i j => .int (g i j)) := by
  intro pins s σ H x y v u Q I rx ry h
  obtain ⟨i, j, rfl, rfl, hc, q⟩ := h
  obtain ⟨t, rfl⟩ := rx
  obtain ⟨t', rfl⟩ := ry
  exact rule i j t t' s _ _ hc ⟨.int (g i j), H, I.tok _, ⟨_, rfl⟩, q⟩
theorem opI0 {f : Value → Value → Sem Value} {g : Int → Int → Int}
    (rule : ∀ (i j : Int) (t u : Tok) (s : Shared) (Q : Value → Shared → Prop) (E : Value → Shared → Prop), Q (.int (g i j) s.toks) { s with toks := s.toks + 1 } → wpAny (model X.prog X.w) X.A (f (.int i t) (.int j u)) Q E s) :
    OpR X f (rI0 fun i j => .int (g i j)) := by
  intro pins s σ H x y v u Q I rx ry h
  obtain ⟨i, j, rfl, rfl, q⟩ := h
  obtain ⟨t, rfl⟩ := rx
  obtain ⟨t', rfl⟩ := ry
  exact rule i j t t' s _ _ ⟨.int (g i j), H, I.tok _, ⟨_, rfl⟩, q⟩
theorem opB0 {f : Value → Value → Sem Value} {g : Int → Int → Bool}
    (rule : ∀ (i j : Int) (t u : Tok) (s : Shared) (Q : Value → Shared → Prop) (E : Value → Shared → Prop), Q (.bool (g i j)) s → wpAny (model X.prog X.w) X.A (f (.int i t) (.int j u)) Q E s) :
    OpR X f (rI0 fun i j => .bl (g i j)) := by
  intro pins s σ H x y v u Q I rx ry h
  obtain ⟨i, j, rfl, rfl, q⟩ := h
  obtain ⟨t, rfl⟩ := rx
  obtain ⟨t', rfl⟩ := ry
  exact rule i j t t' s _ _ ⟨.bl (g i j), H, I, rfl, q⟩

def CDiv (i j : Int) : Prop := 0 < j ∧ j < 1073741824
def CPow (i j : Int) : Prop := 0 ≤ j ∧ j ≤ 1000000 ∧ i.natAbs < 2 ^ 64
def CMul (i j : Int) : Prop := (-(2 ^ 64) < i ∧ i < 2 ^ 64) ∨ (-(2 ^ 64) < j ∧ j < 2 ^ 64)
theorem CMul.ok {i j : Int} (h : CMul i j) : IntMulOk i j := by
  rcases h with ⟨h1, h2⟩ | ⟨h1, h2⟩
  · exact .of_left (intBits_le_64 h1 h2)
  · exact .of_right (intBits_le_64 h1 h2)
theorem two_pow_nn (k : Nat) : (0 : Int) ≤ 2 ^ k := by
  rw [two_pow_cast]
  exact Int.natCast_nonneg _

theorem op_add : OpR X (binaryOp .Add) (rI0 fun i j => .int (i + j)) := opI0 fun _ _ _ _ _ _ _ q => add_int q
theorem op_sub : OpR X (binaryOp .Sub) (rI0 fun i j => .int (i - j)) := opI0 fun _ _ _ _ _ _ _ q => sub_int q
theorem op_mul : OpR X (binaryOp .Mult) (rI CMul fun i j => .int (i * j)) := opI fun _ _ _ _ _ _ _ hc q => mul_int q hc.ok

theorem op_fdiv : OpR X (binaryOp .FloorDiv) (rI CDiv fun i j => .int (i / j)) := opI fun i j _ _ _ _ _ hc q => by
  have h1 : (0 : Int) < j := hc.1
  have h2 : j < 1073741824 := hc.2
  exact floordiv_int (by omega) (by rw [Int.fdiv_eq_ediv_of_nonneg i (by omega)]; exact q) (.inl (PyProof.noPylong_small (by omega)))
theorem op_mod : OpR X (binaryOp .Mod) (rI (fun _ j => 0 < j) fun i j => .int (i % j)) := opI fun i j _ _ _ _ _ hc q => by
  have h1 : (0 : Int) < j := hc
  exact mod_int' (by omega) (by rw [Int.fmod_eq_emod_of_nonneg i (by omega)]; exact q)
theorem op_pow : OpR X (binaryOp .Pow) (rI CPow fun i j => .int (i ^ j.toNat)) := opI fun _ _ _ _ _ _ _ hc q => pow_int_small hc.1 hc.2.1 hc.2.2 q
theorem op_shl : OpR X (binaryOp .LShift) (rI CPow fun i j => .int (i * 2 ^ j.toNat)) := opI fun _ _ _ _ _ _ _ hc q => lshift_int_small hc.1 hc.2.1 hc.2.2 q
theorem op_shr : OpR X (binaryOp .RShift) (rI (fun _ j => 0 ≤ j) fun i j => .int (i / 2 ^ j.toNat)) := opI fun i j _ _ _ _ _ hc q =>
  rshift_int hc (by rw [Int.fdiv_eq_ediv_of_nonneg i (two_pow_nn _)]; exact q)
theorem op_and : OpR X (binaryOp .BitAnd) (rI0 fun i j => .int (Builtin.bitAnd i j)) := opI0 fun _ _ _ _ _ _ _ q => and_int q
theorem op_or : OpR X (binaryOp .BitOr) (rI0 fun i j => .int (Builtin.bitOr i j)) := opI0 fun _ _ _ _ _ _ _ q => or_int q
theorem unI {f : Value → Sem Value} {g : Int → Int}
    (rule : ∀ (i : Int) (t : Tok) (s : Shared) (Q : Value → Shared → Prop) (E : Value → Shared → Prop), Q (.int (g i) s.toks) { s with toks := s.toks + 1 } → wpAny (model X.prog X.w) X.A (f (.int i t)) Q E s) :
    UnR X f (rU fun i => .int (g i)) := by
  intro pins s σ H x v Q I rx h
  obtain ⟨i, rfl, q⟩ := h
  obtain ⟨t, rfl⟩ := rx
  exact rule i t s _ _ ⟨.int (g i), H, I.tok _, ⟨_, rfl⟩, q⟩
theorem un_neg : UnR X (unaryOp .USub) (rU fun i => .int (-i)) := unI fun _ _ _ _ _ q => neg_int q
theorem un_inv : UnR X (unaryOp .Invert) (rU fun i => .int (Builtin.bitNot i)) := unI fun _ _ _ _ _ q => invert_int q


end



def scal : V → V → Bool
  | .non, .non => true | .non, .int _ => true | .int _, .non => true | .non, .bl _ => true | .bl _, .non => true | .non, .str _ => true | .str _, .non => true
  | .int _, .int _ => true | .bl _, .bl _ => true | .str _, .str _ => true | .byt _, .byt _ => true
  | .int _, .str _ => true | .str _, .int _ => true | .bl _, .str _ => true | .str _, .bl _ => true
  | _, _ => false
def rEq : R2 := fun x y H Q => scal x y = true ∧ Q (.bl (decide (x = y))) H
def rNe : R2 := fun x y H Q => scal x y = true ∧ Q (.bl (!decide (x = y))) H

theorem dec_int {i j : Int} : decide (V.int i = V.int j) = (i == j) := by
  rw [Bool.eq_iff_iff]
  simp
theorem dec_bl {i j : Bool} : decide (V.bl i = V.bl j) = (i == j) := by
  rw [Bool.eq_iff_iff]
  simp
theorem dec_str {i j : Str} : decide (V.str i = V.str j) = (i == j) := by
  rw [Bool.eq_iff_iff]
  simp
theorem dec_byt {i j : Array UInt8} : decide (V.byt i = V.byt j) = (i.toList == j.toList) := by
  rw [Bool.eq_iff_iff]
  cases i
  cases j
  simp

section
variable {X : Cx} {a b c : Expr} {ta tb tc : TE} {pos : Pos}
theorem fin_bl {pins : List (Addr × Obj)} {σ : St} {H : Hp} {s : Shared} {Q : VK} {k k' : Bool} (I : Inv X pins σ H s) (q : Q (.bl k) H) (e : k = k') : EP X pins σ Q (.bool k') s := by
  subst e
  exact ⟨.bl k, H, I, rfl, q⟩
theorem op_eq : OpR X (compareOp .Eq) rEq := by
  intro pins s σ H x y v u Q I rx ry h
  obtain ⟨hs, q⟩ := h
  cases x with
  | non =>
    cases rx
    cases y with
    | non => cases ry; exact PySem.EqNone.eq_none_none (fin_bl I q (by simp))
    | bl j => cases ry; exact PySem.EqNone.eq_none_bool (fin_bl I q (by simp))
    | int j => obtain ⟨t', rfl⟩ := ry; exact PySem.EqNone.eq_none_int (fin_bl I q (by simp))
    | str j => obtain ⟨t', rfl⟩ := ry; exact PySem.EqNone.eq_none_str (fin_bl I q (by simp))
    | _ => exact absurd (show false = true from hs) Bool.false_ne_true
  | bl i =>
    cases rx
    cases y with
    | non => cases ry; exact PySem.EqNone.eq_bool_none (fin_bl I q (by simp))
    | bl j => cases ry; exact eq_bool (fin_bl I q dec_bl)
    | str j => obtain ⟨t', rfl⟩ := ry; exact PySem.EqMixed.eq_bool_str (fin_bl I q (by simp))
    | _ => exact absurd (show false = true from hs) Bool.false_ne_true
  | int i =>
    obtain ⟨t, rfl⟩ := rx
    cases y with
    | non => cases ry; exact PySem.EqNone.eq_int_none (fin_bl I q (by simp))
    | int j => obtain ⟨t', rfl⟩ := ry; exact eq_int (fin_bl I q dec_int)
    | str j => obtain ⟨t', rfl⟩ := ry; exact PySem.EqMixed.eq_int_str (fin_bl I q (by simp))
    | _ => exact absurd (show false = true from hs) Bool.false_ne_true
  | str i =>
    obtain ⟨t, rfl⟩ := rx
    cases y with
    | non => cases ry; exact PySem.EqNone.eq_str_none (fin_bl I q (by simp))
    | bl j => cases ry; exact PySem.EqMixed.eq_str_bool (fin_bl I q (by simp))
    | int j => obtain ⟨t', rfl⟩ := ry; exact PySem.EqMixed.eq_str_int (fin_bl I q (by simp))
    | str j => obtain ⟨t', rfl⟩ := ry; exact eq_str (fin_bl I q dec_str)
    | _ => exact absurd (show false = true from hs) Bool.false_ne_true
  | byt i =>
    obtain ⟨t, rfl⟩ := rx
    cases y with
    | byt j => obtain ⟨t', rfl⟩ := ry; exact PySem.W.eq_bytes (fin_bl I q dec_byt)
    | _ => exact absurd (show false = true from hs) Bool.false_ne_true
  | _ => cases y <;> exact absurd (show false = true from hs) Bool.false_ne_true
theorem op_ne : OpR X (compareOp .NotEq) rNe := by
  intro pins s σ H x y v u Q I rx ry h
  obtain ⟨hs, q⟩ := h
  cases x with
  | non =>
    cases rx
    cases y with
    | non => cases ry; exact PySem.EqNone.ne_none_none (fin_bl I q (by simp))
    | bl j => cases ry; exact PySem.EqNone.ne_none_bool (fin_bl I q (by simp))
    | int j => obtain ⟨t', rfl⟩ := ry; exact PySem.EqNone.ne_none_int (fin_bl I q (by simp))
    | str j => obtain ⟨t', rfl⟩ := ry; exact PySem.EqNone.ne_none_str (fin_bl I q (by simp))
    | _ => exact absurd (show false = true from hs) Bool.false_ne_true
  | bl i =>
    cases rx
    cases y with
    | non => cases ry; exact PySem.EqNone.ne_bool_none (fin_bl I q (by simp))
    | bl j => cases ry; exact ne_bool (fin_bl I q (congrArg not dec_bl))
    | str j => obtain ⟨t', rfl⟩ := ry; exact PySem.EqMixed.ne_bool_str (fin_bl I q (by simp))
    | _ => exact absurd (show false = true from hs) Bool.false_ne_true
  | int i =>
    obtain ⟨t, rfl⟩ := rx
    cases y with
    | non => cases ry; exact PySem.EqNone.ne_int_none (fin_bl I q (by simp))
    | int j => obtain ⟨t', rfl⟩ := ry; exact ne_int (fin_bl I q (congrArg not dec_int))
    | str j => obtain ⟨t', rfl⟩ := ry; exact PySem.EqMixed.ne_int_str (fin_bl I q (by simp))
    | _ => exact absurd (show false = true from hs) Bool.false_ne_true
  | str i =>
    obtain ⟨t, rfl⟩ := rx
    cases y with
    | non => cases ry; exact PySem.EqNone.ne_str_none (fin_bl I q (by simp))
    | bl j => cases ry; exact PySem.EqMixed.ne_str_bool (fin_bl I q (by simp))
    | int j => obtain ⟨t', rfl⟩ := ry; exact PySem.EqMixed.ne_str_int (fin_bl I q (by simp))
    | str j => obtain ⟨t', rfl⟩ := ry; exact ne_str (fin_bl I q (congrArg not dec_str))
    | _ => exact absurd (show false = true from hs) Bool.false_ne_true
  | byt i =>
    obtain ⟨t, rfl⟩ := rx
    cases y with
    | byt j => obtain ⟨t', rfl⟩ := ry; exact PySem.W.ne_bytes (fin_bl I q (congrArg not dec_byt))
    | _ => exact absurd (show false = true from hs) Bool.false_ne_true
  | _ => cases y <;> exact absurd (show false = true from hs) Bool.false_ne_true

theorem op_lt : OpR X (compareOp .Lt) (rI0 fun i j => .bl (decide (i < j))) := opB0 fun _ _ _ _ _ _ _ q => lt_int q
theorem op_le : OpR X (compareOp .LtE) (rI0 fun i j => .bl (decide (i ≤ j))) := opB0 fun _ _ _ _ _ _ _ q => le_int q
theorem op_gt : OpR X (compareOp .Gt) (rI0 fun i j => .bl (decide (j < i))) := opB0 fun _ _ _ _ _ _ _ q => gt_int q
theorem op_ge : OpR X (compareOp .GtE) (rI0 fun i j => .bl (decide (j ≤ i))) := opB0 fun _ _ _ _ _ _ _ q => ge_int q
theorem op_isN : OpR X (compareOp .Is) (fun x y H Q => y = .non ∧ Q (.bl (decide (x = .non))) H) := by
  intro pins s σ H x y v u Q I rx ry h
  obtain ⟨rfl, q⟩ := h
  cases ry
  refine is_none_gen (fin_bl I q ?_)
  cases x <;> first
    | (cases rx; rfl)
    | (obtain ⟨t, rfl⟩ := rx; rfl)
theorem op_notN : OpR X (compareOp .IsNot) (fun x y H Q => y = .non ∧ Q (.bl (!decide (x = .non))) H) := by
  intro pins s σ H x y v u Q I rx ry h
  obtain ⟨rfl, q⟩ := h
  cases ry
  refine isnot_none_gen (fin_bl I q ?_)
  cases x <;> first
    | (cases rx; rfl)
    | (obtain ⟨t, rfl⟩ := rx; rfl)

theorem nomark (b : Expr) {op : CmpOp} (h : op ≠ .In := by decide) (h2 : op ≠ .NotIn := by decide) : behindInMarks op b = false := by
  have e1 : (op == CmpOp.In) = false := by cases op <;> first | rfl | exact absurd rfl h
  have e2 : (op == CmpOp.NotIn) = false := by cases op <;> first | rfl | exact absurd rfl h2
  cases b <;> simp [behindInMarks, e1, e2]

theorem pe_cmpR {op : CmpOp} {r : R2} (ho : OpR X (compareOp op) r) (ha : PE X a ta) (hb : PE X b tb) (hm : behindInMarks op b = false) : PE X (.Compare a [op] [b] pos) (tOp r ta tb) := by
  intro pins s σ H Q I h
  exact wpAny_Compare1 (binT ha hb I h fun v u s2 x y H2 I2 rx ry q => ho pins s2 σ H2 x y v u Q I2 rx ry q) hm

def tTest (t : TE) : TT := fun σ H Q => t σ H fun x H' => ∃ k, x = .bl k ∧ Q k H'
theorem pt_cmpR {op : CmpOp} {r : R2} (ho : OpR X (compareOp op) r) (ha : PE X a ta) (hb : PE X b tb) (hm : behindInMarks op b = false) : PT X (.Compare a [op] [b] pos) (tTest (tOp r ta tb)) := by
  intro pins s σ H Q I h
  refine wpAny_isTrue_Compare1 (thn (ha pins s σ H _ I h) fun v s1 ⟨x, H1, I1, r1, q1⟩ => thn (hb pins s1 σ H1 _ I1 q1) fun u s2 ⟨y, H2, I2, r2, q2⟩ =>
    thn (ho pins s2 σ H2 x y v u _ I2 r1 r2 q2) fun c s3 ⟨z, H3, I3, r3, k, e, q3⟩ => ?_) hm
  subst e
  cases r3
  exact wpAny_truthy_bool ⟨H3, I3, q3⟩

def TruV (K : PySem.W.Frag) (x : V) (H : Hp) (k : Bool) : Prop :=
  match x with
  | .non => k = false
  | .bl b => k = b
  | .int i => k = (i != 0)
  | .str y => y.length ≤ sizeLine ∧ k = ((y.length : Int) != 0)
  | .byt y => y.size ≤ sizeLine ∧ k = ((y.size : Int) != 0)
  | .ref p => (∃ xs, SqL K H p xs ∧ k = !xs.isEmpty) ∨ (∃ xs, SqT K H p xs ∧ k = !xs.isEmpty) ∨ ∃ kvs, H p = some (.dK kvs) ∧ k = !kvs.isEmpty
  | _ => False
theorem isEmpty_kv {κ : Type} {kvs : List (κ × V)} {vs : List (κ × Value)} (r : KV kvs vs) : (!vs.isEmpty) = !kvs.isEmpty := by
  cases r <;> rfl
theorem isEmpty_of {xs : List V} {its : List Value} (r : Vals xs its) : (!its.toArray.isEmpty) = !xs.isEmpty := by
  cases r <;> simp
theorem line63 : (sizeLine : Nat) < 2 ^ 63 := by rw [sizeLine_eq]; decide
theorem tru_ok : TruR X (fun x H Q => ∃ k, TruV X.K x H k ∧ Q k H) := by
  intro pins s σ H x v Q I rx h
  obtain ⟨k, e, q⟩ := h
  have hl := line63
  have hs : sizeLine = 16777216 := sizeLine_eq
  cases x with
  | non =>
    cases rx
    have e' : k = false := e
    subst e'
    exact truthy_none ⟨H, I, q⟩
  | bl b =>
    cases rx
    have e' : k = b := e
    subst e'
    exact wpAny_truthy_bool ⟨H, I, q⟩
  | int i =>
    obtain ⟨t, rfl⟩ := rx
    have e' : k = (i != 0) := e
    subst e'
    exact PySem.P.truthy_int ⟨H, I, q⟩
  | str y =>
    obtain ⟨t, rfl⟩ := rx
    obtain ⟨hy, e'⟩ : y.length ≤ sizeLine ∧ k = ((y.length : Int) != 0) := e
    subst e'
    exact PySem.P.truthy_str (by omega) ⟨H, I.tok _, q⟩
  | byt y =>
    obtain ⟨t, rfl⟩ := rx
    obtain ⟨hy, e'⟩ : y.size ≤ sizeLine ∧ k = ((y.size : Int) != 0) := e
    subst e'
    exact PySem.W.truthy_bytes (by omega) ⟨H, I.tok _, q⟩
  | ref p =>
    cases rx
    have e' : (∃ xs, SqL X.K H p xs ∧ k = !xs.isEmpty) ∨ (∃ xs, SqT X.K H p xs ∧ k = !xs.isEmpty) ∨ ∃ kvs, H p = some (.dK kvs) ∧ k = !kvs.isEmpty := e
    rcases e' with ⟨xs, hx, e'⟩ | ⟨xs, hx, e'⟩ | ⟨kvs, hx, e'⟩
    · subst e'
      obtain ⟨its, r, pl, hz⟩ := I.list hx
      have hlen := r.length
      exact wpAny_truthy_list pl.isList (by simp only [List.size_toArray]; omega) ⟨H, I.tok _, by rw [isEmpty_of r]; exact q⟩
    · subst e'
      obtain ⟨its, r, pl, hz⟩ := I.tuple hx
      have hlen := r.length
      exact truthy_tuple pl (by simp only [List.size_toArray]; omega) ⟨H, I.tok _, by rw [isEmpty_of r]; exact q⟩
    · subst e'
      obtain ⟨hz, hS, vs, r, m⟩ : kvs.length ≤ sizeLine ∧ (p == sysModules) = false ∧ ∃ vs, KV kvs vs ∧ s.heap.DictOf (mixKind X.prog X.w) p vs := I.hok p _ hx
      have hlen : kvs.length = vs.length := Paired.length r
      exact wpAny_truthy_dict hS m (by omega) ⟨H, I.tok _, by rw [isEmpty_kv r]; exact q⟩
  | _ => exact (show False from e).elim

theorem pt_truth (ha : PE X a ta) (he : ∀ whole, isTrue a X.env whole = (do let v ← whole; standAt a.pos; holding [v] (truthy v))) :
    PT X a (fun σ H Q => ta σ H fun x H' => ∃ k, TruV X.K x H' k ∧ Q k H') := by
  intro pins s σ H Q I h
  exact isTrue_plain (thn (ha pins s σ H _ I h) fun v s1 ⟨x, H1, I1, r1, q1⟩ => tru_ok pins s1 σ H1 x v Q I1 r1 q1) (he _)


theorem vals1 {x : V} {us : List Value} (r : Vals [x] us) : ∃ u, us = [u] ∧ RelV x u := by
  cases r with
  | cons r1 r2 => cases r2; exact ⟨_, rfl, r1⟩
theorem vals2 {x y : V} {us : List Value} (r : Vals [x, y] us) : ∃ u w', us = [u, w'] ∧ RelV x u ∧ RelV y w' := by
  cases r with
  | cons r1 r2 =>
    cases r2 with
    | cons r3 r4 => cases r4; exact ⟨_, _, rfl, r1, r3⟩
theorem call_max2 (hc : X.calm = true) : CallR X (.builtin "max") (fun xs H Q => ∃ i j, xs = [.int i, .int j] ∧ Q (.int (if j > i then j else i)) H) := by
  intro pins s σ H xs us Q I r h
  obtain ⟨i, j, rfl, q⟩ := h
  obtain ⟨u, w', rfl, ⟨t, rfl⟩, ⟨t', rfl⟩⟩ := vals2 r
  refine max_two_ints (I.ok.hd hc) fun h' tk k => ⟨_, H, I.kept k, ?_, q⟩
  by_cases hj : j > i
  · rw [if_pos hj, if_pos hj]; exact ⟨_, rfl⟩
  · rw [if_neg hj, if_neg hj]; exact ⟨_, rfl⟩
end
end L2

namespace L2
open PySem PySem.Spec PyProof.Rows


structure ObjM (h : Heap) (x dx C : Addr) (mA : Str → Option Value) : Prop where
  obj : h.get? x = some (PySem.W.instObj C dx)
  ns : h.Ns1 dx mA
  ne : dx ≠ x

theorem lookIn_ns {h : Heap} {dx : Addr} {mA : Str → Option Value} (n : h.Ns1 dx mA) : ∃ od, h.get? dx = some od ∧ ∀ name, PySem.W.lookIn name od = some (mA name) := by
  obtain ⟨o, es, ep, ho, hd, hk, _, hm⟩ := n
  refine ⟨o, ho, fun name => ?_⟩
  have e := hm name
  unfold nsFind findBy at e
  rw [← Array.find?_toList] at e
  unfold PySem.W.lookIn
  rw [hd]
  dsimp only
  split
  · rename_i y q
    rw [q] at e
    exact congrArg some e
  · rename_i q
    rw [q] at e
    have a : es.toList.any (·.refKey) = false := by
      rw [List.any_eq_false]
      intro y hy
      obtain ⟨z, t, hkey⟩ := hk y (Array.mem_toList_iff.mp hy)
      simp [DictEntry.refKey, hkey]
    have a' : ¬ es.toList.any (·.refKey) = true := by rw [a]; exact Bool.false_ne_true
    rw [if_neg a']
    exact congrArg some e

theorem ObjM.look {h : Heap} {x dx C : Addr} {mA : Str → Option Value} (I : ObjM h x dx C mA) : ∃ od, PySem.W.InstAt h x (PySem.W.instObj C dx) C (some od) ∧ ∀ name, PySem.W.lookIn name od = some (mA name) :=
  let ⟨od, ho, hl⟩ := lookIn_ns I.ns
  ⟨od, ⟨I.obj, rfl, rfl, ho⟩, hl⟩

section
variable {prog : Program} {w : World} {A : Around} {E : Value → Shared → Prop} {s : Shared} {K : PySem.W.Frag} {x dx C f : Addr} {mA : Str → Option Value} {name : Str} {v : Value}

theorem get_map {expr : Bool} {Q : Value → Shared → Prop} (X : K.In s.heap) (I : ObjM s.heap x dx C mA) (hg : PySem.W.plainGet K C name = true) (hh : PySem.W.hasDictIn K C = true)
    (ha : PySem.W.findIn K (.ref C) name = some none) (hv : mA name = some v) (hv' : PySem.W.handedIn v = true) (h : Q v { s with toks := s.toks + 1 }) :
    wpAny (model prog w) A (getAttr (.ref x) name expr) Q E s := by
  obtain ⟨od, J, hl⟩ := I.look
  exact PySem.W.get_value X J (PySem.W.plainGet_of hg).1 (PySem.W.findObj_own hh ha rfl (by rw [hl, hv])) hv' h

theorem get_meth {pl : Sem Bool} {Q : Value × List Value → Shared → Prop} (X : K.In s.heap) (I : ObjM s.heap x dx C mA) (hg : PySem.W.plainGet K C name = true)
    (hf : PySem.W.findIn K (.ref C) name = some (some (.ref f))) (ht : PySem.W.isFn K (.ref f) = true) (hv : mA name = none) (h : Q (.ref f, [.ref x]) s) :
    wpAny (model prog w) A (getMethod (.ref x) name pl) Q E s := by
  obtain ⟨od, J, hl⟩ := I.look
  exact PySem.W.method_fn X J (PySem.W.plainGet_of hg).1 (PySem.W.plainGet_of hg).2 hf (beq_iff_eq.mp ht) (by show (PySem.W.lookIn name od).map (·.isSome) = some false; rw [hl, hv]; rfl) h

theorem set_map {ns : List Str} {Q : Unit → Shared → Prop} (X : K.In s.heap) (I : ObjM s.heap x dx C mA)
    (hs : PySem.W.findIn K (.ref C) "__setattr__" = some (some (.builtin "object.__setattr__"))) (hp : PySem.W.plainOver K C = true) (ht : PySem.W.takerIn K C name = some none) (hh : PySem.W.hasDictIn K C = true)
    (hw : PySem.Within mA ns) (hsz : ns.length ≤ sizeLine)
    (h : ∀ h', ObjM h' x dx C (fun y => if y = name then some v else mA y) → Heap.SameBut dx s.heap h' → Q () { s with heap := h', toks := s.toks + 2 }) :
    wpAny (model prog w) A (setAttr (.ref x) name v) Q E s := by
  obtain ⟨od, J, hl⟩ := I.look
  refine PySem.W.set_plain X J hs (PySem.W.osa_open (s := { s with toks := s.toks + 1 }) (r := none) X J hp ht fun b => ?_)
  obtain ⟨cd, hc, hd'⟩ := PySem.W.any_some hh
  have hx : s.heap.get? x = some ⟨.ref C, some dx, .plain, #[]⟩ := I.obj
  refine wpAny_bind (wpAny_pure (wpAny_bind (wpAny_bind (wpAny_loadPart hx (wpAny_bind (PySem.W.Looks.here (s := { s with toks := s.toks + 1 }) (PySem.W.looks_clsIn X hc) ?_))))))
  rw [hd']
  refine wpAny_pure (a := some dx) (wpAny_bind (wpAny_pure (wpAny_bind ?_)))
  refine wpAny_nsSet1 (s := { s with toks := s.toks + 1 }) I.ns fun h' hn2 hs2 => ?_
  obtain ⟨oD, esD, epD, hoD, hdD, hcD⟩ := hn2.count (PySem.Within.cons name v hw)
  refine wpAny_bind (wpAny_lookBehind hoD (by rw [hdD]; exact pastItsLine_dict (Nat.le_trans hcD (by rw [List.length_cons]; omega))) ?_)
  exact wpAny_pure (h _ ⟨(hs2.2 _ (Ne.symm I.ne)).trans I.obj, hn2, I.ne⟩ hs2)


theorem make_map {R : Result → Shared → Prop} {vs : List Value} {kw : List (Str × Value)} (X : K.In s.heap) (hm : PySem.W.makesIn K C = true)
    (hi : PySem.W.findIn K (.ref C) "__init__" = some (some (.ref f))) (hf : PySem.W.typeIn K (.ref f) = some (.type "function"))
    (h : codeAny (model prog w) (A.under (.builtin "type.__call__" ⟨.ref C :: vs, kw⟩)) (.call (.ref f) ⟨.ref (s.heap.objs.size + 1) :: vs, kw⟩) (PySem.W.InitBack (s.heap.objs.size + 1) R)
      { s with heap := (s.heap.push PySem.W.emptyDict).push (PySem.W.instObj C s.heap.objs.size) }) :
    codeAny (model prog w) A (.call (.ref C) ⟨vs, kw⟩) R s := by
  obtain ⟨hh, g, d, t, os⟩ := s
  exact PySem.W.make_core (PySem.W.makes_of X hm) (PySem.W.looks_findIn X hi) (fun self => PySem.W.bind_fn X self hf) (.inl rfl) h

end


def putF (f : Str) (v : V) : List (Str × V) → List (Str × V)
  | [] => [(f, v)]
  | (g, x) :: r => if g = f then (g, v) :: r else (g, x) :: putF f v r
theorem lookup_putF (f g : Str) (v : V) : ∀ fs : List (Str × V), (putF f v fs).lookup g = if g = f then some v else fs.lookup g
  | [] => by
    show List.lookup g [(f, v)] = _
    by_cases h : g = f
    · have hb : (g == f) = true := beq_iff_eq.mpr h
      simp only [List.lookup, hb, if_pos h]
    · have hb : (g == f) = false := beq_eq_false_iff_ne.mpr h
      simp only [List.lookup, hb, if_neg h]
  | (k, x) :: r => by
    have ih := lookup_putF f g v r
    rw [show putF f v ((k, x) :: r) = (if k = f then (k, v) :: r else (k, x) :: putF f v r) from rfl]
    by_cases hk : k = f
    · rw [if_pos hk]
      by_cases h : g = k
      · have hb : (g == k) = true := beq_iff_eq.mpr h
        simp only [List.lookup, hb, if_pos (h.trans hk)]
      · have hb : (g == k) = false := beq_eq_false_iff_ne.mpr h
        simp only [List.lookup, hb, if_neg (fun e : g = f => h (e.trans hk.symm))]
    · rw [if_neg hk]
      by_cases h : g = k
      · have hb : (g == k) = true := beq_iff_eq.mpr h
        simp only [List.lookup, hb, if_neg (fun e : g = f => hk (h.symm.trans e))]
      · have hb : (g == k) = false := beq_eq_false_iff_ne.mpr h
        simp only [List.lookup, hb]
        exact ih
theorem keys_putF (f : Str) (v : V) : ∀ fs : List (Str × V), f ∈ (putF f v fs).map (·.1) ∧ ∀ g, g ∈ fs.map (·.1) → g ∈ (putF f v fs).map (·.1)
  | [] => ⟨by simp [putF], fun g h => by simp at h⟩
  | (k, x) :: r => by
    obtain ⟨i1, i2⟩ := keys_putF f v r
    rw [show putF f v ((k, x) :: r) = (if k = f then (k, v) :: r else (k, x) :: putF f v r) from rfl]
    by_cases hk : k = f
    · rw [if_pos hk]
      subst hk
      exact ⟨by simp, fun g h => by simpa using h⟩
    · rw [if_neg hk]
      refine ⟨?_, fun g h => ?_⟩
      · rw [List.map_cons]
        exact List.mem_cons_of_mem _ i1
      · rw [List.map_cons] at h ⊢
        rcases List.mem_cons.mp h with e | e
        · exact List.mem_cons.mpr (.inl e)
        · exact List.mem_cons_of_mem _ (i2 g e)
theorem length_putF (f : Str) (v : V) : ∀ fs : List (Str × V), (putF f v fs).length ≤ fs.length + 1
  | [] => by simp [putF]
  | (k, x) :: r => by
    have ih := length_putF f v r
    rw [show putF f v ((k, x) :: r) = (if k = f then (k, v) :: r else (k, x) :: putF f v r) from rfl]
    by_cases hk : k = f
    · rw [if_pos hk, List.length_cons, List.length_cons]; omega
    · rw [if_neg hk, List.length_cons, List.length_cons]; omega

theorem RelO.some_of {v : V} {o : Option Value} (r : RelO (some v) o) : ∃ u, o = some u ∧ RelV v u := by
  cases o with
  | none => exact (show False from r).elim
  | some u => exact ⟨u, rfl, r⟩
theorem RelO.none_of {o : Option Value} (r : RelO none o) : o = none := by
  cases o with
  | none => rfl
  | some u => exact (show False from r).elim
theorem handed_of {v : V} {u : Value} (r : RelV v u) : PySem.W.handedIn u = true := by
  cases v with
  | non => cases (show u = Value.none from r); rfl
  | bl b => cases (show u = Value.bool b from r); rfl
  | int i => obtain ⟨t, e⟩ := (show ∃ t, u = Value.int i t from r); cases e; rfl
  | str x => obtain ⟨t, e⟩ := (show ∃ t, u = Value.str x t from r); cases e; rfl
  | byt b => obtain ⟨t, e⟩ := (show ∃ t, u = Value.bytes b t from r); cases e; rfl
  | flt b => obtain ⟨t, e⟩ := (show ∃ t, u = Value.float b t from r); cases e; rfl
  | ref a => cases (show u = Value.ref a from r); rfl
  | ty n => cases (show u = Value.type n from r); rfl

section
variable {P : Program} {w : World} {H H' : Hp} {h h' : Heap} {a C dx : Addr} {fs fs' : List (Str × V)}
theorem ins_get (hok : HOk P w H h) (e : H a = some (.ins C dx fs)) : ∃ mA, ObjM h a dx C mA ∧ (∀ f, RelO (fs.lookup f) (mA f)) ∧ PySem.Within mA (fs.map (·.1)) ∧ fs.length ≤ 1000 ∧ H dx = some (.own a) := by
  obtain ⟨d, z, ne, ob, mA, n, r, q⟩ := (show ObjOk P w H h a (.ins C dx fs) from hok a _ e)
  exact ⟨mA, ⟨ob, n, ne⟩, r, q, z, d⟩
end


structure Cls (K : PySem.W.Frag) (C : Addr) : Prop where
  pg : PySem.W.plainGet K C Str.empty = true
  hd : PySem.W.hasDictIn K C = true
  po : PySem.W.plainOver K C = true
  sa : PySem.W.findIn K (.ref C) "__setattr__" = some (some (.builtin "object.__setattr__"))
theorem Cls.get {K : PySem.W.Frag} {C : Addr} (c : Cls K C) (f : Str) : PySem.W.plainGet K C f = true := c.pg

def NoAttr (K : PySem.W.Frag) (C : Addr) (f : Str) : Prop := PySem.W.findIn K (.ref C) f = some none
theorem NoAttr.taker {K : PySem.W.Frag} {C : Addr} {f : Str} (n : NoAttr K C f) : PySem.W.takerIn K C f = some none := by
  unfold PySem.W.takerIn
  rw [show PySem.W.findIn K (.ref C) f = some none from n]
  rfl

structure Meth (K : PySem.W.Frag) (C : Addr) (m : Str) (f : Addr) : Prop where
  at_ : PySem.W.findIn K (.ref C) m = some (some (.ref f))
  fn : PySem.W.isFn K (.ref f) = true
  kp : PySem.W.keepIn K (.ref f) = true

section
variable {X : Cx} {pins : List (Addr × Obj)} {σ : St} {H : Hp} {s : Shared} {a C dx : Addr} {fs : List (Str × V)} {f : Str} {v : V} {A : Around} {E : Value → Shared → Prop}

theorem getattr_ok {b : Bool} {Q : Value → Shared → Prop} (I : Inv X pins σ H s) (e : H a = some (.ins C dx fs)) (c : Cls X.K C) (n : NoAttr X.K C f) (l : fs.lookup f = some v)
    (h : ∀ u s', Inv X pins σ H s' → RelV v u → Q u s') : wpAny (model X.prog X.w) A (getAttr (.ref a) f b) Q E s := by
  obtain ⟨mA, O, r, _, _, _⟩ := ins_get I.hok e
  obtain ⟨u, hu, ru⟩ := RelO.some_of (v := v) (o := mA f) (by rw [← l]; exact r f)
  exact get_map I.kIn O (c.get f) c.hd n hu (handed_of ru) (h u _ (I.tok _) ru)

theorem getmeth_ok {m : Str} {g : Addr} {pl : Sem Bool} {Q : Value × List Value → Shared → Prop} (I : Inv X pins σ H s) (e : H a = some (.ins C dx fs)) (c : Cls X.K C) (k : Meth X.K C m g) (l : fs.lookup m = none)
    (h : Q (.ref g, [.ref a]) s) : wpAny (model X.prog X.w) A (getMethod (.ref a) m pl) Q E s := by
  obtain ⟨mA, O, r, _, _, _⟩ := ins_get I.hok e
  have hn : mA m = none := RelO.none_of (by rw [← l]; exact r m)
  exact get_meth I.kIn O (c.get m) k.at_ k.fn hn h

theorem setattr_ok {y : V} {u : Value} {Q : Unit → Shared → Prop} (I : Inv X pins σ H s) (e : H a = some (.ins C dx fs)) (c : Cls X.K C) (n : NoAttr X.K C f) (hl : fs.length < 1000) (ry : RelV y u)
    (h : ∀ s', Inv X pins σ (upd H a (.ins C dx (putF f y fs))) s' → Q () s') : wpAny (model X.prog X.w) A (setAttr (.ref a) f u) Q E s := by
  obtain ⟨mA, O, r, wi, _, ho⟩ := ins_get I.hok e
  have hz : (fs.map (·.1)).length ≤ sizeLine := by rw [List.length_map, sizeLine_eq]; omega
  refine set_map I.kIn O c.sa c.po n.taker c.hd wi hz fun h' O' sb => h _ ?_
  have hd : ∃ o, h'.get? dx = some o := let ⟨o, _, _, e', _⟩ := O'.ns; ⟨o, e'⟩
  refine I.write (x := a) (e := dx) (by rw [e]; exact True.intro) (.inr ho) (fun b q hb z => (sb.2 b hb).trans z) hd ?_
  refine ⟨by rw [upd_ne O.ne]; exact ho, ?_, O.ne, O'.obj, _, O'.ns, fun g => ?_, fun g hg => ?_⟩
  · have := length_putF f y fs; omega
  · show RelO ((putF f y fs).lookup g) (if g = f then some u else mA g)
    rw [lookup_putF]
    by_cases q : g = f
    · rw [if_pos q, if_pos q]; exact ry
    · rw [if_neg q, if_neg q]; exact r g
  · by_cases q : g = f
    · rw [q]; exact (keys_putF f y fs).1
    · refine (keys_putF f y fs).2 g (wi g fun z => hg ?_)
      show (if g = f then some u else mA g) = none
      rw [if_neg q]; exact z


theorem Inv.made (I : Inv X pins σ H s) : Inv X pins σ (upd (upd H s.heap.objs.size (.own (s.heap.objs.size + 1))) (s.heap.objs.size + 1) (.ins C s.heap.objs.size []))
    { s with heap := (s.heap.push PySem.W.emptyDict).push (PySem.W.instObj C s.heap.objs.size) } := by
  have e1 : (s.heap.push PySem.W.emptyDict).get? s.heap.objs.size = some PySem.W.emptyDict := Heap.get?_push_size s.heap rfl
  have e2 : ((s.heap.push PySem.W.emptyDict).push (PySem.W.instObj C s.heap.objs.size)).get? (s.heap.objs.size + 1) = some (PySem.W.instObj C s.heap.objs.size) := by
    have := Heap.get?_push_size (s.heap.push PySem.W.emptyDict) (o := PySem.W.instObj C s.heap.objs.size) rfl
    rwa [Heap.size_push] at this
  have e3 : (s.heap.push PySem.W.emptyDict).Ns s.heap.objs.size (fun _ => none) := ⟨PySem.W.emptyDict, #[], _, e1, rfl, (fun e he => absurd he (by simp)), fun _ => rfl⟩
  have I1 := I.laid (a := s.heap.objs.size) (o := .own (s.heap.objs.size + 1)) (h' := s.heap.push PySem.W.emptyDict) (t' := s.toks) (fun b u q => Heap.get?_push_of_some _ q) (Nat.le_refl _) ⟨_, e1⟩
  refine I1.laid (a := s.heap.objs.size + 1) (o := .ins C s.heap.objs.size []) (t' := s.toks) (fun b u q => Heap.get?_push_of_some _ q) (Nat.le_of_eq (Heap.size_push _ _)) ?_
  have ne : s.heap.objs.size ≠ s.heap.objs.size + 1 := Nat.ne_of_lt (Nat.lt_succ_self _)
  refine ⟨by rw [upd_ne ne, upd_same], Nat.zero_le _, ne, e2, fun _ => none, (Heap.Ns1.of_empty e3).at fun o q => Heap.get?_push_of_some _ q, fun _ => True.intro, fun y hy => absurd rfl hy⟩


theorem attr_of {prog : Program} {w : World} {env : Env} {e : Expr} {f : Str} {pos : Pos} {s : Shared} {Q : Value → Shared → Prop} (hb : attributeBase e f env (eval e env) = eval e env)
    (h : wpAny (model prog w) A (eval e env) (fun o s₁ => wpAny (model prog w) A (getAttr o f true) Q E s₁) E s) : wpAny (model prog w) A (eval (.Attribute e f pos) env) Q E s :=
  Attribute_any_ h (by rw [arm_eval_Attribute, hb])
end



def tFld (K : PySem.W.Frag) (ta : TE) (f : Str) : TE := fun σ H Q => ta σ H fun x H1 => ∃ a C dx fs v, x = .ref a ∧ H1 a = some (.ins C dx fs) ∧ Cls K C ∧ NoAttr K C f ∧ fs.lookup f = some v ∧ Q v H1

def sFld (K : PySem.W.Frag) (ta tv : TE) (f : Str) : TS := fun D σ H => tv σ H fun y H1 => ta σ H1 fun x H2 => ∃ a C dx fs, x = .ref a ∧ H2 a = some (.ins C dx fs) ∧ Cls K C ∧ NoAttr K C f ∧ fs.length < 1000 ∧
  D.nx σ (upd H2 a (.ins C dx (putF f y fs)))

section
variable {X : Cx} {o e value : Expr} {f : Str} {pos pos' tpos : Pos} {ta tv : TE}
theorem pe_fld (he : PE X e ta) (hb : attributeBase e f X.env (eval e X.env) = eval e X.env) : PE X (.Attribute e f pos) (tFld X.K ta f) := by
  intro pins s σ H Q I h
  refine attr_of hb (thn (he pins s σ H _ I h) fun u s1 ⟨x, H1, I1, rx, a, C, dx, fs, v, ex, ea, c, n, l, q⟩ => ?_)
  subst ex
  obtain rfl : u = Value.ref a := rx
  exact getattr_ok I1 ea c n l fun u' s2 I2 ru => ⟨v, H1, I2, ru, q⟩
theorem ps_fld (ha : PE X o ta) (hv : PE X value tv) (hs : swapsWith value (some (.Attribute o f pos')) pos.line X.env = pure false) : PS X (.Assign [.Attribute o f pos'] value pos) (sFld X.K ta tv f) := by
  intro pins s σ H D I h
  refine plainObj_wpAny_Assign_Attribute (thn (hv pins s σ H _ I h) fun u s1 ⟨y, H1, I1, ry, q⟩ => thn (ha pins s1 σ H1 _ I1 q) fun ov s2 ⟨x, H2, I2, rx, a, C, dx, fs, ex, ea, c, n, l, q2⟩ => ?_) hs
  subst ex
  obtain rfl : ov = Value.ref a := rx
  exact setattr_ok I2 ea c n l ry fun s3 I3 => ⟨σ, _, I3, q2⟩
end


section
variable {X : Cx} {pins : List (Addr × Obj)} {σ : St} {H : Hp} {s : Shared} {A : Around} {E : Value → Shared → Prop} {Q : Value → Shared → Prop} {c : Value} {b : Bool}

end
end L2

namespace L2
open PySem PySem.Spec PyProof.Rows


structure Room (k : Nat) (A : Around) : Prop where
  hd : A.handled = none
  dp : A.depth + 3 * k + 5 < recursionLimit
  un : A.units + 16 * k + 200 < cLine
theorem Room.mono {j k : Nat} {A : Around} (r : Room k A) (h : j ≤ k) : Room j A := ⟨r.hd, by have := r.dp; omega, by have := r.un; omega⟩
theorem Room.deeper {k : Nat} {A : Around} (r : Room (k + 1) A) (env : Env) : Room k (A.deeper env) :=
  ⟨r.hd, by have := r.dp; show A.depth + 1 + 3 * k + 5 < _; omega, by have := r.un; show A.units + 3 + 16 * k + 200 < _; omega⟩
theorem make_depth {A : Around} {C : Addr} {us : List Value} {kw : List (Str × Value)} : (A.under (.builtin "type.__call__" ⟨.ref C :: us, kw⟩)).depth = A.depth + 1 := by
  first | rfl | simp [Around.under, Code.weight, Code.isCreation, Code.isGuard, Code.isCaller, Code.frames, Code.isFrame, guardIds]
theorem make_units {A : Around} {C : Addr} {us : List Value} {kw : List (Str × Value)} : (A.under (.builtin "type.__call__" ⟨.ref C :: us, kw⟩)).units = A.units + 1 := by
  first | rfl | simp [Around.under, Code.cUnits, Code.frames, Code.isFrame]
theorem Room.make {k : Nat} {A : Around} (r : Room (k + 1) A) (C : Addr) (us : List Value) (kw : List (Str × Value)) : Room k (A.under (.builtin "type.__call__" ⟨.ref C :: us, kw⟩)) :=
  ⟨r.hd, by have := r.dp; rw [make_depth]; omega, by have := r.un; rw [make_units]; omega⟩
theorem Room.depth {k : Nat} {A : Around} (r : Room k A) : A.depth < recursionLimit := by have := r.dp; omega
theorem Room.units {k : Nat} {A : Around} (r : Room k A) : A.units + 64 < cLine := by have := r.un; omega
theorem Room.units0 {k : Nat} {A : Around} (r : Room k A) : A.units < cLine := by have := r.un; omega


def tNil : TA := fun _ H Q => Q [] H
def tCons (ta : TE) (tr : TA) : TA := fun σ H Q => ta σ H fun x H1 => tr σ H1 fun xs H2 => Q (x :: xs) H2
section
variable {X : Cx} {e : Expr} {es : List Expr} {te : TE} {t : TA} {pos : Pos}
theorem pa_nil : PA X [] tNil := fun _ _ _ _ H Q I h => Calls.spliced_nil ⟨[], H, I, .nil, h⟩
theorem pa_cons (ha : PE X e te) (hr : PA X es t) (hs : starEach (e :: es) X.env = (false, eval e X.env) :: starEach es X.env := by rfl) : PA X (e :: es) (tCons te t) := by
  intro pos pins s σ H Q I h
  rw [hs]
  show wpAny _ _ (spliced ((false, eval e X.env) :: backTo pos (starEach es X.env))) _ _ s
  refine Calls.spliced_cons (thn (ha pins s σ H _ I h) fun u s1 ⟨x, H1, I1, r1, q1⟩ => ?_)
  exact thn (hr pos pins s1 σ H1 _ I1 q1) fun us s2 ⟨xs, H2, I2, r2, q2⟩ => ⟨x :: xs, H2, I2, .cons r1 r2, q2⟩


def tTup (t : TA) : TE := fun σ H Q => t σ H fun xs H1 => xs.length ≤ sizeLine ∧ ∀ p, H1 p = none → Q (.ref p) (upd H1 p (.tup xs))
def tLst (t : TA) : TE := fun σ H Q => t σ H fun xs H1 => xs.length ≤ sizeLine ∧ ∀ p, H1 p = none → Q (.ref p) (upd H1 p (.lst xs))
theorem pe_tup {x1} (h : PA X es t) : PE X (.Tuple es x1 pos) (tTup t) := by
  intro pins s σ H Q I hq
  refine wpAny_Tuple_spliced (thn (h pos pins s σ H _ I hq) fun us s1 ⟨xs, H1, I1, r, z, q⟩ => ⟨by rw [← r.length]; exact z, ?_⟩)
  have hf : H1 s1.heap.objs.size = none := I1.hok.fresh (Nat.le_refl _)
  refine ⟨.ref s1.heap.objs.size, upd H1 s1.heap.objs.size (.tup xs), I1.laid (t' := s1.toks) (fun b u e => Heap.get?_push_of_some _ e) (Nat.le_refl _) ?_, rfl, q _ hf⟩
  exact ⟨z, us, r, IsTpl.new _ _⟩
theorem pe_lst (h : PA X es t) : PE X (.List es pos) (tLst t) := by
  intro pins s σ H Q I hq
  refine wpAny_List_spliced (thn (h pos pins s σ H _ I hq) fun us s1 ⟨xs, H1, I1, r, z, q⟩ => ⟨by rw [← r.length]; exact z, ?_⟩)
  have hf : H1 s1.heap.objs.size = none := I1.hok.fresh (Nat.le_refl _)
  refine ⟨.ref s1.heap.objs.size, upd H1 s1.heap.objs.size (.lst xs), I1.laid (t' := s1.toks) (fun b u e => Heap.get?_push_of_some _ e) (Nat.le_refl _) ?_, rfl, q _ hf⟩
  exact ⟨z, us, 0, r, Heap.get?_push_size _ rfl⟩
end



abbrev Sp := List V → Hp → VK → XK → Prop

abbrev CXT := List Env → Hp → Shared → XK → Value → Shared → Prop


structure Env0 (P : Program) (w : World) (K : PySem.W.Frag) (mg : Str → Option Value) (base : Heap) (A : Around) (outer : List Env) (s : Shared) (H : Hp) : Prop where
  frames : A.frames = some outer
  mod : Mod K mg base
  bs : ∀ b o, base.get? b = some o → s.heap.get? b = some o ∧ H b = none
  bsz : base.objs.size ≤ s.heap.objs.size
  funs : s.heap.FunFrames base outer
  frf : ∀ b ∈ frs outer, H b = none
  hok : HOk P w H s.heap
  bare : AllBare s.gens

def CE (outer : List Env) (P : Program) (w : World) (H : Hp) (s : Shared) (Q : VK) (u : Value) (s' : Shared) : Prop :=
  ∃ v H', s'.os = s.os ∧ AllBare s'.gens ∧ Un (frs outer) [] H H' s.heap s'.heap ∧ HOk P w H' s'.heap ∧ RelV v u ∧ Q v H'
def CR (CX : CXT) (outer : List Env) (P : Program) (w : World) (H : Hp) (s : Shared) (Q : VK) (E : XK) (r : Result) (s' : Shared) : Prop :=
  match r with
  | .ok (.ret u) => CE outer P w H s Q u s'
  | .ok _ => False
  | .error e => CX outer H s E e s'
structure FnOk (P : Program) (w : World) (K : PySem.W.Frag) (mg : Str → Option Value) (base : Heap) (CX : CXT) (k : Nat) (f : Addr) (fd : FuncData) (ps : List Str) (sp : Sp) : Prop where
  len : ∀ vs H Q E, sp vs H Q E → vs.length = ps.length
  run : ∀ (A : Around) (outer : List Env) (s : Shared) (H : Hp) (args : Args) (us : List Value) (vs : List V) (Q : VK) (E : XK), Room k A → Env0 P w K mg base A outer s H → BindsTo s fd args (ps.zip us) → Vals vs us → sp vs H Q E →
    codeAny (model P w) A (.call (.ref f) args) (CR CX outer P w H s Q E) s
theorem FnOk.mono {P : Program} {w : World} {K : PySem.W.Frag} {mg : Str → Option Value} {base : Heap} {CX : CXT} {j k : Nat} {f : Addr} {fd : FuncData} {ps : List Str} {sp : Sp} (F : FnOk P w K mg base CX j f fd ps sp) (h : j ≤ k) :
    FnOk P w K mg base CX k f fd ps sp := ⟨F.len, fun A outer s H args us vs Q E hr => F.run A outer s H args us vs Q E (hr.mono h)⟩

theorem Env0.make {P : Program} {w : World} {K : PySem.W.Frag} {mg : Str → Option Value} {base : Heap} {A : Around} {outer : List Env} {s : Shared} {H : Hp} (e : Env0 P w K mg base A outer s H) (C : Addr) (us : List Value) (kw : List (Str × Value)) :
    Env0 P w K mg base (A.under (.builtin "type.__call__" ⟨.ref C :: us, kw⟩)) outer s H := ⟨by first | exact e.frames | (simpa [Around.under, Code.envs, Code.isFrame, pushEnvs] using e.frames), e.mod, e.bs, e.bsz, e.funs, e.frf, e.hok, e.bare⟩
section
variable {X : Cx} {pins : List (Addr × Obj)} {σ : St} {H : Hp} {s s' : Shared}

theorem Inv.env0 (I : Inv X pins σ H s) : Env0 X.prog X.w X.K X.mg X.base X.A X.stack s H :=
  ⟨I.ok.frames, I.ok.mod, I.bs, Nat.le_trans I.ok.bsz I.sz, I.stack, I.stkFree, I.hok, I.bare⟩

theorem Inv.after {Q : VK} {u : Value} (I : Inv X pins σ H s) (h : CE X.stack X.prog X.w H s Q u s') : EP X pins σ Q u s' := by
  obtain ⟨v, H', os, bare, un, hok, r, q⟩ := h
  obtain ⟨hh, g, d, t, os'⟩ := s'
  obtain rfl : os' = s.os := os
  exact ⟨v, H', I.call (h' := hh) (g' := g) (d' := d) (t' := t) (ch := []) un hok bare (fun b z => absurd z (by simp)), r, q⟩
end



def tCall (sp : Sp) (dvs : List V) (E : XK) (t : TA) : TE := fun σ H Q => t σ H fun vs H1 => sp (vs ++ dvs) H1 Q E

def tMake (C : Addr) (sp : Sp) (dvs : List V) (E : XK) (t : TA) : TE := fun σ H Q => t σ H fun vs H1 => ∀ x dx, H1 x = none → H1 dx = none → dx ≠ x →
  sp (.ref x :: (vs ++ dvs)) (upd (upd H1 dx (.own x)) x (.ins C dx [])) (fun v H2 => v = .non ∧ Q (.ref x) H2) E


def Binds (K : PySem.W.Frag) (fd : FuncData) (ps : List Str) (ds : List Value) : Prop :=
  ∀ (s : Shared) (us : List Value), K.In s.heap → (us ++ ds).length = ps.length → BindsTo s fd ⟨us, []⟩ (ps.zip (us ++ ds))

theorem Binds.all {K : PySem.W.Frag} {fd : FuncData} {ps : List Str} (h : ∀ us : List Value, us.length = ps.length → bindArgs fd ⟨us, []⟩ = pure (ps.zip us)) : Binds K fd ps [] := fun s us _ hl => by
  rw [List.append_nil] at hl ⊢
  exact .of_eq (h us hl)


def Passes (CX : CXT) (X : Cx) (E : XK) : Prop := ∀ (pins : List (Addr × Obj)) (σ : St) (H : Hp) (s : Shared) (e : Value) (s' : Shared), Inv X pins σ H s → CX X.stack H s E e s' → X.xe e s'

section
variable {X : Cx} {CX : CXT} {k : Nat} {f C : Addr} {fd : FuncData} {ps : List Str} {sp : Sp} {dvs : List V} {ds : List Value} {E : XK} {x m : Str} {p pos apos : Pos} {e o : Expr} {es : List Expr} {ta : TE} {t : TA}


theorem run_fn {pins : List (Addr × Obj)} {σ : St} {H : Hp} {s : Shared} {Q : VK} {us : List Value} {vs : List V} (F : FnOk X.prog X.w X.K X.mg X.base CX k f fd ps sp) (hr : Room k X.A) (hb : Binds X.K fd ps ds) (hd : Vals dvs ds) (hx : Passes CX X E)
    (I : Inv X pins σ H s) (r : Vals vs us) (h : sp (vs ++ dvs) H Q E) : wpAny (model X.prog X.w) X.A (call (.ref f) us) (EP X pins σ Q) X.xe s := by
  have r2 : Vals (vs ++ dvs) (us ++ ds) := r.append hd
  have hl : (us ++ ds).length = ps.length := by rw [← r2.length]; exact F.len _ _ _ _ h
  refine wpAny_call (codeAny_mono (F.run X.A X.stack s H ⟨us, []⟩ (us ++ ds) (vs ++ dvs) Q E hr I.env0 (hb s us I.kIn hl) r2 h) fun r s' hq => ?_)
  cases r with
  | error e => exact hx pins σ H s e s' I hq
  | ok fl =>
    cases fl with
    | ret u => exact I.after hq
    | next => exact False.elim hq
    | brk => exact False.elim hq
    | cont => exact False.elim hq

theorem pe_call (F : FnOk X.prog X.w X.K X.mg X.base CX k f fd ps sp) (hr : Room k X.A) (hg : Gl X x) (hm : X.mg x = some (.ref f)) (hk : PySem.W.keepIn X.K (.ref f) = true) (hb : Binds X.K fd ps ds) (hd : Vals dvs ds) (hx : Passes CX X E)
    (ha : PA X (e :: es) t) (hdb : (x == ("__debug__" : Str)) = false := by decide) (he : starEach (e :: es) X.env = (false, eval e X.env) :: starEach es X.env := by rfl) (hpl : (backTo pos (starEach es X.env)).any (·.1) = false := by rfl) :
    PE X (.Call (.Name x p) (e :: es) [] pos) (tCall sp dvs E t) := by
  intro pins s σ H Q I h
  refine wpAny_Call_Name_kw (ld_glob I hg hm ?_ hdb)
  refine PySem.W.callWith_K (h₀ := X.base) I.ok.mod.kin hk (thn (ha pos pins s σ H _ I h) fun us s1 ⟨vs, H1, I1, r, q⟩ => ⟨I1.kIn, ?_⟩) he hpl
  exact run_fn F hr hb hd hx I1 r q
structure Mk (K : PySem.W.Frag) (C f : Addr) : Prop where
  makes : PySem.W.makesIn K C = true
  init : PySem.W.findIn K (.ref C) "__init__" = some (some (.ref f))
  fn : PySem.W.isFn K (.ref f) = true
  kp : PySem.W.keepIn K (.ref C) = true

theorem run_make {pins : List (Addr × Obj)} {σ : St} {H : Hp} {s : Shared} {Q : VK} {us : List Value} {vs : List V} (M : Mk X.K C f) (F : FnOk X.prog X.w X.K X.mg X.base CX k f fd ps sp) (hr : Room (k + 1) X.A) (hb : Binds X.K fd ps ds) (hd : Vals dvs ds)
    (hx : Passes CX X E) (I : Inv X pins σ H s) (r : Vals vs us)
    (h : ∀ x dx, H x = none → H dx = none → dx ≠ x → sp (.ref x :: (vs ++ dvs)) (upd (upd H dx (.own x)) x (.ins C dx [])) (fun v H2 => v = .non ∧ Q (.ref x) H2) E) :
    wpAny (model X.prog X.w) X.A (call (.ref C) us) (EP X pins σ Q) X.xe s := by
  have hq := h (s.heap.objs.size + 1) s.heap.objs.size (I.hok.fresh (Nat.le_succ _)) (I.hok.fresh (Nat.le_refl _)) (Nat.ne_of_lt (Nat.lt_succ_self _))
  have I2 := Inv.made (C := C) I
  have r2 : Vals (V.ref (s.heap.objs.size + 1) :: (vs ++ dvs)) (Value.ref (s.heap.objs.size + 1) :: (us ++ ds)) := .cons rfl (r.append hd)
  have hl : (Value.ref (s.heap.objs.size + 1) :: us ++ ds).length = ps.length := by
    have e := r2.length
    rw [F.len _ _ _ _ hq] at e
    exact e.symm
  refine wpAny_call (make_map (f := f) I.kIn M.makes M.init (beq_iff_eq.mp M.fn) (codeAny_mono (F.run _ X.stack _ _ ⟨Value.ref (s.heap.objs.size + 1) :: us, []⟩ (Value.ref (s.heap.objs.size + 1) :: (us ++ ds)) _ _ E (hr.make C us [])
    (I2.env0.make C us []) (hb _ (Value.ref (s.heap.objs.size + 1) :: us) I2.kIn hl) r2 hq) fun r s' hq' => ?_))
  cases r with
  | error e => exact hx pins σ _ _ e s' I2 hq'
  | ok fl =>
    cases fl with
    | ret u =>
      obtain ⟨v, H', I3, rv, ev, q3⟩ := I2.after hq'
      subst ev
      exact ⟨rv, ⟨V.ref (s.heap.objs.size + 1), H', I3, rfl, q3⟩⟩
    | next => exact False.elim hq'
    | brk => exact False.elim hq'
    | cont => exact False.elim hq'
theorem pe_make (M : Mk X.K C f) (F : FnOk X.prog X.w X.K X.mg X.base CX k f fd ps sp) (hr : Room (k + 1) X.A) (hg : Gl X x) (hm : X.mg x = some (.ref C)) (hb : Binds X.K fd ps ds) (hd : Vals dvs ds) (hx : Passes CX X E)
    (ha : PA X (e :: es) t) (hdb : (x == ("__debug__" : Str)) = false := by decide) (he : starEach (e :: es) X.env = (false, eval e X.env) :: starEach es X.env := by rfl) (hpl : (backTo pos (starEach es X.env)).any (·.1) = false := by rfl) :
    PE X (.Call (.Name x p) (e :: es) [] pos) (tMake C sp dvs E t) := by
  intro pins s σ H Q I h
  refine wpAny_Call_Name_kw (ld_glob I hg hm ?_ hdb)
  refine PySem.W.callWith_K (h₀ := X.base) I.ok.mod.kin M.kp (thn (ha pos pins s σ H _ I h) fun us s1 ⟨vs, H1, I1, r, q⟩ => ⟨I1.kIn, ?_⟩) he hpl
  exact run_make M F hr hb hd hx I1 r q
theorem pe_make0 (M : Mk X.K C f) (F : FnOk X.prog X.w X.K X.mg X.base CX k f fd ps sp) (hr : Room (k + 1) X.A) (hg : Gl X x) (hm : X.mg x = some (.ref C)) (hb : Binds X.K fd ps ds) (hd : Vals dvs ds) (hx : Passes CX X E)
    (hdb : (x == ("__debug__" : Str)) = false := by decide) : PE X (.Call (.Name x p) [] [] pos) (tMake C sp dvs E tNil) := by
  intro pins s σ H Q I h
  refine wpAny_Call_Name_kw (ld_glob I hg hm ?_ hdb)
  exact PySem.W.callWith_K0 I.kIn M.kp (run_make (us := []) M F hr hb hd hx I .nil h)
end



section
variable {X : Cx} {CX : CXT} {k : Nat} {f C : Addr} {fd : FuncData} {ps ks : List Str} {sp : Sp} {E : XK} {x m : Str} {p pos apos kpos : Pos} {e o : Expr} {es : List Expr} {kws : List Keyword} {te ta : TE} {t tk : TA} {nm : Option Str}
variable {g : List Value → List Value → List Value} {gV : List V → List V → List V}
end



structure FnScope (N P : List Str) (sc : Scope) : Prop where
  kind : sc.kind = .function
  co : sc.isCoroutine = false
  gen : sc.isGenerator = false
  nd : N.Nodup
  pre : N.take P.length = P
  par : ∀ x ∈ P, sc.names.lookup x = some .local ∨ sc.names.lookup x = some .cell
  nofree : ∀ y ∈ sc.names, y.2 ≠ .free

theorem bindL_out {kindOf : Str → Option NameKind} {x : Str} : ∀ {binds : List (Str × Value)} {m : Str → Option Value}, (∀ v, (x, v) ∉ binds) → bindL kindOf binds m x = m x
  | [], _, _ => rfl
  | (n, v) :: r, m, h => by
    unfold bindL
    rw [bindL_out fun w hw => h w (List.mem_cons_of_mem _ hw)]
    split
    · have : x ≠ n := by rintro rfl; exact h v List.mem_cons_self
      simp [this]
    · rfl
theorem bindC_out {kindOf : Str → Option NameKind} {x : Str} : ∀ {binds : List (Str × Value)} {m : Str → Option Value}, (∀ v, (x, v) ∉ binds) → bindC kindOf binds m x = m x
  | [], _, _ => rfl
  | (n, v) :: r, m, h => by
    unfold bindC
    rw [bindC_out fun w hw => h w (List.mem_cons_of_mem _ hw)]
    split
    · rfl
    · have : x ≠ n := by rintro rfl; exact h v List.mem_cons_self
      simp [this]
theorem bindL_get {kindOf : Str → Option NameKind} {x : Str} {v : Value} : ∀ {P : List Str} {vs : List Value} {i : Nat} {m : Str → Option Value}, P.Nodup → P[i]? = some x → vs[i]? = some v → kindOf x = some .local →
    bindL kindOf (P.zip vs) m x = some v
  | [], _, _, _, _, h, _, _ => by simp at h
  | _ :: _, [], _, _, _, _, h, _ => by simp at h
  | p :: P, w :: vs, 0, m, nd, h1, h2, hk => by
    simp at h1 h2; subst h1; subst h2
    show bindL kindOf ((p, w) :: P.zip vs) m p = _
    unfold bindL
    rw [bindL_out fun v hv => (List.nodup_cons.mp nd).1 (List.of_mem_zip hv).1, if_pos hk]
    simp
  | p :: P, w :: vs, i + 1, m, nd, h1, h2, hk => by
    show bindL kindOf ((p, w) :: P.zip vs) m x = _
    unfold bindL
    exact bindL_get (i := i) (List.nodup_cons.mp nd).2 (by simpa using h1) (by simpa using h2) hk
theorem bindC_get {kindOf : Str → Option NameKind} {x : Str} {v : Value} : ∀ {P : List Str} {vs : List Value} {i : Nat} {m : Str → Option Value}, P.Nodup → P[i]? = some x → vs[i]? = some v → kindOf x ≠ some .local →
    bindC kindOf (P.zip vs) m x = some v
  | [], _, _, _, _, h, _, _ => by simp at h
  | _ :: _, [], _, _, _, _, h, _ => by simp at h
  | p :: P, w :: vs, 0, m, nd, h1, h2, hk => by
    simp at h1 h2; subst h1; subst h2
    show bindC kindOf ((p, w) :: P.zip vs) m p = _
    unfold bindC
    rw [bindC_out fun v hv => (List.nodup_cons.mp nd).1 (List.of_mem_zip hv).1, if_neg hk]
    simp
  | p :: P, w :: vs, i + 1, m, nd, h1, h2, hk => by
    show bindC kindOf ((p, w) :: P.zip vs) m x = _
    unfold bindC
    exact bindC_get (i := i) (List.nodup_cons.mp nd).2 (by simpa using h1) (by simpa using h2) hk


def start (N : List Str) (vs : List V) : St := vs.map some ++ List.replicate (N.length - vs.length) none


def cxOf (CX : CXT) (P : Program) (w : World) (K : PySem.W.Frag) (mg : Str → Option Value) (base : Heap) (N : List Str) (qual : Str) (scope : Scope) (f : Addr) (cd : Value) (A : Around) (outer : List Env) (s : Shared) (H : Hp) (E : XK) : Cx where
  prog := P
  w := w
  K := K
  mg := mg
  base := base
  A := A.deeper (envOfC qual scope s.heap.objs.size f cd)
  N := N
  s₀ := s
  H₀ := H
  env := envOfC qual scope s.heap.objs.size f cd
  outer := outer
  stack := envOfC qual scope s.heap.objs.size f cd :: outer
  ex := []
  calm := true
  fn := fun _ => true
  pn := []
  xe := fun e s' => wpAny (model P w) (A.deeper (envOfC qual scope s.heap.objs.size f cd)) (leaving (envOfC qual scope s.heap.objs.size f cd) e) (fun _ s'' => CX outer H s E e s'') (fun e' s'' => CX outer H s E e' s'') s'

theorem cell_has {sc : Scope} {n : Nat} {x : Str} (h : sc.names.lookup x = some .cell) : ∃ c, (cellsFrom n sc.names []).lookup x = some c := by
  have q := PySem.W.cellsFrom_some sc.names n [] (.inl h)
  exact Option.isSome_iff_exists.mp q

theorem inv_start {CX : CXT} {P : Program} {w : World} {K : PySem.W.Frag} {mg : Str → Option Value} {base : Heap} {N ps : List Str} {qual : Str} {scope : Scope} {f : Addr} {cd : Value} {A : Around} {outer : List Env} {s s1 : Shared} {H : Hp} {E : XK} {us : List Value} {vs : List V}
    (S : FnScope N ps scope) (hd : A.handled = none) (e0 : Env0 P w K mg base A outer s H) (hl : vs.length = ps.length) (r : Vals vs us)
    (x : InCallC s s.heap.objs.size (bindL (envOfC qual scope s.heap.objs.size f cd).kindOf (ps.zip us) fun _ => none) (cellsFrom (s.heap.objs.size + 1) scope.names []) (bindC (envOfC qual scope s.heap.objs.size f cd).kindOf (ps.zip us) fun _ => none) s1) :
    Inv (cxOf CX P w K mg base N qual scope f cd A outer s H E) [] (start N vs) H s1 := by
  have hpl : ps.length ≤ N.length := by have := congrArg List.length S.pre; rw [List.length_take] at this; omega
  obtain ⟨h1, tk, rfl, hk⟩ := x.done
  have noA : ∀ b : Addr, b ∉ (cxOf CX P w K mg base N qual scope f cd A outer s H E).ex := fun b z => absurd (show b ∈ ([] : List Addr) from z) (by simp)
  refine ⟨⟨e0.mod, S.kind, rfl, rfl, Nat.le_refl _, fun y z c h1 h2 => ?_, fun y hy => ?_, fun y c _ h => ?_, fun _ => hd, Around.frames_deeper e0.frames, .inr ⟨rfl, rfl⟩, fun b z => absurd z (noA b), e0.bs, e0.bsz, fun b _ _ => noA b, fun b z => absurd z (noA b), e0.funs, e0.frf⟩,
    rfl, e0.bare, Un.kept hk, ⟨_, x.toInCall.ns, fun i y v h1 h2 h3 => ?_⟩, fun y c h => ⟨_, x.cell y c h⟩, e0.hok.fresh (Nat.le_refl _), fun y c h => ?_, fun p hp => absurd (show p ∈ ([] : List (Addr × Obj)) from hp) (by simp), e0.hok.kept hk, ?_⟩
  · exact name_of_addr x.apart (PySem.mem_of_lookup h1) (PySem.mem_of_lookup h2)
  · have hy : scope.names.lookup y = some .cell ∨ scope.names.lookup y = some .free := hy
    rcases hy with hy | hy
    · exact cell_has hy
    · exact absurd rfl (S.nofree _ (PySem.mem_of_lookup hy))
  · exact Nat.le_of_lt (x.above y c (PySem.mem_of_lookup h))
  · have hi : i < vs.length := by
      unfold start at h2
      by_cases hi : i < vs.length
      · exact hi
      · rw [List.getElem?_append_right (by simpa using hi)] at h2
        rw [List.getElem?_replicate] at h2
        split at h2 <;> cases h2
    have ha : vs[i]? = some v := by
      unfold start at h2
      rw [List.getElem?_append_left (by simpa using hi), List.getElem?_map] at h2
      cases e : vs[i]? with
      | none => rw [e] at h2; cases h2
      | some a => rw [e] at h2; cases h2; rfl
    obtain ⟨u, hu, rv⟩ := r.get ha
    have hp : ps[i]? = some y := by
      rw [← S.pre, List.getElem?_take_of_lt (by omega)]; exact h1
    have ndP : ps.Nodup := by rw [← S.pre]; exact S.nd.sublist (List.take_sublist _ _)
    refine ⟨u, rv, ?_⟩
    rcases S.par y (List.mem_of_getElem? hp) with k | k
    · exact .inl ⟨k, bindL_get ndP hp hu k⟩
    · obtain ⟨c, e⟩ := cell_has (n := s.heap.objs.size + 1) k
      refine .inr ⟨.inl k, c, e, ?_⟩
      have q := x.cell y c e
      rw [bindC_get ndP hp hu (by show scope.names.lookup y ≠ _; rw [k]; decide)] at q
      exact q
  · exact e0.hok.fresh (Nat.le_of_lt (x.above y c (PySem.mem_of_lookup h)))
  · unfold start
    show _ = N.length
    rw [List.length_append, List.length_map, List.length_replicate]
    omega


theorem fn_of {CX : CXT} {P : Program} {w : World} {K : PySem.W.Frag} {mg : Str → Option Value} {base : Heap} {k : Nat} {f : Addr} {name qual : Str} {params : Arguments} {body : List Stmt} {scope : Scope} {dV kV doc pm cdv ct oc : Value} {an od : Option Addr}
    {osl : Array (Option Value)} {N ps : List Str} {sp : Sp} (lk : K.lookup f = some ⟨oc, od, .func (PySem.W.fnOf name qual params body scope dV kV doc pm an cdv ct), osl⟩) (hcd : PySem.W.codeIn K cdv qual = true) (S : FnScope N ps scope)
    (len : ∀ vs H Q E, sp vs H Q E → vs.length = ps.length)
    (hbody : ∀ (A : Around) (outer : List Env) (s : Shared) (H : Hp) (vs : List V) (Q : VK) (E : XK), Room k (A.deeper (envOfC qual scope s.heap.objs.size f cdv)) → sp vs H Q E →
      ∃ t, PSs (cxOf CX P w K mg base N qual scope f cdv A outer s H E) body t ∧ t { nx := fun _ H' => Q .non H', rt := Q } (start N vs) H) :
    FnOk P w K mg base CX (k + 1) f (PySem.W.fnOf name qual params body scope dV kV doc pm an cdv ct) ps sp := by
  refine ⟨len, fun A outer s H args us vs Q E hr e0 hb r hsp => ?_⟩
  have hl := len _ _ _ _ hsp
  have KX : K.In s.heap := e0.mod.kin.keeps fun b o e => (e0.bs b o e).1
  have lim : s.heap.NoLimit := e0.mod.nolimit.keeps fun b o e => (e0.bs b o e).1
  have hkind : ∀ y ∈ ps.zip us, scope.names.lookup y.1 = some .local ∨ (scope.names.lookup y.1 = some .cell ∧ ((cellsFrom (s.heap.objs.size + 1) scope.names []).lookup y.1).isSome = true) := fun ⟨n, v⟩ hy => by
    rcases S.par n (List.of_mem_zip hy).1 with q | q
    · exact .inl q
    · exact .inr ⟨q, PySem.W.cellsFrom_some _ _ _ (.inl q)⟩
  refine codeAny_call_function hr.depth (KX _ _ lk) rfl S.co S.gen rfl (PySem.W.codeRec_of KX hcd) (hb _ _ _ _ ?_)
  refine wpAny_newFunctionEnv_cells S.kind hkind fun env he s1 x => ?_
  subst he
  refine ⟨lim.keeps x.toInCall.keep, codeAny_func ?_⟩
  obtain ⟨t, ht, hq⟩ := hbody A outer s H vs Q E (hr.deeper _) hsp
  have I : Inv (cxOf CX P w K mg base N qual scope f cdv A outer s H E) [] (start N vs) H s1 := inv_start S hr.hd e0 hl r x
  refine wpAny_mono (ht [] s1 (start N vs) H _ I hq) (fun fl s' hs => ?_) fun e s' hs => hs
  have fin : ∀ {σ' : St} {H' : Hp} {v : V} {u : Value}, Inv (cxOf CX P w K mg base N qual scope f cdv A outer s H E) [] σ' H' s' → RelV v u → Q v H' → CE outer P w H s Q u s' :=
    fun {σ' H' v u} J rv q => ⟨v, H', J.os, J.bare, J.base, J.hok, rv, q⟩
  cases fl with
  | ret u =>
    obtain ⟨v, σ', H', J, rv, q⟩ := hs
    exact fin J rv q
  | next =>
    obtain ⟨σ', H', J, q⟩ := hs
    exact fin (v := V.non) (u := Value.none) J rfl q
  | brk =>
    obtain ⟨_, _, _, q⟩ := hs
    exact False.elim q
  | cont =>
    obtain ⟨_, _, _, q⟩ := hs
    exact False.elim q
end L2

namespace L2
open PySem PySem.Spec PyProof.Rows
section
variable {X : Cx} {x : Str} {p pos : Pos} {e : Expr} {es : List Expr} {t : TA} {id T : String} {r : List V → Hp → VK → Prop}

def tCB (r : List V → Hp → VK → Prop) (t : TA) : TE := fun σ H Q => t σ H fun vs H1 => r vs H1 Q

theorem pe_callB (hc : CallR X (.builtin id) r) (hg : Gl X x) (hm : X.mg x = none) (hv : bootBuiltins x = some (.builtin id)) (ha : PA X (e :: es) t) (hn : x ≠ "__name__" := by decide) (hdb : (x == ("__debug__" : Str)) = false := by decide)
    (he : starEach (e :: es) X.env = (false, eval e X.env) :: starEach es X.env := by rfl) (hpl : (backTo pos (starEach es X.env)).any (·.1) = false := by rfl) : PE X (.Call (.Name x p) (e :: es) [] pos) (tCB r t) := by
  intro pins s σ H Q I h
  refine wpAny_Call_Name_kw (ld_blt I hg hm hv ?_ hn hdb)
  exact PyProof.Rows.callWith_builtin1 (thn (ha pos pins s σ H _ I h) fun us s1 ⟨vs, H1, I1, r1, q1⟩ => hc pins s1 σ H1 vs us Q I1 r1 q1) he hpl

theorem pe_callTy (hc : CallR X (.type T) r) (hg : Gl X x) (hm : X.mg x = none) (hv : bootBuiltins x = some (.type T)) (ha : PA X (e :: es) t) (hn : x ≠ "__name__" := by decide) (hdb : (x == ("__debug__" : Str)) = false := by decide)
    (he : starEach (e :: es) X.env = (false, eval e X.env) :: starEach es X.env := by rfl) (hpl : (backTo pos (starEach es X.env)).any (·.1) = false := by rfl) : PE X (.Call (.Name x p) (e :: es) [] pos) (tCB r t) := by
  intro pins s σ H Q I h
  refine wpAny_Call_Name_kw (ld_blt I hg hm hv ?_ hn hdb)
  exact PyProof.Rows.callWith_type1 (thn (ha pos pins s σ H _ I h) fun us s1 ⟨vs, H1, I1, r1, q1⟩ => hc pins s1 σ H1 vs us Q I1 r1 q1) he hpl

end
end L2

namespace L2
open PySem PySem.Spec PyProof.Rows


section
variable {κ : Type} [DecidableEq κ]
def valV (kvs : List (κ × V)) (k : κ) : Option V := (kvs.find? fun kv => decide (kv.1 = k)).map (·.2)

def putK (kvs : List (κ × V)) (k : κ) (v : V) : List (κ × V) :=
  if (kvs.any fun kv => decide (kv.1 = k)) = true then kvs.map (fun kv => if kv.1 = k then (kv.1, v) else kv) else kvs ++ [(k, v)]
theorem valV_pos {p : κ × V} {r : List (κ × V)} {k : κ} (e : p.1 = k) : valV (p :: r) k = some p.2 := by simp [valV, List.find?_cons, e]
theorem valV_neg {p : κ × V} {r : List (κ × V)} {k : κ} (e : ¬ p.1 = k) : valV (p :: r) k = valV r k := by simp [valV, List.find?_cons, e]
theorem valV_any (k : κ) : ∀ kvs : List (κ × V), (kvs.any fun kv => decide (kv.1 = k)) = (valV kvs k).isSome
  | [] => rfl
  | p :: r => by
    rw [List.any_cons]
    by_cases e : p.1 = k
    · simp only [valV_pos e, decide_eq_true e, Bool.true_or, Option.isSome_some]
    · rw [valV_neg e, decide_eq_false e, Bool.false_or]; exact valV_any k r
theorem valV_map (k j : κ) (y : V) : ∀ kvs : List (κ × V), valV (kvs.map fun kv => if kv.1 = k then (kv.1, y) else kv) j = (valV kvs j).map fun x => if j = k then y else x
  | [] => rfl
  | p :: r => by
    have ih := valV_map k j y r
    rw [List.map_cons]
    by_cases h : p.1 = k
    · rw [if_pos h]
      by_cases e : p.1 = j
      · rw [valV_pos (p := (p.1, y)) e, valV_pos e, Option.map_some, if_pos (e.symm.trans h)]
      · rw [valV_neg (p := (p.1, y)) e, valV_neg e, ih]
    · rw [if_neg h]
      by_cases e : p.1 = j
      · rw [valV_pos (p := p) e, valV_pos e, Option.map_some, if_neg (fun z => h (e.trans z))]
      · rw [valV_neg (p := p) e, valV_neg e, ih]
theorem valV_snoc (k j : κ) (y : V) : ∀ kvs : List (κ × V), valV kvs k = none → valV (kvs ++ [(k, y)]) j = if j = k then some y else valV kvs j
  | [], _ => by
    by_cases e : k = j
    · rw [if_pos e.symm]; exact valV_pos (p := (k, y)) e
    · rw [if_neg (fun z => e z.symm)]; exact valV_neg (p := (k, y)) e
  | p :: r, hn => by
    rw [List.cons_append]
    have hk : ¬ p.1 = k := fun z => by rw [valV_pos z] at hn; cases hn
    rw [valV_neg hk] at hn
    have ih := valV_snoc k j y r hn
    by_cases e : p.1 = j
    · rw [valV_pos e, valV_pos e, if_neg (fun z => hk (e.trans z))]
    · rw [valV_neg e, valV_neg e, ih]
theorem valV_put (kvs : List (κ × V)) (k j : κ) (y : V) : valV (putK kvs k y) j = if j = k then some y else valV kvs j := by
  unfold putK
  by_cases a : (kvs.any fun kv => decide (kv.1 = k)) = true
  · rw [if_pos a, valV_map]
    rw [valV_any] at a
    by_cases e : j = k
    · obtain ⟨x, hx⟩ := Option.isSome_iff_exists.mp a
      rw [if_pos e, e, hx, Option.map_some, if_pos rfl]
    · rw [if_neg e]
      cases valV kvs j with
      | none => rfl
      | some x => rw [Option.map_some, if_neg e]
  · rw [if_neg a]
    refine valV_snoc k j y kvs ?_
    rw [valV_any] at a
    cases q : valV kvs k with
    | none => rfl
    | some x => rw [q] at a; exact (a rfl).elim
theorem length_putK (kvs : List (κ × V)) (k : κ) (v : V) : (putK kvs k v).length ≤ kvs.length + 1 := by
  unfold putK
  split
  · rw [List.length_map]; omega
  · rw [List.length_append, List.length_cons, List.length_nil]; omega
theorem RelO.isSome_eq {o : Option V} {u : Option Value} (r : RelO o u) : o.isSome = u.isSome := by
  cases o with
  | none => cases u with
    | none => rfl
    | some _ => exact (show False from r).elim
  | some _ => cases u with
    | none => exact (show False from r).elim
    | some _ => rfl
theorem RelO.getD {o : Option V} {u : Option Value} {d : V} {d' : Value} (r : RelO o u) (rd : RelV d d') : RelV (o.getD d) (u.getD d') := by
  cases o with
  | none => cases u with
    | none => exact rd
    | some _ => exact (show False from r).elim
  | some _ => cases u with
    | none => exact (show False from r).elim
    | some _ => exact r


theorem KV.val {kvs : List (κ × V)} {vs : List (κ × Value)} (r : KV kvs vs) (k : κ) : RelO (valV kvs k) (valueAt vs k) := by
  unfold KV at r
  induction r with
  | nil => exact True.intro
  | @cons p q ps qs h t ih =>
    obtain ⟨h1, h2⟩ := h
    by_cases e : p.1 = k
    · have e' : q.1 = k := h1.symm.trans e
      have b : valueAt (q :: qs) k = some q.2 := by simp [valueAt, List.find?_cons, e']
      rw [valV_pos e, b]; exact h2
    · have e' : ¬ q.1 = k := fun z => e (h1.trans z)
      have b : valueAt (q :: qs) k = valueAt qs k := by simp [valueAt, List.find?_cons, e']
      rw [valV_neg e, b]; exact ih
theorem KV.any {kvs : List (κ × V)} {vs : List (κ × Value)} (r : KV kvs vs) (k : κ) : (kvs.any fun kv => decide (kv.1 = k)) = vs.any fun kv => decide (kv.1 = k) := by
  unfold KV at r
  induction r with
  | nil => rfl
  | cons h t ih => rw [List.any_cons, List.any_cons, ih, h.1]
theorem KV.repl {kvs : List (κ × V)} {vs : List (κ × Value)} (r : KV kvs vs) (k : κ) {y : V} {u : Value} (ry : RelV y u) :
    KV (kvs.map fun kv => if kv.1 = k then (kv.1, y) else kv) (vs.map fun kv => if kv.1 = k then (kv.1, u) else kv) := by
  unfold KV at r ⊢
  induction r with
  | nil => exact .nil
  | @cons p q ps qs h t ih =>
    rw [List.map_cons, List.map_cons]
    refine .cons ?_ ih
    obtain ⟨h1, h2⟩ := h
    by_cases e : p.1 = k
    · rw [if_pos e, if_pos (h1.symm.trans e)]; exact ⟨h1, ry⟩
    · rw [if_neg e, if_neg (fun z => e (h1.trans z))]; exact ⟨h1, h2⟩
theorem KV.put {kvs : List (κ × V)} {vs : List (κ × Value)} (r : KV kvs vs) (k : κ) {y : V} {u : Value} (ry : RelV y u) : KV (putK kvs k y) (stored vs k u) := by
  unfold putK stored
  rw [r.any k]
  by_cases e : (vs.any fun kv => decide (kv.1 = k)) = true
  · rw [if_pos e, if_pos e]; exact r.repl k ry
  · rw [if_neg e, if_neg e]; exact Paired.snoc r ⟨rfl, ry⟩
theorem KV.length {kvs : List (κ × V)} {vs : List (κ × Value)} (r : KV kvs vs) : kvs.length = vs.length := Paired.length r
end



theorem kV_is {P : Program} {w : World} {k : Key} {u : Value} (r : RelV (kV k) u) : (mixKind P w).is k u = true := by
  cases k with
  | inl i => obtain ⟨t, e⟩ := (show ∃ t, u = Value.int i t from r); subst e; exact mixKind_int P w i t
  | inr x => obtain ⟨t, e⟩ := (show ∃ t, u = Value.str x t from r); subst e; exact mixKind_str P w x t
theorem items_are {P : Program} {w : World} : ∀ {ks : List Key} {us : List Value}, Vals (ks.map kV) us → ItemsAre (mixKind P w) ks us
  | [], _, r => by rw [List.map_nil] at r; cases r; exact .nil
  | k :: ks, _, r => by
    rw [List.map_cons] at r
    cases r with
    | cons h t => exact .cons (kV_is h) (items_are t)


abbrev KT (H : Hp) : List (List Key × V) → List (List Key × Addr × Value) → Prop := Paired fun p q => p.1 = q.1 ∧ H q.2.1 = some (.tup (p.1.map kV)) ∧ RelV p.2 q.2.2
theorem KT.val {H : Hp} {kvs : List (List Key × V)} {xs : List (List Key × Addr × Value)} (r : KT H kvs xs) (k : List Key) : RelO (valV kvs k) ((atKey xs k).map (·.2)) := by
  induction r with
  | nil => exact True.intro
  | @cons p q ps qs h t ih =>
    obtain ⟨h1, _, h2⟩ := h
    by_cases e : p.1 = k
    · have e' : q.1 = k := h1.symm.trans e
      have b : atKey (q :: qs) k = some q.2 := by simp [atKey, List.find?_cons, e']
      rw [valV_pos e, b]; exact h2
    · have e' : ¬ q.1 = k := fun z => e (h1.trans z)
      have b : atKey (q :: qs) k = atKey qs k := by simp [atKey, List.find?_cons, e']
      rw [valV_neg e, b]; exact ih
theorem KT.repl {H : Hp} {kvs : List (List Key × V)} {xs : List (List Key × Addr × Value)} (r : KT H kvs xs) (k : List Key) {y : V} {u : Value} (ry : RelV y u) :
    KT H (kvs.map fun kv => if kv.1 = k then (kv.1, y) else kv) (xs.map (putAt k u)) := by
  induction r with
  | nil => exact .nil
  | @cons p q ps qs h t ih =>
    rw [List.map_cons, List.map_cons]
    refine .cons ?_ ih
    obtain ⟨h1, h2, h3⟩ := h
    unfold putAt
    by_cases e : p.1 = k
    · rw [if_pos e, if_pos (h1.symm.trans e)]; exact ⟨h1, h2, ry⟩
    · rw [if_neg e, if_neg (fun z => e (h1.trans z))]; exact ⟨h1, h2, h3⟩
theorem KT.put {H : Hp} {kvs : List (List Key × V)} {xs : List (List Key × Addr × Value)} (r : KT H kvs xs) (k : List Key) {b : Addr} {y : V} {u : Value} (hb : H b = some (.tup (k.map kV))) (ry : RelV y u) :
    KT H (putK kvs k y) (storedH xs k b u) := by
  have e : (kvs.any fun kv => decide (kv.1 = k)) = (atKey xs k).isSome := by
    rw [valV_any, (r.val k).isSome_eq, Option.isSome_map]
  unfold putK storedH
  rw [e]
  by_cases q : (atKey xs k).isSome = true
  · rw [if_pos q, if_pos q]; exact r.repl k ry
  · rw [if_neg q, if_neg q]; exact Paired.snoc r ⟨rfl, hb, ry⟩
theorem KT.keeps {H H' : Hp} {kvs : List (List Key × V)} {xs : List (List Key × Addr × Value)} (r : KT H kvs xs) (ht : ∀ b ys, H b = some (.tup ys) → H' b = some (.tup ys)) : KT H' kvs xs :=
  Paired.mapP r fun _ _ z => ⟨z.1, ht _ _ z.2.1, z.2.2⟩

section
variable {P : Program} {w : World} {H : Hp} {h : Heap} {a : Addr}
theorem rd_of {u : HO} (ok : HOk P w H h) (e : Rd H a u) : ObjOk P w H h a u := e.ok ok
theorem dk_rd {kvs : List (Key × V)} (ok : HOk P w H h) (e : Rd H a (.dK kvs)) : kvs.length ≤ sizeLine ∧ (a == sysModules) = false ∧ ∃ vs, KV kvs vs ∧ h.DictOf (mixKind P w) a vs :=
  show ObjOk P w H h a (.dK kvs) from rd_of ok e
theorem dk_of {kvs : List (Key × V)} (ok : HOk P w H h) (e : H a = some (.dK kvs)) : kvs.length ≤ sizeLine ∧ (a == sysModules) = false ∧ ∃ vs, KV kvs vs ∧ h.DictOf (mixKind P w) a vs := dk_rd ok (.inl e)

theorem key_of {ks : List Key} (ok : HOk P w H h) (e : H a = some (.tup (ks.map kV))) : (tupleKind (mixKind P w)).is h ks a := by
  obtain ⟨_, its, r, o, h1, h2, n, h3⟩ := (show ObjOk P w H h a (.tup (ks.map kV)) from ok a _ e)
  exact ⟨o, its.toArray, n, h1, h2, h3.1, by simpa using items_are r⟩
theorem dt_rd {kvs : List (List Key × V)} (ok : HOk P w H h) (e : Rd H a (.dT kvs)) : kvs.length ≤ sizeLine ∧ (a == sysModules) = false ∧
    ∃ xs, KT H kvs xs ∧ h.DictOfH (tupleKind (mixKind P w)) a xs := by
  obtain ⟨z, y, xs, r, o, es, ep, h1, h2, h3, h4, h5⟩ := (show ObjOk P w H h a (.dT kvs) from rd_of ok e)
  refine ⟨z, y, xs, r, o, es, ep, h1, h2, h3, h4, fun x hx => ?_, h5⟩
  have all : ∀ {l : List (List Key × V)} {m : List (List Key × Addr × Value)}, KT H l m → ∀ x ∈ m, (tupleKind (mixKind P w)).is h x.1 x.2.1 := by
    intro l m q
    induction q with
    | nil => intro x hx; exact nomatch hx
    | @cons p q ps qs hq t ih =>
      intro x hx
      rcases List.mem_cons.mp hx with e | hx
      · subst e
        exact key_of ok (by rw [← hq.1]; exact hq.2.1)
      · exact ih x hx
  exact all r x hx
theorem dt_of {kvs : List (List Key × V)} (ok : HOk P w H h) (e : H a = some (.dT kvs)) : kvs.length ≤ sizeLine ∧ (a == sysModules) = false ∧
    ∃ xs, KT H kvs xs ∧ h.DictOfH (tupleKind (mixKind P w)) a xs := dt_rd ok (.inl e)
end


def DGet (H : Hp) (a : Addr) (y : V) (r : Option V) : Prop :=
  (∃ kvs k, Rd H a (.dK kvs) ∧ y = kV k ∧ r = valV kvs k) ∨ ∃ kvs k b, Rd H a (.dT kvs) ∧ y = .ref b ∧ H b = some (.tup (k.map kV)) ∧ r = valV kvs k

def DPut (H : Hp) (a : Addr) (y v : V) (H' : Hp) : Prop :=
  (∃ kvs k, H a = some (.dK kvs) ∧ y = kV k ∧ kvs.length < sizeLine ∧ H' = upd H a (.dK (putK kvs k v))) ∨
  ∃ kvs k b, H a = some (.dT kvs) ∧ y = .ref b ∧ H b = some (.tup (k.map kV)) ∧ kvs.length < sizeLine ∧ H' = upd H a (.dT (putK kvs k v))
section
variable {X : Cx} {pins : List (Addr × Obj)} {σ : St} {H : Hp} {s : Shared} {a : Addr} {y v : V} {u r : Value} {o : Option V} {A : Around} {E : Value → Shared → Prop}

theorem Inv.big (I : Inv X pins σ H s) : sysModules < s.heap.objs.size := by
  have h : mainGlobals < s.heap.objs.size := (I.mod.glob.keeps I.bk).lt
  exact Nat.lt_trans (by decide) h


theorem d_getItem {Q : Value → Shared → Prop} (hu : A.units + 1 < cLine) (I : Inv X pins σ H s) (g : DGet H a y (some v)) (ry : RelV y u) (h : ∀ w' s', Inv X pins σ H s' → RelV v w' → Q w' s') :
    wpAny (model X.prog X.w) A (getItem (.ref a) u) Q E s := by
  rcases g with ⟨kvs, k, e, ey, l⟩ | ⟨kvs, k, b, e, ey, eb, l⟩
  · subst ey
    obtain ⟨z, hd, vs, rel, dd⟩ := dk_rd I.hok e
    obtain ⟨w', hw, rw'⟩ := RelO.some_of (v := v) (o := valueAt vs k) (by rw [l]; exact rel.val k)
    exact wpAny_getItem_of (kV_is ry) dd.mapOf hw (h w' _ (I.tok _) rw')
  · subst ey
    cases (show u = Value.ref b from ry)
    obtain ⟨z, hd, xs, rel, dd⟩ := dt_rd I.hok e
    obtain ⟨w', hw, rw'⟩ := RelO.some_of (v := v) (o := (atKey xs k).map (·.2)) (by rw [l]; exact rel.val k)
    obtain ⟨p, hp, hp2⟩ := Option.map_eq_some_iff.mp hw
    refine wpAny_getItem_heap (tupleKind_room_in1 hu) (key_of I.hok eb) dd hp ?_
    rw [hp2]
    exact h w' _ (I.tok _) rw'

theorem d_in {Q : Value → Shared → Prop} (hu : A.units + 1 < cLine) (I : Inv X pins σ H s) (g : DGet H a y o) (ry : RelV y u) (h : ∀ s', Inv X pins σ H s' → Q (.bool o.isSome) s') :
    wpAny (model X.prog X.w) A (compareOp .In u (.ref a)) Q E s := by
  rcases g with ⟨kvs, k, e, ey, l⟩ | ⟨kvs, k, b, e, ey, eb, l⟩
  · subst ey
    obtain ⟨z, hd, vs, rel, dd⟩ := dk_rd I.hok e
    refine wpAny_in_of (kV_is ry) hd dd.mapOf ?_
    rw [← (rel.val k).isSome_eq, ← l]
    exact h _ (I.tok _)
  · subst ey
    cases (show u = Value.ref b from ry)
    obtain ⟨z, hd, xs, rel, dd⟩ := dt_rd I.hok e
    refine wpAny_in_heap (tupleKind_room_in1 hu) (key_of I.hok eb) hd dd ?_
    have q := (rel.val k).isSome_eq
    rw [Option.isSome_map] at q
    rw [← q, ← l]
    exact h _ (I.tok _)
theorem d_write {h' : Heap} {t' : Nat} {ob : HO} (I : Inv X pins σ H s) (mu : Mut (H a)) (hs : Heap.SameBut a s.heap h') (he : ∃ q, h'.get? a = some q) (new : ObjOk X.prog X.w (upd H a ob) h' a ob) :
    Inv X pins σ (upd H a ob) { s with heap := h', toks := t' } :=
  I.write (x := a) (e := a) mu (.inl rfl) (fun b q hb z => (hs.2 b hb).trans z) he new
theorem dk_new {P : Program} {w : World} {H' : Hp} {h' : Heap} {kvs : List (Key × V)} {vs : List (Key × Value)} (z : kvs.length ≤ sizeLine) (hd : (a == sysModules) = false) (rel : KV kvs vs) (dd : h'.DictOf (mixKind P w) a vs) :
    ObjOk P w H' h' a (.dK kvs) := ⟨z, hd, vs, rel, dd⟩

theorem d_setItem {H' : Hp} {Q : Unit → Shared → Prop} (hu : A.units + 1 < cLine) (I : Inv X pins σ H s) (g : DPut H a y v H') (ry : RelV y u) (rv : RelV v r) (h : ∀ s', Inv X pins σ H' s' → Q () s') :
    wpAny (model X.prog X.w) A (setItem (.ref a) u r) Q E s := by
  rcases g with ⟨kvs, k, e, ey, l, eH⟩ | ⟨kvs, k, b, e, ey, eb, l, eH⟩
  · subst ey eH
    obtain ⟨z, hd, vs, rel, dd⟩ := dk_of I.hok e
    have hz : vs.length ≤ sizeLine := by rw [← rel.length]; exact z
    have hl : (putK kvs k v).length ≤ sizeLine := by have := length_putK kvs k v; omega
    refine wpAny_setItem_pairs (hsz := hz) (kV_is ry) dd fun h' dd' hs => h _ ?_
    have he : ∃ q, h'.get? a = some q := let ⟨q, _, _, hq, _⟩ := dd'; ⟨q, hq⟩
    exact d_write I (by rw [e]; exact True.intro) hs he (dk_new hl hd (rel.put k rv) dd')
  · subst ey eH
    cases (show u = Value.ref b from ry)
    obtain ⟨z, hd, xs, rel, dd⟩ := dt_of I.hok e
    have hz : xs.length ≤ sizeLine := by rw [← Paired.length rel]; exact z
    have hl : (putK kvs k v).length ≤ sizeLine := by have := length_putK kvs k v; omega
    refine wpAny_setItem_heap (hsz := hz) (tupleKind_room_in1 hu) (key_of I.hok eb) dd fun h' dd' hs => h _ ?_
    obtain ⟨q, es, ep, hq, h2, h3, h4, _, h5⟩ := dd'
    refine d_write I (by rw [e]; exact True.intro) hs ⟨q, hq⟩ ⟨hl, hd, _, (rel.put k eb rv).keeps fun c ys ec => ?_, q, es, ep, hq, h2, h3, h4, h5⟩
    rw [upd_ne (ne_of ec e (fun z => nomatch z))]
    exact ec
end

section
variable {X : Cx} {pins : List (Addr × Obj)} {σ : St} {H : Hp} {s : Shared} {a : Addr} {kvs : List (Key × V)} {k : Key} {u : Value} {A : Around} {E : Value → Shared → Prop}

end




def NoSl (i : Expr) : Prop := ∀ ov iv, subscripted i false ov iv = operate [ov, iv] (getItem ov iv)
theorem subD_of {prog : Program} {w : World} {A : Around} {E : Value → Shared → Prop} {s : Shared} {env : Env} {value slice : Expr} {pos : Pos} {T id : String} {Q : Value → Shared → Prop}
    (hl : typeLookup (.type T) "__getitem__" = pure (some (.builtin id))) (hs : NoSl slice)
    (h : wpAny (model prog w) A (eval value env) (fun o s₁ => wpAny (model prog w) A (eval slice env) (fun i s₂ => s₂.TypeIs o T ∧ wpAny (model prog w) A (getItem o i) Q E s₂) E s₁) E s) :
    wpAny (model prog w) A (eval (.Subscript value slice pos) env) Q E s := by
  refine Subscript_ (wpAny_mono h (fun o s₁ h₁ => wpAny_mono h₁ (fun i s₂ h₂ => ?_) fun _ _ x => x) fun _ _ x => x)
  obtain ⟨hT, h₂⟩ := h₂
  unfold subscriptTail
  refine wpAny_bind ?_
  rw [getitemInPython_of_ne hT.not_modules]
  refine wpAny_bind (wpAny_specialOf hT hl ?_)
  have fin : wpAny (model prog w) A (subscripted slice false o i) (fun r s₃ => wpAny (model prog w) A (letTemporaryGo value o r >>= fun _ => pure r) Q E s₃) E s₂ := by
    rw [hs o i]
    exact wpAny_operating (wpAny_mono h₂ (fun r s₃ h₃ => wpAny_bind (wpAny_letTemporaryGo (wpAny_pure h₃))) fun _ _ x => x)
  first
    | exact wpAny_pure (wpAny_bind fin)
    | exact wpAny_bind (wpAny_pure (wpAny_bind fin))
    | exact wpAny_bind fin

theorem dict_typeIs {X : Cx} {pins : List (Addr × Obj)} {σ : St} {H : Hp} {s : Shared} {a : Addr} {y : V} {o : Option V} (I : Inv X pins σ H s) (g : DGet H a y o) : s.TypeIs (.ref a) "dict" := by
  rcases g with ⟨kvs, k, e, _, _⟩ | ⟨kvs, k, b, e, _, _, _⟩
  · obtain ⟨_, _, vs, _, dd⟩ := dk_rd I.hok e
    exact dd.typeIs
  · obtain ⟨_, _, xs, _, dd⟩ := dt_rd I.hok e
    exact dd.typeIs
def tDGet (td ty : TE) : TE := fun σ H Q => td σ H fun x H1 => ty σ H1 fun y H2 => ∃ a v, x = .ref a ∧ DGet H2 a y (some v) ∧ Q v H2

def tDIn (ty td : TE) : TE := fun σ H Q => ty σ H fun y H1 => td σ H1 fun x H2 => ∃ a o, x = .ref a ∧ DGet H2 a y o ∧ Q (.bl o.isSome) H2
def sDPut (td ty tv : TE) : TS := fun D σ H => tv σ H fun v H1 => td σ H1 fun x H2 => ty σ H2 fun y H3 => ∃ a H4, x = .ref a ∧ DPut H3 a y v H4 ∧ D.nx σ H4

section
variable {X : Cx} {o i e value : Expr} {pos pos' tpos : Pos} {td ty tv : TE}
theorem pe_dget (hu : X.A.units + 1 < cLine) (ho : PE X o td) (hi : PE X i ty) (hs : NoSl i) : PE X (.Subscript o i pos) (tDGet td ty) := by
  intro pins s σ H Q I h
  refine subD_of PySem.F.slot_dict_getitem.lookup hs (thn (ho pins s σ H _ I h) fun u s1 ⟨x, H1, I1, rx, q1⟩ => thn (hi pins s1 σ H1 _ I1 q1) fun iv s2 ⟨y, H2, I2, ry, a, v, ex, g, q2⟩ => ?_)
  subst ex
  obtain rfl : u = Value.ref a := rx
  exact ⟨dict_typeIs I2 g, d_getItem hu I2 g ry fun w' s3 I3 rw' => ⟨v, H2, I3, rw', q2⟩⟩
theorem pc_din (hu : X.A.units + 1 < cLine) (hi : PE X i ty) (ho : PE X o td) : PC X .In i o (tDIn ty td) := by
  intro pins s σ H Q I h
  refine thn (hi pins s σ H _ I h) fun iv s1 ⟨y, H1, I1, ry, q1⟩ => thn (ho pins s1 σ H1 _ I1 q1) fun u s2 ⟨x, H2, I2, rx, a, ov, ex, g, q2⟩ => ?_
  subst ex
  obtain rfl : u = Value.ref a := rx
  exact d_in hu I2 g ry fun s3 I3 => ⟨.bl ov.isSome, H2, I3, rfl, q2⟩
theorem ps_dput (hu : X.A.units + 1 < cLine) (ho : PE X o td) (hi : PE X i ty) (hv : PE X value tv) (hs : swapsWith value (some (.Subscript o i pos')) pos.line X.env = pure false) :
    PS X (.Assign [.Subscript o i pos'] value pos) (sDPut td ty tv) := by
  intro pins s σ H D I h
  refine wpAny_Assign_Subscript (thn (hv pins s σ H _ I h) fun r s1 ⟨v, H1, I1, rv, q1⟩ => thn (ho pins s1 σ H1 _ I1 q1) fun u s2 ⟨x, H2, I2, rx, q2⟩ => thn (hi pins s2 σ H2 _ I2 q2) fun iv s3 ⟨y, H3, I3, ry, a, H4, ex, g, q3⟩ => ?_) hs
  subst ex
  obtain rfl : u = Value.ref a := rx
  exact d_setItem hu I3 g ry rv fun s4 I4 => ⟨σ, H4, I4, q3⟩
end



theorem dk_empty {P : Program} {w : World} {H : Hp} (h : Heap) (hb : sysModules < h.objs.size) : ObjOk P w H (h.push { cls := .type "dict", data := .dict #[] }) h.objs.size (.dK []) :=
  ⟨Nat.zero_le _, beq_eq_false_iff_ne.mpr (Ne.symm (Nat.ne_of_lt hb)), [], .nil, Heap.DictOf.new h⟩
theorem dt_empty {P : Program} {w : World} {H : Hp} (h : Heap) (hb : sysModules < h.objs.size) : ObjOk P w H (h.push { cls := .type "dict", data := .dict #[] }) h.objs.size (.dT []) :=
  ⟨Nat.zero_le _, beq_eq_false_iff_ne.mpr (Ne.symm (Nat.ne_of_lt hb)), [], .nil, _, #[], 0, Heap.get?_push_size _ rfl, ⟨rfl, rfl, rfl⟩, rfl, rfl, List.nodup_nil⟩

def tDNewK : TE := fun _ H Q => ∀ p, H p = none → Q (.ref p) (upd H p (.dK []))
def tDNewT : TE := fun _ H Q => ∀ p, H p = none → Q (.ref p) (upd H p (.dT []))
section
variable {X : Cx} {pos : Pos}
theorem pe_dnewK : PE X (.Dict [] [] pos) tDNewK := fun pins s σ H Q I h =>
  wpAny_Dict_empty ⟨.ref s.heap.objs.size, _, I.laid (a := s.heap.objs.size) (o := .dK []) (t' := s.toks) (fun _ _ q => Heap.get?_push_of_some _ q) (Nat.le_refl _) (dk_empty s.heap I.big), rfl, h _ (I.hok.fresh (Nat.le_refl _))⟩
theorem pe_dnewT : PE X (.Dict [] [] pos) tDNewT := fun pins s σ H Q I h =>
  wpAny_Dict_empty ⟨.ref s.heap.objs.size, _, I.laid (a := s.heap.objs.size) (o := .dT []) (t' := s.toks) (fun _ _ q => Heap.get?_push_of_some _ q) (Nat.le_refl _) (dt_empty s.heap I.big), rfl, h _ (I.hok.fresh (Nat.le_refl _))⟩
end


def mergeK (kvs more : List (Key × V)) : List (Key × V) := more.foldl (fun acc kv => putK acc kv.1 kv.2) kvs
theorem KV.merge : ∀ {more : List (Key × V)} {rs : List (Key × Value)} {kvs : List (Key × V)} {vs : List (Key × Value)}, KV more rs → KV kvs vs → KV (mergeK kvs more) (merged vs rs) := by
  intro more rs kvs vs r
  unfold KV at r
  induction r generalizing kvs vs with
  | nil => intro q; exact q
  | @cons p q ps qs h t ih =>
    intro r0
    have e : KV (putK kvs p.1 p.2) (stored vs q.1 q.2) := by
      have := r0.put p.1 h.2
      rw [← h.1]; exact this
    exact ih e
structure M2 (X : Cx) (o : Expr) (m : Str) (apos : Pos) (e f : Expr) (cpos : Pos) : Prop where
  base : attributeBase o m X.env (eval o X.env) = eval o X.env
  few : ((backTo cpos (starEach [e, f] X.env)).all (fun x => !x.1) && (backToKw cpos (keywordEach [] X.env)).all (fun x => x.1.isSome)
    && decide (([e, f] : List Expr).length + ([] : List Keyword).length + (if ([] : List Keyword).isEmpty then 0 else 1) < 30)) = true
  line : (apos.endLine == cpos.line) = true
  trees : backTo cpos (starEach [e, f] X.env) = [(false, eval e X.env), (false, eval f X.env)]


def IsD (H : Hp) (a : Addr) : Prop := (∃ kvs, Rd H a (.dK kvs)) ∨ ∃ kvs, Rd H a (.dT kvs)
theorem isD_at {X : Cx} {pins : List (Addr × Obj)} {σ : St} {H : Hp} {s : Shared} {a : Addr} (I : Inv X pins σ H s) (d : IsD H a) :
    s.TypeIs (.ref a) "dict" ∧ (∀ b, Value.ref a = .ref b → ∃ ob, s.heap.get? b = some ob ∧ ob.dict = none) ∧ (a == sysModules) = false := by
  rcases d with ⟨kvs, e⟩ | ⟨kvs, e⟩
  · obtain ⟨_, hd, vs, _, dd⟩ := dk_rd I.hok e
    refine ⟨dd.typeIs, fun b q => ?_, hd⟩
    cases q
    obtain ⟨ob, _, _, h1, h2, _⟩ := dd
    exact ⟨ob, h1, h2.2.1⟩
  · obtain ⟨_, hd, xs, _, dd⟩ := dt_rd I.hok e
    refine ⟨dd.typeIs, fun b q => ?_, hd⟩
    cases q
    obtain ⟨ob, _, _, h1, h2, _⟩ := dd
    exact ⟨ob, h1, h2.2.1⟩

section
variable {X : Cx} {pins : List (Addr × Obj)} {σ : St} {H : Hp} {s : Shared} {a : Addr} {y d : V} {u r : Value} {o : Option V} {A : Around} {E : Value → Shared → Prop}

theorem d_get2 {Q : Value → Shared → Prop} (hu : A.units + 1 < cLine) (I : Inv X pins σ H s) (g : DGet H a y o) (ry : RelV y u) (rd : RelV d r) (h : ∀ w' s', Inv X pins σ H s' → RelV (o.getD d) w' → Q w' s') :
    wpAny (model X.prog X.w) A (call (.builtin "dict.get") [.ref a, u, r]) Q E s := by
  rcases g with ⟨kvs, k, e, ey, l⟩ | ⟨kvs, k, b, e, ey, eb, l⟩
  · subst ey
    obtain ⟨z, hd, vs, rel, dd⟩ := dk_rd I.hok e
    refine call_meetsIn PySem.F.slot_dict_get dd.typeIs PySem.F.entry_dict_get (PySem.F.args_dict_get_3 _ _ _) (meets_dict_get_default (mixKind X.prog X.w) a (kV_is ry) hd r) ⟨_, dd.mapOf, h _ _ (I.tok _) ?_⟩
    rw [l]
    exact (rel.val k).getD rd
  · subst ey
    cases (show u = Value.ref b from ry)
    obtain ⟨z, hd, xs, rel, dd⟩ := dt_rd I.hok e
    refine call_meetsIn PySem.F.slot_dict_get dd.typeIs PySem.F.entry_dict_get (PySem.F.args_dict_get_3 _ _ _) (meetsH_dict_get_default (tupleKind (mixKind X.prog X.w)) a b hd r) ⟨tupleKind_room_in1 hu, k, xs, key_of I.hok eb, dd, h _ _ (I.tok _) ?_⟩
    rw [l]
    exact (rel.val k).getD rd
end

def tDGet2 (td ty tx : TE) : TE := fun σ H Q => td σ H fun x H1 => ∃ a, x = .ref a ∧ IsD H1 a ∧ ty σ H1 fun y H2 => tx σ H2 fun z H3 => ∃ o, DGet H3 a y o ∧ Q (o.getD z) H3

section
variable {X : Cx} {o e f : Expr} {apos cpos : Pos} {td ty tx : TE}
theorem pe_dget2 (hu : X.A.units + 1 < cLine) (ho : PE X o td) (he : PE X e ty) (hf : PE X f tx) (m : M2 X o "get" apos e f cpos) : PE X (.Call (.Attribute o "get" apos) [e, f] [] cpos) (tDGet2 td ty tx) := by
  intro pins s σ H Q I h
  refine wpAny_Call_method m.base m.few m.line PySem.F.plainAttrs_dict PySem.F.slot_dict_get PySem.F.type_dict_get (thn (ho pins s σ H _ I h) fun u s1 ⟨x, H1, I1, rx, a, ex, d, q1⟩ => ?_)
  subst ex
  obtain rfl : u = Value.ref a := rx
  obtain ⟨t1, t2, _⟩ := isD_at I1 d
  refine ⟨t1, t2, ?_⟩
  rw [m.trees]
  refine Calls.callWith_builtin rfl (Calls.evalArgs_plain (Calls.spliced_cons (thn (he pins s1 σ H1 _ I1 q1) fun iv s2 ⟨y, H2, I2, ry, q2⟩ =>
    Calls.spliced_cons (thn (hf pins s2 σ H2 _ I2 q2) fun fv s3 ⟨z, H3, I3, rz, ov, g, q3⟩ => Calls.spliced_nil ?_))))
  exact d_get2 hu I3 g ry rz fun w' s4 I4 rw' => ⟨_, H3, I4, rw', q3⟩
end


section
variable {X : Cx} {pins : List (Addr × Obj)} {σ : St} {H : Hp} {s : Shared} {a : Addr} {kvs : List (Key × V)} {A : Around} {E : Value → Shared → Prop}
end


section
variable {X : Cx} {pins : List (Addr × Obj)} {σ : St} {H : Hp} {s : Shared} {a : Addr} {y : V} {u : Value} {A : Around} {E : Value → Shared → Prop}

end
end L2

namespace HT
open PySem PyProof.Rows


section
open PySem.SeqAt
open PySem.AutoSeq1 (wpAny_loadPart')
open PySem.MeetsSeq PySem.MeetsSeq2 PySem.MeetsSeq3

end

section
variable {prog : Program} {w : World} {A : Around} {E : Value → Shared → Prop} {s : Shared}

theorem cat_tup {t b : Addr} {vs ws : List Value} {Q : Value → Shared → Prop} (ht : IsTup s.heap t vs.toArray) (hb : IsTup s.heap b ws.toArray) (hv : vs ≠ [])
    (h1 : ws = [] → Q (.ref t) s) (h2 : ws ≠ [] → Q (.ref s.heap.objs.size) { s with heap := s.heap.push { cls := .type "tuple", data := .seq (vs ++ ws).toArray } })
    (hsz : vs.length + ws.length ≤ sizeLine) : wpAny (model prog w) A (binaryOp .Add (.ref t) (.ref b)) Q E s := by
  obtain ⟨⟨cls, dd, data, sl⟩, ho, hc, n, hd⟩ := id ht
  obtain ⟨⟨cls2, dd2, data2, sl2⟩, ho2, hc2, n2, hd2⟩ := id hb
  simp only at hc hd hc2 hd2
  subst hc hd hc2 hd2
  have e : vs.toArray ++ ws.toArray = (vs ++ ws).toArray := by simp
  by_cases hw : ws = []
  · exact concat_meets ⟨_, ho, rfl⟩ ⟨_, ho2, rfl⟩ noFill_tuple_add seq_tuple_add PySem.F.slot_tuple_add PySem.F.entry_tuple_add (PySem.F.args_tuple_add_2 _ _)
      (tuple_addW1 t b vs.toArray ws.toArray n n2 dd dd2 sl sl2 (by simpa using hv) (by simp [hw])) ⟨ho, ho2, h1 hw⟩
  · refine concat_meets ⟨_, ho, rfl⟩ ⟨_, ho2, rfl⟩ noFill_tuple_add seq_tuple_add PySem.F.slot_tuple_add PySem.F.entry_tuple_add (PySem.F.args_tuple_add_2 _ _)
      (tuple_addW2 t b vs.toArray ws.toArray n n2 dd dd2 sl sl2 (by simpa using hv) (by simpa using hw) (by rw [List.size_toArray, List.size_toArray]; exact hsz)) ⟨ho, ho2, ?_⟩
    rw [e]
    exact h2 hw



def sIx (n d : Nat) : Option Int → Nat
  | none => d
  | some v => if v < 0 then (v + (n : Int)).toNat else min v.toNat n
theorem sIx_le (n d : Nat) (hd : d ≤ n) (o : Option Int) : sIx n d o ≤ n := by
  cases o with
  | none => exact hd
  | some v =>
    show (if v < 0 then (v + (n : Int)).toNat else min v.toNat n) ≤ n
    by_cases hv : v < 0
    · rw [if_pos hv]; omega
    · rw [if_neg hv]; exact Nat.min_le_right _ _
theorem clip_eq (v : Int) (n d : Nat) : (if v < 0 then max (v + (n : Int)) 0 else min v (n : Int)) = ((sIx n d (some v) : Nat) : Int) := by
  show (if v < 0 then max (v + (n : Int)) 0 else min v (n : Int)) = (((if v < 0 then (v + (n : Int)).toNat else min v.toNat n) : Nat) : Int)
  by_cases hv : v < 0
  · simp only [if_pos hv]; omega
  · simp only [if_neg hv]; omega
theorem adjust_gen (lo hi : Option Int) (n : Nat) : Builtin.Slice.sliceAdjust lo hi 1 (n : Int) = (((sIx n 0 lo : Nat) : Int), ((sIx n n hi : Nat) : Int)) := by
  have h1 : ¬ ((1 : Int) < 0) := by omega
  unfold Builtin.Slice.sliceAdjust
  simp only [h1, if_false]
  refine Prod.ext ?_ ?_
  · cases lo with
    | none => rfl
    | some v => exact clip_eq v n 0
  · cases hi with
    | none => rfl
    | some v => exact clip_eq v n n
theorem places_gen (i j : Nat) : Builtin.Slice.slicePlaces (i : Int) (j : Int) 1 = j - i := by
  unfold Builtin.Slice.slicePlaces
  have h1 : (1 : Int) > 0 := by omega
  simp only [h1, if_true, Int.ediv_one]
  split <;> omega
theorem slicePart_ {v : Value} {o : Option Int} {Q : Option Int → Shared → Prop} (p : IsPart v o) (h : Q o s) : wpAny (model prog w) A (Builtin.Slice.slicePartIndex v) Q E s := by
  cases p with
  | none => exact slicePart_none h
  | int i t => exact slicePart_int h
theorem sliceApplied_gen {sl : Addr} {vl vu : Value} {lo hi : Option Int} {n : Nat} {Q : Int × Int × Nat → Shared → Prop} (hs : s.heap.IsSliceOf sl vl vu .none) (pl : IsPart vl lo) (pu : IsPart vu hi)
    (h : Q (((sIx n 0 lo : Nat) : Int), 1, sIx n n hi - sIx n 0 lo) s) : wpAny (model prog w) A (Builtin.Slice.sliceApplied (.ref sl) (pure (n : Int))) Q E s := by
  obtain ⟨os, hos, hcs, hds⟩ := id hs
  unfold Builtin.Slice.sliceApplied Builtin.Slice.sliceFields
  refine wpAny_bind (wpAny_bind (wpAny_field hos hds (x := vl) rfl (wpAny_bind (wpAny_field hos hds (x := vu) rfl (wpAny_bind (wpAny_field hos hds (x := .none) rfl (wpAny_pure ?_)))))))
  refine wpAny_bind (slicePart_none ?_)
  show wpAny _ _ (if ((1 : Int) == 0) = true then _ else _) _ _ s
  rw [if_neg (by decide)]
  refine wpAny_bind (slicePart_ pl (wpAny_bind (slicePart_ pu (wpAny_bind (wpAny_pure ?_)))))
  show wpAny _ _ (match Builtin.Slice.sliceAdjust lo hi 1 (n : Int) with | (lo, hi) => pure (lo, (1 : Int), Builtin.Slice.slicePlaces lo hi 1)) _ _ s
  rw [adjust_gen lo hi n]
  show wpAny _ _ (pure (((sIx n 0 lo : Nat) : Int), (1 : Int), Builtin.Slice.slicePlaces ((sIx n 0 lo : Nat) : Int) ((sIx n n hi : Nat) : Int) 1)) _ _ s
  rw [places_gen]
  exact wpAny_pure h
theorem pick_gen (xs : Array Value) (i k : Nat) : ((List.range k).filterMap fun (m : Nat) => xs[((i : Int) + (m : Int) * 1).toNat]?).toArray = ((xs.toList.drop i).take k).toArray := by
  have e : (fun (m : Nat) => xs[((i : Int) + (m : Int) * 1).toNat]?) = fun m => xs[i + m]? := by
    funext m
    have : ((i : Int) + (m : Int) * 1).toNat = i + m := by omega
    rw [this]
  rw [e]
  have := pick_run xs i k
  rw [List.filterMap_map] at this
  have e2 : ((fun x => xs[x]?) ∘ fun x => i + x) = fun m => xs[i + m]? := rfl
  rw [e2] at this
  rw [this]

theorem getItem_tuple_cut {t sl : Addr} {items : Array Value} {vl vu : Value} {lo hi : Option Int} {Q : Value → Shared → Prop} (ht : IsTup s.heap t items) (hs : s.heap.IsSliceOf sl vl vu .none) (pl : IsPart vl lo) (pu : IsPart vu hi)
    (hw : ¬ (sIx items.size 0 lo = 0 ∧ sIx items.size items.size hi = items.size))
    (h : Q (.ref s.heap.objs.size) { s with heap := s.heap.push { cls := .type "tuple", data := .seq ((items.toList.drop (sIx items.size 0 lo)).take (sIx items.size items.size hi - sIx items.size 0 lo)).toArray } })
    (hsz : items.size ≤ sizeLine) : wpAny (model prog w) A (getItem (.ref t) (.ref sl)) Q E s := by
  have htake : sizeOk (.seq ((items.toList.drop (sIx items.size 0 lo)).take (sIx items.size items.size hi - sIx items.size 0 lo)).toArray) := by
    show ((items.toList.drop (sIx items.size 0 lo)).take (sIx items.size items.size hi - sIx items.size 0 lo)).toArray.size ≤ sizeLine
    rw [List.size_toArray, List.length_take, List.length_drop, Array.length_toList]
    omega
  have hj : sIx items.size items.size hi ≤ items.size := sIx_le _ _ (Nat.le_refl _) hi
  obtain ⟨os, hos, hcs, hds⟩ := id hs
  have hTs : s.TypeIs (.ref sl) "slice" := ⟨os, hos, hcs⟩
  unfold getItem
  try with_reducible refine wpAny_holding ?_
  first | refine wpAny_bind (wpAny_pure ?_) | skip
  refine wpAny_bind (wpAny_sequenceKey ht.typeIs (by decide) ?_)
  refine wpAny_bind (wpAny_callSpecial?_slot (name := Str.ofString "__getitem__") ht.typeIs PyProof.Rows.slot_tuple_getitem
    (wpAny_call_entry PyProof.Rows.slot_tuple_getitem ht.typeIs entry_tuple_getitem ?_ (args_tuple_getitem _ _)))
  show wpAny _ _ (Builtin.Tuple.tupleItemsOf (.ref t) >>= _) _ _ s
  refine wpAny_bind (tupleItemsOf_ ht ?_)
  refine wpAny_bind (wpAny_typeOf hTs ?_)
  rw [if_pos (by decide)]
  refine wpAny_bind (sliceApplied_gen hs pl pu ?_)
  have hno : ¬ ((((sIx items.size 0 lo : Nat) : Int) == 0 && (1 : Int) == 1 && (sIx items.size items.size hi - sIx items.size 0 lo) == items.size) = true) := by
    intro q
    rw [Bool.and_eq_true, Bool.and_eq_true] at q
    have q1 : ((sIx items.size 0 lo : Nat) : Int) = 0 := eq_of_beq q.1.1
    have q2 : sIx items.size items.size hi - sIx items.size 0 lo = items.size := eq_of_beq q.2
    exact hw ⟨by omega, by omega⟩
  show wpAny _ _ (if (((sIx items.size 0 lo : Nat) : Int) == 0 && (1 : Int) == 1 && (sIx items.size items.size hi - sIx items.size 0 lo) == items.size) = true then _ else _) _ _ s
  rw [if_neg hno, pick_gen]
  first
    | exact wpAny_bind (m := Builtin.Tuple.tupleExact _) (wpAny_newObj_type (wpAny_pure ⟨_, rfl, wpAny_pure h⟩) htake)
    | exact wpAny_bind (m := Builtin.Tuple.tupleExact _) (wpAny_newObj_type (wpAny_bind (wpAny_pure (wpAny_pure ⟨_, rfl, wpAny_pure h⟩))) htake)
    | exact wpAny_bind (wpAny_bind (m := Builtin.Tuple.tupleExact _) (wpAny_newObj_type (wpAny_pure (wpAny_pure ⟨_, rfl, wpAny_pure h⟩)) htake))
    | exact wpAny_bind (wpAny_bind (m := Builtin.Tuple.tupleExact _) (wpAny_newObj_type (wpAny_pure ⟨_, rfl, wpAny_pure h⟩) htake))
end
end HT

namespace L2
open PySem PySem.Spec PyProof.Rows


abbrev TO := St → Hp → (Option Int → Hp → Prop) → Prop

def PO (X : Cx) (e : Option Expr) (t : TO) : Prop :=
  ∀ (pins : List (Addr × Obj)) (s : Shared) (σ : St) (H : Hp) (Q : Option Int → Hp → Prop), Inv X pins σ H s → t σ H Q →
    wpAny (model X.prog X.w) X.A (evalPart e X.env) (fun u s' => ∃ o H', Inv X pins σ H' s' ∧ IsPart u o ∧ Q o H') X.xe s
def tNoPart : TO := fun _ H Q => Q none H
def tPart (t : TE) : TO := fun σ H Q => t σ H fun x H1 => ∃ i, x = .int i ∧ Q (some i) H1

theorem intsAre_of {ns : List Int} : ∀ {us : List Value}, Vals (ns.map V.int) us → IntsAre us ns := by
  induction ns with
  | nil => intro us r; rw [List.map_nil] at r; cases r; exact .nil
  | cons n ns ih =>
    intro us r
    rw [List.map_cons] at r
    cases r with
    | cons r1 r2 =>
      obtain ⟨t, e⟩ := r1
      subst e
      exact .cons n t (ih r2)

section
variable {X : Cx} {e : Expr} {te : TE} {lo hi : Option Expr} {tl th : TO} {pos p2 : Pos}

theorem po_none : PO X none tNoPart := by
  intro pins s σ H Q I h
  rw [evalPart_none]
  exact wpAny_pure ⟨none, H, I, .none, h⟩
theorem po_some (h : PE X e te) : PO X (some e) (tPart te) := by
  intro pins s σ H Q I hw
  rw [evalPart_some]
  refine thn (h pins s σ H _ I hw) fun u s1 ⟨x, H1, I1, r1, q1⟩ => ?_
  obtain ⟨i, rfl, q⟩ := q1
  obtain ⟨t, rfl⟩ := r1
  exact ⟨some i, H1, I1, .int i t, q⟩


def SlR (X : Cx) (r : V → Option Int → Option Int → Hp → VK → Prop) : Prop :=
  ∀ (pins : List (Addr × Obj)) (s : Shared) (σ : St) (H : Hp) (x : V) (v vl vu : Value) (lo hi : Option Int) (sl : Addr) (Q : VK), Inv X pins σ H s → RelV x v → s.heap.IsSliceOf sl vl vu .none → IsPart vl lo → IsPart vu hi → r x lo hi H Q →
    ∃ T id, typeLookup (.type T) "__getitem__" = pure (some (.builtin id)) ∧ s.TypeIs v T ∧ wpAny (model X.prog X.w) X.A (getItem v (.ref sl)) (EP X pins σ Q) X.xe s
def tSl (r : V → Option Int → Option Int → Hp → VK → Prop) (te : TE) (tl th : TO) : TE := fun σ H Q => te σ H fun x H1 => tl σ H1 fun l H2 => th σ H2 fun u H3 => r x l u H3 Q

theorem pe_slice {r : V → Option Int → Option Int → Hp → VK → Prop} (hr : SlR X r) (he : PE X e te) (hl : PO X lo tl) (hu : PO X hi th) : PE X (.Subscript e (.Slice lo hi none p2) pos) (tSl r te tl th) := by
  intro pins s σ H Q I h
  refine Subscript_ (thn (he pins s σ H _ I h) fun v s1 ⟨x, H1, I1, r1, q1⟩ => ?_)
  refine wpAny_Slice (thn (hl pins s1 σ H1 _ I1 q1) fun vl s2 ⟨l, H2, I2, pl, q2⟩ => thn (hu pins s2 σ H2 _ I2 q2) fun vu s3 ⟨u, H3, I3, pu, q3⟩ => ?_)
  rw [evalPart_none]
  refine wpAny_pure ?_
  have I4 : Inv X pins σ H3 { s3 with heap := s3.heap.push { cls := .type "slice", data := .fields #[vl, vu, .none] } } := I3.kept (t' := s3.toks) fun b ob q => Heap.get?_push_of_some _ q
  obtain ⟨T, id, hT, ht, hg⟩ := hr pins { s3 with heap := s3.heap.push { cls := .type "slice", data := .fields #[vl, vu, .none] } } σ H3 x v vl vu l u s3.heap.objs.size Q I4 r1 (Heap.IsSliceOf.new ..) pl pu q3
  show wpAny (model X.prog X.w) X.A (subscriptTail e (.Slice lo hi none p2) v (.ref s3.heap.objs.size)) (EP X pins σ Q) X.xe { s3 with heap := s3.heap.push { cls := .type "slice", data := .fields #[vl, vu, .none] } }
  exact tail_any (ops := [.ref s3.heap.objs.size, v]) ht hT hg (by with_unfolding_all rfl)


def cutV (xs : List V) (lo hi : Option Int) : List V := (xs.drop (HT.sIx xs.length 0 lo)).take (HT.sIx xs.length xs.length hi - HT.sIx xs.length 0 lo)
theorem cutV_length (xs : List V) (lo hi : Option Int) : (cutV xs lo hi).length ≤ xs.length := by
  unfold cutV
  rw [List.length_take, List.length_drop]
  omega

def rSlT (K : PySem.W.Frag) : V → Option Int → Option Int → Hp → VK → Prop := fun x lo hi H Q => ∃ a xs, x = .ref a ∧ SqT K H a xs ∧
  ¬ (HT.sIx xs.length 0 lo = 0 ∧ HT.sIx xs.length xs.length hi = xs.length) ∧ ∀ p, H p = none → Q (.ref p) (upd H p (.tup (cutV xs lo hi)))
theorem sl_tup : SlR X (rSlT X.K) := by
  intro pins s σ H x v vl vu lo hi sl Q I rx hs pl pu h
  obtain ⟨a, xs, rfl, hx, hw, q⟩ := h
  cases rx
  obtain ⟨its, r, ht, hz⟩ := I.tuple hx
  have hlen : its.toArray.size = xs.length := by rw [List.size_toArray]; exact r.length.symm
  refine ⟨"tuple", _, PyProof.Rows.slot_tuple_getitem.lookup, ht.typeIs, ?_⟩
  refine HT.getItem_tuple_cut ht hs pl pu (by rw [hlen]; exact hw) ?_ (by rw [hlen]; exact hz)
  rw [hlen]
  refine ⟨.ref s.heap.objs.size, _, I.laid (t' := s.toks) (o := .tup (cutV xs lo hi)) (fun b ob q => Heap.get?_push_of_some _ q) (Nat.le_refl _) ?_, rfl, q _ (I.hok.fresh (Nat.le_refl _))⟩
  exact ⟨Nat.le_trans (cutV_length xs lo hi) hz, _, (r.drop (HT.sIx xs.length 0 lo)).take (HT.sIx xs.length xs.length hi - HT.sIx xs.length 0 lo), IsTpl.new _ _⟩


def rCatT (K : PySem.W.Frag) : R2 := fun x y H Q => ∃ a b xs ys, x = .ref a ∧ y = .ref b ∧ SqT K H a xs ∧ SqT K H b ys ∧ xs ≠ [] ∧ xs.length + ys.length ≤ sizeLine ∧
  (ys = [] → Q (.ref a) H) ∧ (ys ≠ [] → ∀ p, H p = none → Q (.ref p) (upd H p (.tup (xs ++ ys))))
theorem Vals.nil_iff {xs : List V} {us : List Value} (r : Vals xs us) : us = [] ↔ xs = [] := by
  cases r with
  | nil => simp
  | cons _ _ => simp
theorem op_catT : OpR X (binaryOp .Add) (rCatT X.K) := by
  intro pins s σ H x y v u Q I rx ry h
  obtain ⟨a, b, xs, ys, rfl, rfl, ha, hb, hx, hz, q1, q2⟩ := h
  cases rx
  cases ry
  obtain ⟨its, r1, p1, _⟩ := I.tuple ha
  obtain ⟨its2, r2, p2, _⟩ := I.tuple hb
  refine HT.cat_tup p1 p2 (fun z => hx (r1.nil_iff.mp z)) (fun z => ⟨.ref a, H, I, rfl, q1 (r2.nil_iff.mp z)⟩) (fun z => ?_) (by rw [← r1.length, ← r2.length]; exact hz)
  refine ⟨.ref s.heap.objs.size, _, I.laid (t' := s.toks) (o := .tup (xs ++ ys)) (fun b ob q => Heap.get?_push_of_some _ q) (Nat.le_refl _) ?_, rfl, q2 (fun w => z (r2.nil_iff.mpr w)) _ (I.hok.fresh (Nat.le_refl _))⟩
  exact ⟨by rw [List.length_append]; exact hz, _, r1.append r2, IsTpl.new _ _⟩

end
end L2

namespace L2
open PySem PySem.Spec PyProof.Rows



def ixN (n : Nat) (i : Int) : Option Nat := if 0 ≤ i then (if i < n then some i.toNat else none) else if -(n : Int) ≤ i then some (i + n).toNat else none
def atI {α : Type} (xs : List α) (i : Int) : Option α := (ixN xs.length i).bind fun j => xs[j]?
theorem ixN_seq {n : Nat} {i : Int} {j : Nat} (h : ixN n i = some j) : seqIndex? i n = some j ∧ j < n ∧ -(n : Int) ≤ i ∧ i < n := by
  unfold ixN at h
  by_cases h0 : 0 ≤ i
  · rw [if_pos h0] at h
    by_cases h1 : i < n
    · rw [if_pos h1] at h
      have e : i.toNat = j := Option.some.inj h
      exact ⟨by rw [seqIndex_of h0 h1, e], by omega, by omega, h1⟩
    · rw [if_neg h1] at h; cases h
  · rw [if_neg h0] at h
    by_cases h1 : -(n : Int) ≤ i
    · rw [if_pos h1] at h
      have e : (i + n).toNat = j := Option.some.inj h
      exact ⟨by rw [seqIndex_neg (by omega) h1, e], by omega, h1, by omega⟩
    · rw [if_neg h1] at h; cases h
theorem atI_get {α : Type} {xs : List α} {i : Int} {v : α} (h : atI xs i = some v) : ∃ j, seqIndex? i xs.length = some j ∧ xs[j]? = some v ∧ j < xs.length ∧ -(xs.length : Int) ≤ i ∧ i < xs.length := by
  unfold atI at h
  cases e : ixN xs.length i with
  | none => rw [e] at h; cases h
  | some j =>
    rw [e] at h
    obtain ⟨h1, h2, h3, h4⟩ := ixN_seq e
    exact ⟨j, h1, h, h2, h3, h4⟩
theorem atI_nat {α : Type} {xs : List α} {j : Nat} {v : α} (h : xs[j]? = some v) : atI xs (j : Int) = some v := by
  have hj : j < xs.length := (List.getElem?_eq_some_iff.mp h).1
  have e : ixN xs.length (j : Int) = some j := by
    unfold ixN
    rw [if_pos (by omega), if_pos (by omega)]; simp
  unfold atI; rw [e]; exact h
def PlainIx (b : Expr) : Prop := ∀ o i, subscripted b false o i = operate [o, i] (getItem o i)

def IxR (X : Cx) (r : R2) : Prop :=
  ∀ (value slice : Expr) (pins : List (Addr × Obj)) (s : Shared) (σ : St) (H : Hp) (x y : V) (v u : Value) (Q : VK), Inv X pins σ H s → RelV x v → RelV y u → r x y H Q →
    subscripted slice false v u = operate [v, u] (getItem v u) → wpAny (model X.prog X.w) X.A (subscriptTail value slice v u) (EP X pins σ Q) X.xe s

def MtR (X : Cx) (id : String) (r : V → List V → Hp → VK → Prop) : Prop :=
  ∀ (pins : List (Addr × Obj)) (s : Shared) (σ : St) (H : Hp) (x : V) (xs : List V) (v : Value) (us : List Value) (Q : VK), Inv X pins σ H s → RelV x v → Vals xs us → r x xs H Q →
    wpAny (model X.prog X.w) X.A (call (.builtin id) (v :: us)) (EP X pins σ Q) X.xe s
section
variable {X : Cx} {a b : Expr} {ta tb : TE} {pos : Pos}
theorem pe_ix {r : R2} (hr : IxR X r) (ha : PE X a ta) (hb : PE X b tb) (hs : PlainIx b) : PE X (.Subscript a b pos) (tOp r ta tb) := by
  intro pins s σ H Q I h
  exact Subscript_ (binT ha hb I h fun v u s2 x y H2 I2 rx ry q => hr a b pins s2 σ H2 x y v u Q I2 rx ry q (hs _ _))

def rIxL (K : PySem.W.Frag) : R2 := fun x y H Q => ∃ p xs i v, x = .ref p ∧ y = .int i ∧ SqL K H p xs ∧ atI xs i = some v ∧ Q v H
def rIxT (K : PySem.W.Frag) : R2 := fun x y H Q => ∃ p xs i v, x = .ref p ∧ y = .int i ∧ SqT K H p xs ∧ atI xs i = some v ∧ Q v H
theorem ix_list : IxR X (rIxL X.K) := by
  intro value slice pins s σ H x y v u Q I rx ry h hs
  obtain ⟨p, xs, i, z, rfl, rfl, hq, he, q⟩ := h
  cases rx
  obtain ⟨t, rfl⟩ := ry
  obtain ⟨its, r, pl, hz⟩ := I.list hq
  obtain ⟨j, h1, h2, h3, h4, h5⟩ := atI_get he
  obtain ⟨w, ew, rw'⟩ := r.get h2
  have hl := r.length
  have hn := line63
  have fin : EP X pins σ Q w s := ⟨z, H, I, rw', q⟩
  by_cases h0 : 0 ≤ i
  · have hj : i.toNat = j := by
      rw [seqIndex_of h0 h5] at h1
      exact Option.some.inj h1
    exact item_listR pl.isList h0 (by omega) (by rw [hj]; simpa using ew) fin hs
  · have hj : (i + (its.toArray.size : Int)).toNat = j := by
      rw [seqIndex_neg (by omega) h4] at h1
      rw [List.size_toArray, ← hl]
      exact Option.some.inj h1
    exact subscriptTail_builtinR (x := w) pl.isList.typeIs slot_list_getitem.lookup
      (wpAny_getItem_list_neg (Q := fun r s' => r = w ∧ EP X pins σ Q r s') pl.isList (by omega) (by rw [List.size_toArray] <;> omega) (by omega) (by rw [hj]; simpa using ew) ⟨rfl, fin⟩) hs
theorem ix_tup : IxR X (rIxT X.K) := by
  intro value slice pins s σ H x y v u Q I rx ry h hs
  obtain ⟨p, xs, i, z, rfl, rfl, hq, he, q⟩ := h
  cases rx
  obtain ⟨t, rfl⟩ := ry
  obtain ⟨its, r, pl, hz⟩ := I.tuple hq
  obtain ⟨j, h1, h2, h3, h4, h5⟩ := atI_get he
  obtain ⟨w, ew, rw'⟩ := r.get h2
  have hl := r.length
  have hn := line63
  have fin : EP X pins σ Q w s := ⟨z, H, I, rw', q⟩
  exact subscriptTail_builtinR (x := w) pl.typeIs slot_tuple_getitem.lookup
    (getItem_tuple (j := j) (Q := fun r s' => r = w ∧ EP X pins σ Q r s') pl (by omega) (by omega) (by rw [List.size_toArray, ← hl]; exact h1) (by simpa using ew) ⟨rfl, fin⟩) hs
theorem slice_bounds (lo hi : Option Int) (n : Nat) : (sliceBounds lo hi none n).1 = ((HT.sIx n 0 lo : Nat) : Int) ∧ (sliceBounds lo hi none n).2.1 = ((HT.sIx n n hi : Nat) : Int) ∧ (sliceBounds lo hi none n).2.2 = 1 := by
  refine ⟨?_, ?_, rfl⟩
  · cases lo with
    | none => simp [sliceBounds, HT.sIx]
    | some i =>
      simp only [sliceBounds, HT.sIx, Option.getD_none, show (1 : Int) > 0 by decide, if_true]
      by_cases h : i < 0
      · simp only [h, if_true] <;> omega
      · simp only [h, if_false] <;> omega
  · cases hi with
    | none => simp [sliceBounds, HT.sIx]
    | some i =>
      simp only [sliceBounds, HT.sIx, Option.getD_none, show (1 : Int) > 0 by decide, if_true]
      by_cases h : i < 0
      · simp only [h, if_true] <;> omega
      · simp only [h, if_false] <;> omega
theorem slicePick_cut (its : List Value) (lo hi : Option Int) : slicePick its.toArray lo hi none = ((its.drop (HT.sIx its.length 0 lo)).take (HT.sIx its.length its.length hi - HT.sIx its.length 0 lo)).toArray := by
  obtain ⟨h1, h2, h3⟩ := slice_bounds lo hi its.toArray.size
  unfold slicePick
  rw [h1, h2, h3]
  simp only [sliceRange_one, pick_run, List.size_toArray] <;> rfl

def rSlL (K : PySem.W.Frag) : V → Option Int → Option Int → Hp → VK → Prop := fun x lo hi H Q => ∃ a xs, x = .ref a ∧ SqL K H a xs ∧ ∀ p, H p = none → Q (.ref p) (upd H p (.lst (cutV xs lo hi)))
theorem sl_list : SlR X (rSlL X.K) := by
  intro pins s σ H x v vl vu lo hi sl Q I rx hs pl pu h
  obtain ⟨a, xs, rfl, hx, q⟩ := h
  cases rx
  obtain ⟨its, r, ht, hz⟩ := I.list hx
  have hlen := r.length
  refine ⟨"list", _, slot_list_getitem.lookup, ht.isList.typeIs, ?_⟩
  refine wpAny_getItem_list_slice ht.isList hs pl pu .none (by simp) ?_ (by rw [List.size_toArray] <;> omega)
  rw [slicePick_cut, ← hlen]
  refine ⟨.ref s.heap.objs.size, _, I.laid (t' := s.toks) (o := .lst (cutV xs lo hi)) (fun b ob q => Heap.get?_push_of_some _ q) (Nat.le_refl _) ?_, rfl, q _ (I.hok.fresh (Nat.le_refl _))⟩
  exact ⟨Nat.le_trans (cutV_length xs lo hi) hz, _, 0, (r.drop (HT.sIx xs.length 0 lo)).take (HT.sIx xs.length xs.length hi - HT.sIx xs.length 0 lo), Heap.get?_push_size _ rfl⟩


theorem call_len_seq : CallR X (.builtin "len") (fun xs H Q => ∃ p ys, xs = [.ref p] ∧ (SqL X.K H p ys ∨ SqT X.K H p ys) ∧ Q (.int ys.length) H) := by
  intro pins s σ H xs us Q I r h
  obtain ⟨p, ys, rfl, hq, q⟩ := h
  obtain ⟨u, rfl, rx⟩ := vals1 r
  cases rx
  have hn := line63
  rcases hq with hq | hq
  · obtain ⟨its, r', pl, hz⟩ := I.list hq
    have hlen := r'.length
    exact Calls.call_len_list pl.isList (by simp only [List.size_toArray] <;> omega) ⟨.int ys.length, H, I.tok _, ⟨s.toks + 1, by rw [List.size_toArray, hlen]⟩, q⟩
  · obtain ⟨its, r', pl, hz⟩ := I.tuple hq
    have hlen := r'.length
    exact len_tuple pl (by simp only [List.size_toArray] <;> omega) ⟨.int ys.length, H, I.tok _, ⟨s.toks + 1, by rw [List.size_toArray, hlen]⟩, q⟩
theorem call_list_of : CallR X (.type "list") (fun xs H Q => ∃ p ys, xs = [.ref p] ∧ (SqL X.K H p ys ∨ SqT X.K H p ys) ∧ ∀ l, H l = none → Q (.ref l) (upd H l (.lst ys))) := by
  intro pins s σ H xs us Q I r h
  obtain ⟨p, ys, rfl, hq, q⟩ := h
  obtain ⟨u, rfl, rx⟩ := vals1 r
  cases rx
  have fin : ∀ (its : List Value), Vals ys its → ys.length ≤ sizeLine → ∀ (h' : Heap) (c' : Nat), (∀ b o', s.heap.get? b = some o' → h'.get? b = some o') →
      h'.get? s.heap.objs.size = some { cls := .type "list", dict := none, data := .seq its.toArray c', slots := #[] } → EP X pins σ Q (.ref s.heap.objs.size) { s with heap := h' } := fun its r' hz h' c' kp e =>
    ⟨.ref s.heap.objs.size, _, I.laid (t' := s.toks) kp (Nat.le_refl _) (show ObjOk X.prog X.w _ h' _ (.lst ys) from ⟨hz, its, c', r', e⟩), rfl, q _ (I.hok.fresh (Nat.le_refl _))⟩
  rcases hq with hq | hq
  · obtain ⟨its, r', pl, hz⟩ := I.list hq
    have hlen := r'.length
    obtain ⟨o, ho, hc, n, hd⟩ := pl.isList
    exact call_list_seq p (.inl rfl) ho hc hd (fun h' c' kp e => fin its r' hz h' c' kp e) (by simp only [List.size_toArray] <;> omega)
  · obtain ⟨its, r', pl, hz⟩ := I.tuple hq
    have hlen := r'.length
    obtain ⟨o, ho, hc, n, hd⟩ := pl
    exact call_list_seq p (.inr rfl) ho hc hd (fun h' c' kp e => fin its r' hz h' c' kp e) (by simp only [List.size_toArray] <;> omega)
theorem call_tuple_of : CallR X (.type "tuple") (fun xs H Q => ∃ p ys, xs = [.ref p] ∧ ((SqL X.K H p ys ∧ ∀ l, H l = none → Q (.ref l) (upd H l (.tup ys))) ∨ (SqT X.K H p ys ∧ Q (.ref p) H))) := by
  intro pins s σ H xs us Q I r h
  obtain ⟨p, ys, rfl, h⟩ := h
  obtain ⟨u, rfl, rx⟩ := vals1 r
  cases rx
  rcases h with ⟨hq, q⟩ | ⟨hq, q⟩
  · obtain ⟨its, r', pl, hz⟩ := I.list hq
    have hlen := r'.length
    refine call_tuple_list pl.isList (fun h' kp => ?_) (by simp only [List.size_toArray] <;> omega)
    have I1 : Inv X pins σ H { s with heap := h' } := I.kept (t' := s.toks) kp
    have I2 : Inv X pins σ (upd H h'.objs.size (.tup ys)) { s with heap := h'.push { cls := .type "tuple", data := .seq its.toArray } } :=
      I1.laid (t' := s.toks) (fun b o e => Heap.get?_push_of_some _ e) (Nat.le_refl _) (show ObjOk X.prog X.w _ _ _ (.tup ys) from ⟨hz, its, r', IsTpl.new _ _⟩)
    exact ⟨.ref h'.objs.size, _, I2, rfl, q _ (I1.hok.fresh (Nat.le_refl _))⟩
  · obtain ⟨its, r', pl, hz⟩ := I.tuple hq
    exact call_tuple_same pl ⟨.ref p, H, I, rfl, q⟩



def tyV (K : PySem.W.Frag) (T : String) (x : V) (H : Hp) : Prop := match x with
  | .str _ => T = "str"
  | .int _ => T = "int"
  | .ref p => (T = "list" ∧ ∃ xs, SqL K H p xs) ∨ (T = "tuple" ∧ ∃ o, K.lookup p = some o ∧ o.cls = .type "tuple" ∧ o.dict = none) ∨
      (T = "dict" ∧ ((∃ kvs, H p = some (.dK kvs)) ∨ ∃ kvs, H p = some (.dT kvs))) ∨ (T = "set" ∧ ∃ S n, H p = some (.set S n))
  | _ => False
theorem tyV_is {pins : List (Addr × Obj)} {σ : St} {H : Hp} {s : Shared} {T : String} {x : V} {v : Value} (I : Inv X pins σ H s) (r : RelV x v) (ty : tyV X.K T x H) :
    s.TypeIs v T ∧ ∀ a, v = .ref a → ∃ ob, s.heap.get? a = some ob ∧ ob.dict = none := by
  cases x with
  | str z =>
    obtain ⟨t, rfl⟩ := r
    cases (show T = "str" from ty)
    exact ⟨typeIs_str s z t, fun _ e => nomatch e⟩
  | int i =>
    obtain ⟨t, rfl⟩ := r
    cases (show T = "int" from ty)
    exact ⟨typeIs_int s i t, fun _ e => nomatch e⟩
  | ref p =>
    cases r
    rcases ty with ⟨rfl, xs, hq⟩ | ⟨rfl, o, hk, hc, hd⟩ | ⟨rfl, hk⟩ | ⟨rfl, S, n, hk⟩
    · obtain ⟨its, _, pl, _⟩ := I.list hq
      refine ⟨pl.isList.typeIs, fun a e => ?_⟩
      cases e
      obtain ⟨o, n, e, c, hd, _⟩ := pl
      exact ⟨o, e, hd⟩
    · refine ⟨⟨o, I.kIn p o hk, hc⟩, fun a e => ?_⟩
      cases e
      exact ⟨o, I.kIn _ o hk, hd⟩
    · have z : ∃ o, s.heap.get? p = some o ∧ o.ExactDict := by
        rcases hk with ⟨kvs, hk⟩ | ⟨kvs, hk⟩
        · obtain ⟨_, _, _, _, o, _, _, e, ex, _⟩ := I.hok p _ hk
          exact ⟨o, e, ex⟩
        · obtain ⟨_, _, _, _, o, _, _, e, ex, _⟩ := I.hok p _ hk
          exact ⟨o, e, ex⟩
      obtain ⟨o, e, ex⟩ := z
      refine ⟨⟨o, e, ex.1⟩, fun a e2 => ?_⟩
      cases e2
      exact ⟨o, e, ex.2.1⟩
    · obtain ⟨o, _, _, _, e, ex, _⟩ := I.hok p _ hk
      refine ⟨⟨o, e, ex.1⟩, fun a e2 => ?_⟩
      cases e2
      exact ⟨o, e, ex.2.1⟩
  | _ => exact False.elim ty
def tBM (K : PySem.W.Frag) (T : String) (r : V → List V → Hp → VK → Prop) (to : TE) (t : TA) : TE := fun σ H Q => to σ H fun x H1 => tyV K T x H1 ∧ t σ H1 fun xs H2 => r x xs H2 Q
variable {o e : Expr} {es : List Expr} {to : TE} {t : TA} {name : Str} {apos cpos : Pos} {T id : String} {r : V → List V → Hp → VK → Prop}
theorem pe_bm (pa : PlainAttrs T) (slot : Slot T name id) (hty : typeOf (.builtin id) = pure (.type "method_descriptor")) (hm : MtR X id r) (ho : PE X o to) (ha : PA X (e :: es) t)
    (hbase : attributeBase o name X.env (eval o X.env) = eval o X.env := by rfl)
    (hfew : ((backTo cpos (starEach (e :: es) X.env)).all (fun x => !x.1) && (backToKw cpos (keywordEach [] X.env)).all (fun x => x.1.isSome)
      && decide ((e :: es).length + ([] : List Keyword).length + (if ([] : List Keyword).isEmpty then 0 else 1) < 30)) = true := by rfl)
    (hline : (apos.endLine == cpos.line) = true := by rfl) (hs : starEach (e :: es) X.env = (false, eval e X.env) :: starEach es X.env := by rfl) (hplain : (backTo cpos (starEach es X.env)).any (·.1) = false := by rfl) :
    PE X (.Call (.Attribute o name apos) (e :: es) [] cpos) (tBM X.K T r to t) := by
  intro pins s σ H Q I h
  refine wpAny_Call_method_late hbase hfew hline rfl (thn (ho pins s σ H _ I h) fun v s1 ⟨x, H1, I1, r1, ty, q1⟩ => ?_)
  obtain ⟨h1, h2⟩ := tyV_is I1 r1 ty
  refine ⟨T, id, pa, slot, hty, h1, h2, ?_⟩
  have hA := ha cpos pins s1 σ H1 _ I1 q1
  rw [hs] at hA ⊢
  refine Calls.callWith_builtin (by show (false || (backTo cpos (starEach es X.env)).any (·.1)) = false; rw [hplain] <;> rfl) (Calls.evalArgs_plain ?_)
  exact thn hA fun us s2 ⟨vs, H2, I2, r2, q2⟩ => hm pins s2 σ H2 x vs v us Q I2 r1 r2 q2

end
end L2

namespace L2
open PySem PySem.Spec PyProof.Rows

def MtM (X : Cx) (id : String) (r : V → List V → Hp → VK → Prop) : Prop :=
  ∀ (pins : List (Addr × Obj)) (s : Shared) (σ : St) (H : Hp) (x : V) (xs : List V) (v : Value) (us : List Value) (Q : VK), Inv X pins σ H s → RelV x v → Vals xs us → r x xs H Q →
    wpAny (model X.prog X.w) X.A (call (.builtin id) (v :: us)) (EP X pins σ Q) X.xe s


theorem Vals.one : ∀ {x : V} {us : List Value}, Vals [x] us → ∃ u, us = [u] ∧ RelV x u
  | _, _, .cons r .nil => ⟨_, rfl, r⟩
theorem Vals.two : ∀ {x y : V} {us : List Value}, Vals [x, y] us → ∃ u v, us = [u, v] ∧ RelV x u ∧ RelV y v
  | _, _, _, .cons r (.cons q .nil) => ⟨_, _, rfl, r, q⟩
theorem Vals.eraseIdx : ∀ {xs : List V} {us : List Value} (i : Nat), Vals xs us → Vals (xs.eraseIdx i) (us.eraseIdx i)
  | _, _, _, .nil => .nil
  | _, _, 0, .cons _ t => t
  | _, _, i + 1, .cons r t => .cons r (Vals.eraseIdx i t)
theorem Vals.reverse {xs : List V} {us : List Value} (h : Vals xs us) : Vals xs.reverse us.reverse := by
  induction h with
  | nil => exact .nil
  | cons r t ih => rw [List.reverse_cons, List.reverse_cons]; exact Vals.append ih (.cons r .nil)
theorem len_erase {α : Type} : ∀ (l : List α) (i : Nat), (l.eraseIdx i).length ≤ l.length
  | [], _ => Nat.le_refl _
  | _ :: _, 0 => Nat.le_succ _
  | _ :: r, i + 1 => Nat.succ_le_succ (len_erase r i)
section
variable {X : Cx} {pins : List (Addr × Obj)} {σ : St} {H : Hp} {s : Shared} {l b : Addr} {xs ys zs : List V}


theorem Inv.lset {its its' : List Value} {n : Nat} {f : Array Value → Array Value} {t' : Nat} (I : Inv X pins σ H s) (hH : H l = some (.lst xs))
    (e : s.heap.get? l = some { cls := .type "list", data := .seq its.toArray n }) (hf : f its.toArray = its'.toArray) (hv : Vals ys its') (hz : ys.length ≤ sizeLine) :
    Inv X pins σ (upd H l (.lst ys)) { s with heap := s.heap.update l (Obj.mapSeq f), toks := t' } := by
  have q := PySem.IsL.update e f
  rw [hf] at q
  refine I.write (x := l) (e := l) (by rw [hH]; exact trivial) (.inl rfl) (fun b' u hb hu => (Heap.get?_update_other s.heap (Obj.mapSeq f) (Ne.symm hb)).trans hu) ⟨_, q⟩ ?_
  exact ⟨hz, its', _, hv, q⟩
theorem Inv.lnew {its : List Value} {t' : Nat} (I : Inv X pins σ H s) (hv : Vals ys its) (hz : ys.length ≤ sizeLine) :
    Inv X pins σ (upd H s.heap.objs.size (.lst ys)) { s with heap := s.heap.push { cls := .type "list", data := .seq its.toArray }, toks := t' } :=
  I.laid (fun _ _ q => Heap.get?_push_of_some _ q) (Nat.le_refl _) ⟨hz, its, 0, hv, Heap.get?_push_size _ rfl⟩
theorem Inv.fresh (I : Inv X pins σ H s) : H s.heap.objs.size = none := I.hok.fresh (Nat.le_refl _)
theorem Inv.lstM (I : Inv X pins σ H s) (hH : H l = some (.lst xs)) : xs.length ≤ sizeLine ∧ ∃ (its : List Value) (n : Nat), Vals xs its ∧ xs.length = its.length ∧ s.heap.get? l = some { cls := .type "list", data := .seq its.toArray n } := by
  obtain ⟨z, its, n, r, e⟩ := I.hok l _ hH
  exact ⟨z, its, n, r, r.length, e⟩

theorem notLongL {n : Nat} (h : n ≤ sizeLine) : Builtin.List.listTooLong n = false := by
  unfold Builtin.List.listTooLong
  exact decide_eq_false (by omega)
end

section
variable {X : Cx}


def rAppend : V → List V → Hp → VK → Prop := fun x vs H Q => ∃ l xs y, x = .ref l ∧ vs = [y] ∧ H l = some (.lst xs) ∧ xs.length < sizeLine ∧ Q .non (upd H l (.lst (xs ++ [y])))
theorem mt_append : MtM X "list.append" rAppend := by
  intro pins s σ H x vs v us Q I rx rv h
  obtain ⟨l, xs, y, rfl, rfl, hH, hz, q⟩ := h
  cases rx
  obtain ⟨u, rfl, ru⟩ := rv.one
  obtain ⟨z, its, n, r, hl, e⟩ := I.lstM hH
  refine call_meets F.slot_list_append ⟨_, e, rfl⟩ F.entry_list_append (F.args_list_append_2 _ _) (PySem.list_append l its.toArray n u (by rw [List.size_toArray]; omega)) ⟨e, ?_⟩
  refine ⟨.non, _, I.lset (its' := its ++ [u]) hH e (by simp) (r.append (.cons ru .nil)) ?_, rfl, q⟩
  rw [List.length_append, List.length_singleton]
  omega

def rExtend : V → List V → Hp → VK → Prop := fun x vs H Q => ∃ l b xs zs, x = .ref l ∧ vs = [.ref b] ∧ H l = some (.lst xs) ∧ H b = some (.lst zs) ∧ xs.length + zs.length ≤ sizeLine ∧ Q .non (upd H l (.lst (xs ++ zs)))
theorem mt_extend : MtM X "list.extend" rExtend := by
  intro pins s σ H x vs v us Q I rx rv h
  obtain ⟨l, b, xs, zs, rfl, rfl, hH, hB, hz, q⟩ := h
  cases rx
  obtain ⟨u, rfl, ru⟩ := rv.one
  cases ru
  obtain ⟨z, its, n, r, hl, e⟩ := I.lstM hH
  obtain ⟨z2, its2, n2, r2, hl2, e2⟩ := I.lstM hB
  have hsz : its.toArray.size + its2.toArray.size ≤ sizeLine := by rw [List.size_toArray, List.size_toArray]; omega
  have hlong : ¬ (!its.toArray.isEmpty && Builtin.List.listTooLong (its.toArray.size + its2.toArray.size)) = true := by
    rw [notLongL hsz, Bool.and_false]
    exact Bool.false_ne_true
  refine call_meets F.slot_list_extend ⟨_, e, rfl⟩ F.entry_list_extend (F.args_list_extend_2 _ _)
    (AutoSeq1.list_extend_list_list_0 l its.toArray n b its2.toArray n2 hlong (by rw [List.size_toArray]; omega) (by omega)) ⟨e, e2, ?_⟩
  refine ⟨.non, _, I.lset (its' := its ++ its2) hH e (by simp) (r.append r2) ?_, rfl, q⟩
  rw [List.length_append]
  omega

def rPopAt : V → List V → Hp → VK → Prop := fun x vs H Q => ∃ l xs i k y, x = .ref l ∧ vs = [.int i] ∧ H l = some (.lst xs) ∧ -(2 ^ 63) ≤ i ∧ i < 2 ^ 63 ∧ seqIndex? i xs.length = some k ∧ xs[k]? = some y ∧ Q y (upd H l (.lst (xs.eraseIdx k)))
theorem mt_popAt : MtM X "list.pop" rPopAt := by
  intro pins s σ H x vs v us Q I rx rv h
  obtain ⟨l, xs, i, k, y, rfl, rfl, hH, h1, h2, hk, hy, q⟩ := h
  cases rx
  obtain ⟨u, rfl, ru⟩ := rv.one
  obtain ⟨t, rfl⟩ := ru
  obtain ⟨z, its, n, r, hl, e⟩ := I.lstM hH
  obtain ⟨w, hw, rw'⟩ := r.get hy
  refine call_meets F.slot_list_pop ⟨_, e, rfl⟩ F.entry_list_pop (F.args_list_pop_2 _ _)
    (MeetsSeq.list_pop_at l its.toArray n i t k w (fitsIndex_both h1 h2) (by rw [List.size_toArray, ← hl]; exact hk) (by rw [← Array.getElem?_toList]; exact hw) (by rw [List.size_toArray]; omega)) ⟨e, ?_⟩
  refine ⟨y, _, I.lset (its' := its.eraseIdx k) hH e ?_ (r.eraseIdx k) ?_, rw', q⟩
  · show its.toArray.eraseIdxIfInBounds k = (its.eraseIdx k).toArray
    rw [List.eraseIdxIfInBounds_toArray]
  · have := len_erase xs k
    omega

def rCat : R2 := fun x y H Q => ∃ l b xs zs, x = .ref l ∧ y = .ref b ∧ H l = some (.lst xs) ∧ H b = some (.lst zs) ∧ xs.length + zs.length ≤ sizeLine ∧ ∀ p, H p = none → Q (.ref p) (upd H p (.lst (xs ++ zs)))
theorem op_cat : OpR X (binaryOp .Add) rCat := by
  intro pins s σ H x y v u Q I rx ry h
  obtain ⟨l, b, xs, zs, rfl, rfl, hH, hB, hz, q⟩ := h
  cases rx
  cases ry
  obtain ⟨z, its, n, r, hl, e⟩ := I.lstM hH
  obtain ⟨z2, its2, n2, r2, hl2, e2⟩ := I.lstM hB
  refine PySem.P.add_list e e2 ?_ (by rw [List.size_toArray, List.size_toArray]; omega)
  have ea : its.toArray ++ its2.toArray = (its ++ its2).toArray := by simp
  rw [ea]
  exact ⟨.ref _, _, I.lnew (t' := s.toks) (r.append r2) (by rw [List.length_append]; omega), rfl, q _ I.fresh⟩

end


section
variable {prog : Program} {w : World} {A : Around} {E : Value → Shared → Prop} {s : Shared}
end

section
variable {X : Cx}

end
end L2

namespace Att
open PySem PySem.W PySem.Calls PyProof.Rows


theorem ints_of_wellAll {P : Params} {h : Heap} : ∀ (ns : List Int) (vs : List Value), WellAll P h vs (ns.map WData.int) → IntsAre vs ns := by
  intro ns
  induction ns with
  | nil =>
    intro vs w
    rw [List.map_nil] at w
    cases w
    exact .nil
  | cons n ns ih =>
    intro vs w
    rw [List.map_cons] at w
    cases w with
    | cons a b =>
      cases a
      exact .cons _ _ (ih _ b)

theorem script_of {l : OpenLaw} {n : Nat} (hn : l.most = some n) {P : Params} {h : Heap} {args : List WData} {vals : List Value}
    (hpre : l.row.toRowW.claim.pre args = true) (hwl : WellAll P h vals args) :
    ∃ a vs ns, vals = [Value.ref a] ∧ args = [WData.list (ns.map WData.int)] ∧ h.get? a = some { cls := .type "list", data := .seq vs.toArray } ∧ IntsAre vs ns ∧ ns.length ≤ n := by
  have hsh : WShape.hasAll [] args [.list .int] = true := (pre_splitW hpre).1
  have hc : l.pre.holds [] { args := args } = true := (pre_splitW hpre).2
  obtain ⟨d, r, rfl, h1, h2⟩ := hasAllW_cons hsh
  obtain rfl := hasAllW_nil h2
  obtain ⟨xs, rfl, h3⟩ := hasW_list h1
  obtain ⟨ns, rfl⟩ := items_int h3
  have hlen : ns.length ≤ n := by
    unfold OpenLaw.pre at hc
    have h4 : (WTm.not (.lt (.lit (.int (n : Int))) (.len (.arg 0)))).holds [] { args := [.list (ns.map .int)] } = true := by
      have h4 := (holds_andW hc).1
      rw [hn] at h4
      exact h4
    have h5 := condW_of h4 (w_not (w_lt w_lit (w_len_list (w_arg rfl))))
    rw [List.length_map] at h5
    refine Nat.le_of_not_lt fun q => ?_
    have q' : (n : Int) < ((ns.length : Nat) : Int) := by omega
    first
      | (rw [decide_eq_true q'] at h5; exact absurd h5 (by decide))
      | (simp at h5; omega)
  cases hwl with
  | cons w1 w2 =>
    cases w2
    cases w1 with
    | list ho hall => exact ⟨_, _, ns, rfl, rfl, ho, ints_of_wellAll ns _ hall, hlen⟩

theorem post_true (l : OpenLaw) (args : List WData) : l.row.toRowW.claim.post args (.bool true) args = true :=
  postW_of (r := l.row.toRowW) (X := (true == true))
    (show WShape.has [] (.bool true) .bool = true by first | rfl | decide | simp [WShape.has, WShape.arms, WShape.armsAll])
    (show (WTm.eq .res (.lit (.bool true))).value [] { args := args, res := some (.bool true), after := args } = some (.bool (true == true)) from w_eq_bool (w_res rfl) w_lit) rfl


theorem attach_call {l : OpenLaw} {n : Nat} {q : Program} {loose : List Str} {XP : (Str → Option Value) → Heap → Prop} {YP : World → Heap → Prop} {d : DefRec}
    (hn : l.most = some n) (hdf : d.params.defaults = [])
    (call : ∀ (w : World) (s₀ s₁ : Shared) (mg mb : Str → Option Value) (fa : Addr) (o : Obj) (pm cd doc : Value) (a : Addr) (vs : List Value) (ns : List Int),
      Ground q loose [] XP w s₀ mg mb s₁.heap → YP w s₁.heap →
      s₁.heap.get? fa = some o → o.data = .func (docDef d.name d.params d.body d.scope pm cd doc) → s₁.heap.CodeRec cd d.name → mg d.name = some (.ref fa) →
      s₁.heap.get? a = some { cls := .type "list", data := .seq vs.toArray } → IntsAre vs ns → ns.length ≤ n → s₁.gens = #[] →
      codeAny (model l.prog w) callerA (.call (.ref fa) ⟨[.ref a], []⟩) (fun r s' => r = .ok (.ret (.bool true)) ∧ OldK s₁.heap s'.heap ∧ s'.os = s₁.os ∧ AllBare s'.gens) s₁) :
    WalkO q loose XP YP l.row.toRowW d [] (fun f vs => PySem.call f vs) := by
  intro w s₀ s₁ mg mb G Y fa o pm cd doc dV kV ho hd hcd hD hmg hg args vals as hpre hlay hrd hwl hlo
  obtain rfl : dV = .none := Dflts.none hD hdf
  obtain rfl : kV = .none := Dflts.noKw hD
  obtain ⟨a, vs, ns, rfl, rfl, hobj, hints, hlen⟩ := script_of hn hpre hwl
  refine enter_call (codeAny_mono (call w s₀ s₁ mg mb fa o pm cd doc a vs ns G Y ho (fd_plain hd) hcd hmg hobj hints hlen hg) fun r s' hq => ?_)
  obtain ⟨rfl, h2, h3, h4⟩ := hq
  exact ⟨.inl ⟨.bool true, .bool true, [], rfl, fun _ => rfl, .bool true, post_true l _, fun _ => ⟨List.Pairwise.nil, fun _ hm => (nomatch hm)⟩⟩, h2, h3, h4⟩


section
variable {prog : Program} {w : World} {A : Around} {E : Value → Shared → Prop} {s : Shared} {K : Frag}


end
end Att

namespace L2
open PySem PySem.Spec PyProof.Rows

theorem vals_ints : ∀ {vs : List Value} {ns : List Int}, IntsAre vs ns → Vals (ns.map V.int) vs
  | _, _, .nil => .nil
  | _, _, .cons n t h => .cons ⟨t, rfl⟩ (vals_ints h)


def Only (H : Hp) : Prop := ∀ b, H b = none ∨ ∃ o xs, H b = some (.frz o (.lst xs))


theorem law_call {P : Program} {w : World} {K : PySem.W.Frag} {mg mb : Str → Option Value} {CX : CXT} {k : Nat} {fa a : Addr} {fd : FuncData} {x : Str} {sp : Sp} {s₁ : Shared} {vs : List Value} {ns : List Int}
    (KX : K.In s₁.heap) (hns : s₁.heap.Ns mainGlobals mg) (hb : s₁.heap.Ns builtinsNs mb) (hbb : ∀ x : Str, x ≠ "__name__" → mb x = bootBuiltins x) (hlim : s₁.heap.NoLimit) (hg : s₁.gens = #[])
    (ha : s₁.heap.get? a = some { cls := .type "list", data := .seq vs.toArray }) (hi : IntsAre vs ns) (hl : ns.length ≤ sizeLine) (hr : Room k callerA)
    (F : ∀ base : Heap, K.In base → base.Ns mainGlobals mg → FnOk P w K mg base CX k fa fd [x] sp) (hbind : ∀ (s : Shared) (u : Value), BindsTo s fd ⟨[u], []⟩ [(x, u)])
    (hsp : ∀ H : Hp, Only H → SqL K H a (ns.map V.int) → sp [.ref a] H (fun v _ => v = .bl true) fun _ _ _ => False)
    (hCX : ∀ H e s', CX [] H s₁ (fun _ _ _ => False) e s' → False) :
    codeAny (model P w) callerA (.call (.ref fa) ⟨[.ref a], []⟩) (fun r s' => r = .ok (.ret (.bool true)) ∧ OldK s₁.heap s'.heap ∧ s'.os = s₁.os ∧ AllBare s'.gens) s₁ := by
  have rv := vals_ints hi
  have lenV := hi.length
  -- from an abstract heap in which nothing but the script may be tracked
  have core : ∀ H : Hp, Only H → SqL K H a (ns.map V.int) → HOk P w H s₁.heap → (∀ b, H b ≠ none → b = a) → (H a ≠ none → K.lookup a = none) →
      codeAny (model P w) callerA (.call (.ref fa) ⟨[.ref a], []⟩) (fun r s' => r = .ok (.ret (.bool true)) ∧ OldK s₁.heap s'.heap ∧ s'.os = s₁.os ∧ AllBare s'.gens) s₁ := by
    intro H hO hS hok hA hK
    have base_of : ∀ {b : Addr} {o : Obj}, s₁.heap.get? b = some o → H b = none → (hidT s₁.heap H).get? b = some o := fun e n => hidT_get e n
    have noA : ∀ {b : Addr} {o : Obj} {es : Array DictEntry} {ep : Nat}, s₁.heap.get? b = some o → o.data = .dict es ep → H b = none := fun {b o es ep} e d => by
      cases q : H b with
      | none => rfl
      | some u =>
        have e' : b = a := hA b (by rw [q]; simp)
        subst e'
        rw [ha] at e; cases e
        have d' : Data.seq vs.toArray _ = Data.dict es ep := d
        cases d'
    have nsK : ∀ {b : Addr} {m : Str → Option Value}, s₁.heap.Ns b m → (hidT s₁.heap H).Ns b m := fun {b m} ⟨o, es, ep, e, d, r⟩ => ⟨o, es, ep, base_of e (noA e d), d, r⟩
    have hKb : K.In (hidT s₁.heap H) := fun b o e => base_of (KX b o e) (by
      cases q : H b with
      | none => rfl
      | some u =>
        have e' : b = a := hA b (by rw [q]; simp)
        subst e'
        rw [hK (by rw [q]; simp)] at e; cases e)
    have hM : Mod K mg (hidT s₁.heap H) := ⟨hKb, nsK hns, ⟨mb, nsK hb, hbb⟩, let ⟨mc, h1, h2⟩ := hlim; ⟨mc, nsK h1, h2⟩⟩
    have e0 : Env0 P w K mg (hidT s₁.heap H) callerA [] s₁ H := ⟨rfl, hM, fun b o e => of_hidT e, Nat.le_of_eq (hidT_size _ _), trivial, fun b hb => absurd (show b ∈ ([] : List Addr) from hb) (by simp), hok, .of_eq hg⟩
    refine codeAny_mono ((F _ hKb (nsK hns)).run callerA [] s₁ H ⟨[.ref a], []⟩ [.ref a] [.ref a] _ _ hr e0 (hbind s₁ (.ref a)) (.cons rfl .nil) (hsp H hO hS)) fun r s' h => ?_
    cases r with
    | error e => exact (hCX H e s' h).elim
    | ok fl =>
      cases fl with
      | next => exact False.elim h
      | brk => exact False.elim h
      | cont => exact False.elim h
      | ret u =>
        obtain ⟨v, H', os, bare, un, hok', r', q⟩ := h
        have q' : v = .bl true := q
        subst q'
        obtain rfl : u = Value.bool true := r'
        refine ⟨rfl, OldK.of_keep fun b o e => ?_, os, bare⟩
        cases q : H b with
        | none => exact un.keep b o e q (by intro z; exact absurd (show b ∈ ([] : List Addr) from z) (by simp)) (by simp)
        | some u =>
          rcases hO b with z | ⟨ob, xs, z⟩
          · rw [q] at z; cases z
          · have z2 := un.frzs b ob _ z
            obtain ⟨e1, _⟩ := hok b _ z
            obtain ⟨e2, _⟩ := hok' b _ z2
            rw [e] at e1; cases e1
            exact e2
  cases hk : K.lookup a with
  | some o =>
    -- the script is one of the module's own objects
    have e := KX a o hk
    rw [ha] at e
    cases e
    refine core (fun _ => none) (fun _ => .inl rfl) (.inr ⟨_, vs.toArray, _, hk, rfl, rfl, rfl, by rw [List.size_toArray, lenV]; exact hl, by simpa using rv⟩) (fun b u z => by have z' : (none : Option HO) = some u := z; cases z') (fun b z => absurd rfl z) fun z => absurd rfl z
  | none =>
    refine core (fun b => if b = a then some (.frz { cls := .type "list", data := .seq vs.toArray } (.lst (ns.map V.int))) else none) (fun b => ?_) (.inl (.inr ⟨{ cls := .type "list", data := .seq vs.toArray }, if_pos rfl⟩)) (fun b u z => ?_) (fun b z => ?_) fun _ => hk
    · by_cases hb : b = a
      · exact .inr ⟨_, _, if_pos hb⟩
      · exact .inl (if_neg hb)
    · by_cases hb : b = a
      · have z' := (if_pos hb).symm.trans z
        cases z'
        subst hb
        exact ⟨ha, by rw [List.length_map]; exact hl, vs, _, rv, ha⟩
      · have z' := (if_neg hb).symm.trans z
        cases z'
    · by_cases hb : b = a
      · exact hb
      · exact absurd (if_neg hb) z
end L2

namespace L2
open PySem PySem.Spec PyProof.Rows

theorem walk_of {l : PySem.W.OpenLaw} {n k : Nat} {q : Program} {loose : List Str} {XP : (Str → Option Value) → Heap → Prop} {YP : World → Heap → Prop} {d : DefRec} {K : Params → PySem.W.Frag} {CX : World → CXT} {sp : World → Sp} {x : Str}
    (hn : l.most = some n) (hn2 : n ≤ sizeLine) (hdf : d.params.defaults = []) (hr : Room k callerA)
    (hY : ∀ (w : World) (h : Heap), YP w h → (K w.params).In h)
    (F : ∀ (w : World) (mg : Str → Option Value) (fa : Addr) (h : Heap), (K w.params).In h → h.Ns mainGlobals mg → mg d.name = some (.ref fa) →
      ∃ fd : FuncData, (∀ (s : Shared) (u : Value), BindsTo s fd ⟨[u], []⟩ [(x, u)]) ∧
        ∀ base : Heap, (K w.params).In base → base.Ns mainGlobals mg → FnOk l.prog w (K w.params) mg base (CX w) k fa fd [x] (sp w))
    (hsp : ∀ (w : World) (H : Hp) (a : Addr) (ns : List Int), ns.length ≤ n → Only H → SqL (K w.params) H a (ns.map V.int) → sp w [.ref a] H (fun v _ => v = .bl true) fun _ _ _ => False)
    (hCX : ∀ (w : World) (H : Hp) (s : Shared) (e : Value) (s' : Shared), CX w [] H s (fun _ _ _ => False) e s' → False) :
    PySem.W.WalkO q loose XP YP l.row.toRowW d [] (fun f vs => PySem.call f vs) := by
  refine Att.attach_call hn hdf fun w s₀ s₁ mg mb fa o pm cd doc a vs ns G Y ho hd hcd hmg hobj hints hlen hg => ?_
  have KX := hY w _ Y
  obtain ⟨fd, hb, hF⟩ := F w mg fa _ KX G.T.g hmg
  exact law_call KX G.T.g G.T.b G.T.builtins G.T.nolimit hg hobj hints (Nat.le_trans hlen hn2) hr hF hb (fun H hO hS => hsp w H a ns hlen hO hS) fun H e s' => hCX w H s₁ e s'

end L2




namespace L2
open PySem PySem.Spec PyProof.Rows



def inClass (s : Stmt) (j : Nat) : Stmt := match s with
  | .ClassDef _ _ _ body _ _ _ _ _ _ _ => body.getD j (.Pass ⟨0, 0, 0, 0⟩)
  | _ => .Pass ⟨0, 0, 0, 0⟩
def defArgs (s : Stmt) : Arguments := match s with
  | .FunctionDef _ a _ _ _ _ _ _ _ _ => a
  | _ => { posonlyargs := [], args := [], vararg := none, kwonlyargs := [], kw_defaults := [], kwarg := none, defaults := [] }
def defBody (s : Stmt) : List Stmt := match s with
  | .FunctionDef _ _ b _ _ _ _ _ _ _ => b
  | _ => []
def defScope (s : Stmt) : Scope := match s with
  | .FunctionDef _ _ _ _ _ _ sc _ _ _ => sc
  | _ => { kind := .function, names := [], isGenerator := false, isCoroutine := false }


abbrev CX0 : CXT := fun _ _ _ _ _ _ => False
abbrev E0 : XK := fun _ _ _ => False
theorem pass0 {X : Cx} : Passes CX0 X E0 := fun _ _ _ _ _ _ _ h => h.elim


structure Fun (K : PySem.W.Frag) (x qual : Str) (st : Stmt) (f : Addr) (fd : FuncData) : Prop where
  ex : ∃ (oc : Value) (od : Option Addr) (kV doc pm : Value) (an : Option Addr) (cdv ct : Value) (osl : Array (Option Value)),
    fd = PySem.W.fnOf x qual (defArgs st) (defBody st) (defScope st) .none kV doc pm an cdv ct ∧ K.lookup f = some ⟨oc, od, .func fd, osl⟩ ∧ PySem.W.codeIn K cdv qual = true
  kp : PySem.W.keepIn K (.ref f) = true
section
variable {P : Program} {w : World} {K : PySem.W.Frag} {mg : Str → Option Value} {base : Heap}

theorem Fun.ok {x qual : Str} {st : Stmt} {f : Addr} {fd : FuncData} {N ps : List Str} {k : Nat} {sp : Sp} (F : Fun K x qual st f fd) (S : FnScope N ps (defScope st)) (len : ∀ vs H Q E, sp vs H Q E → vs.length = ps.length)
    (hbody : ∀ (cdv : Value) (A : Around) (outer : List Env) (s : Shared) (H : Hp) (vs : List V) (Q : VK) (E : XK), Room k (A.deeper (envOfC qual (defScope st) s.heap.objs.size f cdv)) → sp vs H Q E →
      ∃ t, PSs (cxOf CX0 P w K mg base N qual (defScope st) f cdv A outer s H E).nox (defBody st) t ∧ t { nx := fun _ H' => Q .non H', rt := Q } (start N vs) H) : FnOk P w K mg base CX0 (k + 1) f fd ps sp := by
  obtain ⟨oc, od, kV, doc, pm, an, cdv, ct, osl, rfl, lk, hcd⟩ := F.ex
  refine fn_of lk hcd S len fun A outer s H vs Q E hr hsp => ?_
  obtain ⟨t, h, q⟩ := hbody cdv A outer s H vs Q E hr hsp
  exact ⟨t, h.nox, q⟩

theorem Fun.binds {x qual : Str} {st : Stmt} {f : Addr} {fd : FuncData} {ps : List Str} (F : Fun K x qual st f fd)
    (h : ∀ (kV doc pm : Value) (an : Option Addr) (cdv ct : Value) (us : List Value), us.length = ps.length → bindArgs (PySem.W.fnOf x qual (defArgs st) (defBody st) (defScope st) .none kV doc pm an cdv ct) ⟨us, []⟩ = pure (ps.zip us)) : Binds K fd ps [] := by
  obtain ⟨oc, od, kV, doc, pm, an, cdv, ct, osl, rfl, lk, hcd⟩ := F.ex
  exact .all (h kV doc pm an cdv ct)
theorem fun_mk {x qual : Str} {st : Stmt} {f : Addr} {oc : Value} {od an : Option Addr} {osl : Array (Option Value)} {kV doc pm cdv ct : Value} (l : K.lookup f = some ⟨oc, od, .func (PySem.W.fnOf x qual (defArgs st) (defBody st) (defScope st) .none kV doc pm an cdv ct), osl⟩)
    (c : PySem.W.codeIn K cdv qual = true) (k : PySem.W.keepIn K (.ref f) = true) : Fun K x qual st f (PySem.W.fnOf x qual (defArgs st) (defBody st) (defScope st) .none kV doc pm an cdv ct) := ⟨⟨oc, od, kV, doc, pm, an, cdv, ct, osl, rfl, l, c⟩, k⟩
end
theorem hu_of {A : Around} {k : Nat} (hr : Room k A) : A.units + 1 < cLine := Nat.lt_of_le_of_lt (Nat.add_le_add_left (by decide : 1 ≤ 64) _) hr.units
theorem small1000 {n : Nat} (h : n ≤ 1000) : n < sizeLine := Nat.lt_of_le_of_lt h (by decide)


section
variable {X : Cx}
theorem pv (i : Nat) {x : Str} {pos : Pos} (hN : X.N[i]? = some x := by rfl) (hv : Vis X.env.scope x := by first | exact Or.inl rfl | exact Or.inr (Or.inl rfl) | exact Or.inr (Or.inr rfl)) (hd : (x == ("__debug__" : Str)) = false := by decide)
    (hcd : (x == ("__classdict__" : Str)) = false := by decide) : PE X (.Name x pos) (tVar i) := pe_var hN hv hd hcd

end


theorem iteF {A B : Prop} (h : B) : if false = true then A else B := by
  rw [if_neg Bool.false_ne_true]
  exact h
theorem iteT {A B : Prop} (h : A) : if true = true then A else B := by
  rw [if_pos rfl]
  exact h
theorem ite2 {c A B : Prop} [Decidable c] (h1 : c → A) (h2 : ¬ c → B) : if c then A else B := by
  by_cases h : c
  · rw [if_pos h]
    exact h1 h
  · rw [if_neg h]
    exact h2 h
def Same (H H' : Hp) : Prop := ∀ b o, H b = some o → H' b = some o
theorem Same.refl (H : Hp) : Same H H := fun _ _ h => h
theorem Same.trans {H H1 H2 : Hp} (a : Same H H1) (b : Same H1 H2) : Same H H2 := fun c o h => b c o (a c o h)
theorem Same.free {H H' : Hp} (e : Same H H') {l : Addr} (h : H' l = Option.none) : H l = Option.none := by
  cases q : H l with
  | none => rfl
  | some o =>
    rw [e l o q] at h
    cases h
theorem Same.seq {K : PySem.W.Frag} {H H' : Hp} {a : Addr} {xs : List V} (e : Same H H') (h : SqL K H a xs) : SqL K H' a xs := by
  rcases h with (h | ⟨o, h⟩) | h
  · exact .inl (.inl (e _ _ h))
  · exact .inl (.inr ⟨o, e _ _ h⟩)
  · exact .inr h


section
variable {κ : Type} [DecidableEq κ]
end
end L2



namespace GX
open PySem

theorem forIn_fold {α β : Type} {f : α → β → Sem (ForInStep β)} (g : α → β → β) : ∀ (l : List α) (b : β), (∀ x ∈ l, ∀ b, f x b = pure (.yield (g x b))) →
    forIn l b f = pure (l.foldl (fun b x => g x b) b)
  | [], b, _ => rfl
  | x :: l, b, h => by
    simp only [List.forIn_cons, h x (.head _), pure_bind]
    exact forIn_fold g l (g x b) fun y hy => h y (List.mem_cons_of_mem _ hy)

def closeF (env : Env) (x : Str × NameKind) (cs : List (Str × Addr)) : List (Str × Addr) := if x.2 == .free then (x.1, (env.cells.lookup x.1).getD 0) :: cs else cs

theorem closure_eq {env : Env} {sc : Scope} (h : ∀ y ∈ sc.names, y.2 = .free → ∃ c, env.cells.lookup y.1 = some c) :
    closureFor sc env = pure (sc.names.foldl (fun b x => closeF env x b) []) := by
  simp only [closureFor]
  rw [forIn_fold (closeF env) sc.names [] (fun x hx b => by
    obtain ⟨n, k⟩ := x
    unfold closeF
    by_cases hk : k = .free
    · subst hk
      obtain ⟨c, hc⟩ := h _ hx rfl
      have e : cellOf env n = pure c := by unfold cellOf; rw [hc]
      simp [e, hc]
    · have hb : (k == NameKind.free) = false := by simpa using hk
      simp only [hb, Bool.false_eq_true, if_false])]
  rfl

theorem closeF_sub {env : Env} : ∀ (l : List (Str × NameKind)) (acc : List (Str × Addr)), (∀ y ∈ l, y.2 = .free → ∃ c, env.cells.lookup y.1 = some c) → (∀ p ∈ acc, env.cells.lookup p.1 = some p.2) →
    ∀ p ∈ l.foldl (fun b x => closeF env x b) acc, env.cells.lookup p.1 = some p.2
  | [], acc, _, ha => ha
  | x :: l, acc, h, ha => by
    refine closeF_sub l _ (fun y hy => h y (List.mem_cons_of_mem _ hy)) fun p hp => ?_
    unfold closeF at hp
    dsimp only at hp
    by_cases hk : x.2 = .free
    · obtain ⟨c, hc⟩ := h x List.mem_cons_self hk
      rw [hk] at hp
      simp only [beq_self_eq_true, if_true] at hp
      rcases List.mem_cons.mp hp with rfl | hp
      · rw [hc]; rfl
      · exact ha p hp
    · have hb : (x.2 == NameKind.free) = false := by simpa using hk
      simp only [hb, Bool.false_eq_true, if_false] at hp
      exact ha p hp
theorem closeF_has {env : Env} {n : Str} : ∀ (l : List (Str × NameKind)) (acc : List (Str × Addr)), ((∃ c, (n, c) ∈ acc) ∨ (n, NameKind.free) ∈ l) → ∃ c, (n, c) ∈ l.foldl (fun b x => closeF env x b) acc
  | [], acc, h => by
    rcases h with h | h
    · exact h
    · cases h
  | x :: l, acc, h => by
    refine closeF_has l _ ?_
    unfold closeF
    dsimp only
    rcases h with ⟨c, h⟩ | h
    · refine .inl ⟨c, ?_⟩
      split
      · exact List.mem_cons_of_mem _ h
      · exact h
    · rcases List.mem_cons.mp h with h | h
      · refine .inl ?_
        subst h
        exact ⟨_, by rw [if_pos (by rfl)]; exact .head _⟩
      · exact .inr h
theorem lookup_of_mem {n : Str} {c : Addr} : ∀ {l : List (Str × Addr)}, (n, c) ∈ l → ∃ c', l.lookup n = some c'
  | [], h => by cases h
  | (m, d) :: l, h => by
    rw [List.lookup_cons]
    cases e : n == m with
    | true => exact ⟨d, rfl⟩
    | false =>
      rcases List.mem_cons.mp h with h | h
      · cases h
        simp at e
      · exact lookup_of_mem h

theorem mem_lk {n : Str} {c : Addr} : ∀ {l : List (Str × Addr)}, l.lookup n = some c → (n, c) ∈ l
  | [], h => by cases h
  | (m, d) :: l, h => by
    rw [List.lookup_cons] at h
    cases e : n == m with
    | true =>
      rw [e] at h
      have e' : n = m := by simpa using e
      have h' : d = c := Option.some.inj h
      rw [e', h']
      exact List.mem_cons_self
    | false =>
      rw [e] at h
      exact List.mem_cons_of_mem _ (mem_lk h)


theorem closure_ok {env : Env} {sc : Scope} (h : ∀ y ∈ sc.names, y.2 = .free → ∃ c, env.cells.lookup y.1 = some c) :
    ∃ cl, closureFor sc env = pure cl ∧ (∀ x c, cl.lookup x = some c → env.cells.lookup x = some c) ∧ (∀ n, (n, NameKind.free) ∈ sc.names → ∃ c, cl.lookup n = some c) := by
  refine ⟨_, closure_eq h, fun x c e => ?_, fun n hn => ?_⟩
  · exact closeF_sub sc.names [] h (fun p hp => by cases hp) (x, c) (mem_lk e)
  · obtain ⟨c, hc⟩ := closeF_has (env := env) sc.names [] (.inr hn)
    exact lookup_of_mem hc


theorem lookup_relabel {env : Env} {x : Str} {names : List (Str × NameKind)} :
    (names.map fun (n, k) => if (k == NameKind.free && env.scope.kind == .function && env.kindOf n == some .cell) then (n, NameKind.cell) else (n, k)).lookup x
      = (names.lookup x).map fun k => if (k == NameKind.free && env.scope.kind == .function && env.kindOf x == some .cell) then NameKind.cell else k := by
  induction names with
  | nil => rfl
  | cons p r ih =>
    obtain ⟨n, k⟩ := p
    rw [List.map_cons]
    by_cases e : x = n
    · subst e
      dsimp only
      split <;> simp_all
    · have e' : (x == n) = false := by simpa using e
      dsimp only
      split <;> simp only [List.lookup_cons, e'] <;> exact ih


def oneTurn (elt target : Expr) (ifs : List Expr) (it acc : Value) (env : Env) : Sem Bool := do
  match ← pyNext it with
  | none => pure false
  | some v =>
    letOwnedTupleGo target it v
    assign target env v
    let ok ← forIn ifs true fun c r => if r = true then do let ok ← isTrue c env (eval c env); pure (ForInStep.yield ok) else pure (ForInStep.yield r)
    if ok = true then do
      let x ← eval elt env
      let _ ← call (.builtin "list.append") [acc, x]
      pure true
    else pure true
theorem turn_is (elt target iter : Expr) (ifs : List Expr) (scope : Scope) (pos : Pos) (it acc : Value) (env : Env) :
    compTurn (.ListComp elt [⟨target, iter, ifs, 0⟩] scope pos) 0 it acc env = (do
      standAt iter.pos
      let more ← oneTurn elt target ifs it acc env
      if more = true then again (.compLoop (.ListComp elt [⟨target, iter, ifs, 0⟩] scope pos) 0 it acc env) else pure (.done .next)) := by
  rw [compTurn_list, oneTurn]
  simp only [bind_assoc]
  congr 1
  funext _
  congr 1
  funext r
  cases r with
  | none => simp
  | some v =>
    simp only [bind_assoc]
    congr 1
    funext _
    congr 1
    funext _
    congr 1
    funext ok
    cases ok <;> simp
theorem compLoop_go {prog : Program} {w : World} {A : Around} {R : Result → Shared → Prop} {s : Shared} {elt target iter : Expr} {ifs : List Expr} {scope : Scope} {pos : Pos} {it acc : Value} {env : Env} (I : Nat → Shared → Prop)
    (turn : ∀ n s, I n s → wpAny (model prog w) A (oneTurn elt target ifs it acc env) (fun more s' => if more = true then ∃ m, m < n ∧ I m s' else R (.ok .next) s') (fun _ _ => False) s) (n : Nat) (h : I n s) :
    codeAny (model prog w) A (.compLoop (.ListComp elt [⟨target, iter, ifs, 0⟩] scope pos) 0 it acc env) R s := by
  apply codeAny_loop rfl I _ n h
  intro n s hI
  apply wpAny_noted
  rw [turn_is]
  change wpAny _ A _ _ _ _
  apply wpAny_bind
  apply wpAny_standAt
  apply wpAny_bind
  refine wpAny_mono (turn n s hI) (fun more s' q => ?_) fun _ _ z => z.elim
  cases more
  · exact wpAny_pure q
  · exact wpAny_pure ⟨rfl, q⟩
end GX

set_option Elab.async false
set_option linter.all false
set_option maxRecDepth 100000
namespace GX
open PySem PySem.Spec PyProof.Rows


abbrev lstO (a : Array Value) (c : Nat) : Obj := { cls := .type "list", dict := none, data := .seq a c, slots := #[] }
section
variable {prog : Program} {w : World}
theorem enter {id : String} {B : Builtin} {args : Args} {Sp : PySem.Spec} {A : Around} {R : Result → Shared → Prop} {s : Shared} (he : entryFor table id = some B) (hp : plainId id = true) (m : MeetsIn prog w (B args) Sp) (h : Sp A R s) :
    codeAny (model prog w) A (.builtin id args) R s := codeAny_builtin he (by rw [Around.under_plainId hp]; exact m A R s h)

variable {A : Around} {key : Value} {op : CmpOp} {lp : String} {B : Builtin} {l I S : Addr} {vs : List Value} {bt : Nat → Nat → Bool} {G : List (Nat × Value) → Shared → Prop} {R : Result → Shared → Prop} {kw : List (Str × Value)}
abbrev Grown (h h' : Heap) : Prop := ∀ b o, h.get? b = some o → h'.get? b = some o

end
end GX

namespace GX
open PySem
theorem filterMap_all {α β : Type} (f : α → Option β) (g : α → β) : ∀ (l : List α), (∀ x ∈ l, f x = some (g x)) → l.filterMap f = l.map g
  | [], _ => rfl
  | x :: l, h => by
    rw [List.filterMap_cons, h x List.mem_cons_self, List.map_cons]
    exact congrArg _ (filterMap_all f g l fun y hy => h y (List.mem_cons_of_mem _ hy))
theorem pick_rev (its : List Value) : slicePick its.toArray none none (some (-1)) = its.reverse.toArray := by
  unfold slicePick
  have e : sliceBounds none none (some (-1)) its.toArray.size = ((its.length : Int) - 1, -1, -1) := by
    unfold sliceBounds
    simp
  rw [e]
  have r : sliceRange ((its.length : Int) - 1) (-1) (-1) = (List.range its.length).map fun k => its.length - 1 - k := by
    unfold sliceRange
    by_cases z : its.length = 0
    · rw [z]; rfl
    · have c : (if ((-1 : Int) > 0) then (if (its.length : Int) - 1 < -1 then (-1 - ((its.length : Int) - 1) + -1 - 1) / -1 else 0) else (if (its.length : Int) - 1 > -1 then ((its.length : Int) - 1 - -1 - -1 - 1) / (- -1) else 0)) = (its.length : Int) := by
        rw [if_neg (by decide), if_pos (by omega)]
        have : (- -1 : Int) = 1 := by decide
        rw [this, Int.ediv_one]
        omega
      simp only [c, Int.toNat_natCast]
      apply List.map_congr_left
      intro k hk
      have := List.mem_range.mp hk
      omega
  rw [r]
  congr 1
  rw [filterMap_all _ (fun j => its.getD j .none) _ (fun j hj => ?_)]
  · apply List.ext_getElem?
    intro i
    rw [List.getElem?_map, List.getElem?_map]
    by_cases hi : i < its.length
    · rw [List.getElem?_eq_getElem (by rw [List.length_range]; exact hi), List.getElem_range, List.getElem?_reverse hi]
      show some (its.getD (its.length - 1 - i) .none) = _
      rw [List.getD_eq_getElem?_getD, List.getElem?_eq_getElem (by omega)]
      rfl
    · rw [List.getElem?_eq_none (by rw [List.length_range]; omega), List.getElem?_eq_none (by rw [List.length_reverse]; omega)]
      rfl
  · obtain ⟨k, hk, e⟩ := List.mem_map.mp hj
    have hk := List.mem_range.mp hk
    have hl : j < its.length := by omega
    rw [List.getD_eq_getElem?_getD]
    simp [hl]
end GX

namespace GB

theorem and_pow (n h : Nat) : (n &&& 2 ^ h = 0) ↔ n.testBit h = false := by
  constructor
  · intro e
    have q : (n &&& 2 ^ h).testBit h = false := by rw [e]; exact Nat.zero_testBit h
    rw [Nat.testBit_and, Nat.testBit_two_pow_self, Bool.and_true] at q
    exact q
  · intro e
    apply Nat.eq_of_testBit_eq
    intro i
    rw [Nat.testBit_and, Nat.zero_testBit, Nat.testBit_two_pow]
    by_cases hi : h = i
    · subst hi; rw [e]; rfl
    · rw [decide_eq_false hi, Bool.and_false]


end GB

namespace GB
end GB

namespace L2
open PySem PySem.Spec PyProof.Rows


def capOk (N : List Str) (sc : Scope) (x : Str) : Option Nat → Bool
  | none => true
  | some j => decide (N[j]? = some x) && decide (sc.names.lookup x = some .free)

def BlkP (N N' : List Str) (src : List (Option Nat)) (esc sc : Scope) : Prop :=
  (∀ y ∈ sc.names, y.2 ≠ .cell) ∧ (∀ y ∈ sc.names, y.2 = .local → sc.names.lookup y.1 = some .local) ∧
  (∀ y ∈ sc.names, y.2 = .free → esc.names.lookup y.1 = some .cell ∨ esc.names.lookup y.1 = some .free) ∧
  N'.Nodup ∧ src.length = N'.length ∧ ∀ p ∈ N'.zip src, capOk N sc p.1 p.2 = true
instance (N N' : List Str) (src : List (Option Nat)) (esc sc : Scope) : Decidable (BlkP N N' src esc sc) := by unfold BlkP; infer_instance

def blkSt (src : List (Option Nat)) (σ : St) : St := src.map fun o => o.bind fun j => (σ[j]?).bind fun v => v
def Cx.blk (X : Cx) (N' : List Str) (sc : Scope) (cl : List (Str × Addr)) (C : Addr) (s2 : Shared) (H2 : Hp) (fp : List Addr) : Cx :=
  { X with N := N', s₀ := s2, H₀ := H2, env := compEnvC sc cl C X.env, outer := X.stack, ex := fp, fn := fun _ => false, pn := [], xe := fun _ _ => False }

def PIf (X : Cx) (ifs : List Expr) (t : TT) : Prop :=
  ∀ (pins : List (Addr × Obj)) (s : Shared) (σ : St) (H : Hp) (Q : Bool → Hp → Prop), Inv X pins σ H s → t σ H Q →
    wpAny (model X.prog X.w) X.A (forIn ifs true fun c r => if r = true then do let ok ← isTrue c X.env (eval c X.env); pure (ForInStep.yield ok) else pure (ForInStep.yield r)) (TP X pins σ Q) X.xe s
def tYes : TT := fun _ H Q => Q true H
theorem pif_nil {X : Cx} : PIf X [] tYes := fun _ _ _ H _ I h => wpAny_tests_nil ⟨H, I, h⟩
theorem pif_one {X : Cx} {c : Expr} {t : TT} (h : PT X c t) : PIf X [c] t := fun pins s σ H Q I hw => wpAny_tests_one (h pins s σ H Q I hw)

theorem Un.but {fs ex : List Addr} {H H' : Hp} {h h1 h2 : Heap} {C : Addr} (u : Un fs ex H H' h h1) (sb : Heap.SameBut C h1 h2) (hC : h.get? C = none) : Un fs ex H H' h h2 :=
  have ne : ∀ b o, h.get? b = some o → b ≠ C := fun b o e z => by rw [z, hC] at e; cases e
  ⟨fun b o e n hb hx => (sb.2 b (ne b o e)).trans (u.keep b o e n hb hx), fun b o e n hb hx => let ⟨sl, z⟩ := u.slot b o e n hb hx; ⟨sl, (sb.2 b (ne b o e)).trans z⟩, u.free,
    fun b o e hx => let ⟨o', z⟩ := u.there b o e hx; ⟨o', (sb.2 b (ne b o e)).trans z⟩, u.tups, u.frzs, u.tbls⟩
theorem HOk.but {P : Program} {w : World} {H : Hp} {h h' : Heap} {C : Addr} (x : HOk P w H h) (sb : Heap.SameBut C h h') (hC : H C = none) : HOk P w H h' := fun b ob e => by
  refine (x b ob e).stay (fun c v hc q => (sb.2 c ?_).trans q) (fun _ q => q) fun _ _ q => q
  rintro rfl
  rcases hc with rfl | hc
  · rw [hC] at e; cases e
  · rw [hC] at hc; cases hc


def cTurn (g : TG) (tt : TT) (te : TE) (D : Addr) (N : St → Hp → Prop) (x : V) (σ : St) (H : Hp) : Prop :=
  g x σ H fun σ2 H2 => tt σ2 H2 fun b H3 => if b = true then te σ2 H3 fun y H4 => ∃ ys, H4 D = some (.lst ys) ∧ ys.length < sizeLine ∧ N σ2 (upd H4 D (.lst (ys ++ [y]))) else N σ2 H3

def tComp (src : List (Option Nat)) (wi : TI) (g : TG) (tt : TT) (te : TE) : TE := fun σ H Q => wi σ H fun J H1 => ∀ D, H1 D = none → ∃ W : Nat → Nat → St → Hp → Prop, (∃ m, W 0 m (blkSt src σ) (upd H1 D (.lst []))) ∧
  ∀ i m σ' H', W i m σ' H' → (J.stop i H' ∧ Q (.ref D) H') ∨ (J.go i H' ∧ ∃ N : St → Hp → Prop, (∀ σ2 H2, N σ2 H2 → ∃ m', m' < m ∧ W (i + 1) m' σ2 H2) ∧
    ∀ x H'', J.yld i H' x H'' → cTurn g tt te D N x σ' H'')


theorem comp_core {X : Cx} {elt tg iter : Expr} {ifs : List Expr} {sc : Scope} {pos : Pos} {g : TG} {tt : TT} {te : TE} {N' : List Str} {src : List (Option Nat)} {cl : List (Str × Addr)} {pins : List (Addr × Obj)} {σ : St} {H2 : Hp} {s2 : Shared} {it : Addr} {fp : List Addr}
    {tn : Nat → Heap → Prop} {J : It} {W : Nat → Nat → St → Hp → Prop} {m0 : Nat} {Qe : Hp → Prop} {RR : Value → Addr → Result → Shared → Prop}
    (hc : X.calm = true) (hk : sc.kind = .function) (hB : BlkP X.N N' src X.env.scope sc) (hsub : ∀ x c, cl.lookup x = some c → X.env.cells.lookup x = some c) (hhas : ∀ n, (n, NameKind.free) ∈ sc.names → ∃ c, cl.lookup n = some c)
    (hg : ∀ cl C s2 H2 fp, N'.Nodup → PG (X.blk N' sc cl C s2 H2 fp) tg g)
    (ht : ∀ cl C s2 H2 fp, PIf (X.blk N' sc cl C s2 H2 fp) ifs tt)
    (he : ∀ cl C s2 H2 fp, PE (X.blk N' sc cl C s2 H2 fp) elt te)
    (I2 : Inv X pins σ H2 s2) (T : Turn X.prog X.w X.K tg J fp it tn) (st2 : tn 0 s2.heap) (f2 : ∀ b ∈ fp, FpOk X pins H2 b)
    (w0 : W 0 m0 (blkSt src σ) (upd H2 s2.heap.objs.size (.lst [])))
    (turn : ∀ i m σ' H', W i m σ' H' → (J.stop i H' ∧ Qe H') ∨ (J.go i H' ∧ ∃ N : St → Hp → Prop, (∀ σ2 H2, N σ2 H2 → ∃ m', m' < m ∧ W (i + 1) m' σ2 H2) ∧
      ∀ x H'', J.yld i H' x H'' → cTurn g tt te s2.heap.objs.size N x σ' H''))
    (fin : ∀ C s4 σ3 H3, s2.heap.objs.size ≤ C → Inv (X.blk N' sc cl C s2 H2 fp) [] σ3 H3 s4 → Qe H3 → RR (.ref s2.heap.objs.size) C (.ok .next) s4) :
    wpAny (model X.prog X.w) X.A (newList []) (fun acc s₃ => wpAny (model X.prog X.w) X.A (newFunctionEnv sc X.env.globals cl [] X.env.qual none .none (some X.env)) (fun cenv s₄ =>
      codeAny (model X.prog X.w) X.A (.compStart (.ListComp elt [⟨tg, iter, ifs, 0⟩] sc pos) 0 (.ref it) acc { cenv with scope := relabel sc X.env }) (RR acc cenv.locals) s₄) X.xe s₃) X.xe s2 := by
  obtain ⟨b1, b2, b3, b4, b5, b6⟩ := hB
  refine wpAny_newObj_type (wpAny_newFunctionEnv b1 (by intro y hy; simp at hy) (fun h₁ ns₁ sb₁ => ?_) hk)
  dsimp only at ns₁ sb₁ ⊢
  generalize hP : s2.heap.push { cls := .type "list", dict := none, data := .seq ([] : List Value).toArray } = Hl at ns₁ sb₁ ⊢
  have hC : Hl.objs.size = s2.heap.objs.size + 1 := by rw [← hP, Heap.size_push]
  have nDC : s2.heap.objs.size ≠ Hl.objs.size := by rw [hC]; exact Nat.ne_of_lt (Nat.lt_succ_self _)
  have below : ∀ {b : Addr} {o : Obj}, s2.heap.get? b = some o → b ≠ Hl.objs.size := fun {b o} z => by
    have := Heap.lt_size z
    rw [hC]
    exact Nat.ne_of_lt (Nat.lt_succ_of_lt this)
  have old : ∀ b o, s2.heap.get? b = some o → h₁.get? b = some o := fun b o z => sb₁.extBut b o (below z) (Heap.get?_push_of_some _ (hP ▸ Heap.get?_push_of_some _ z))
  have hD1 : h₁.get? s2.heap.objs.size = some { cls := .type "list", data := .seq ([] : List Value).toArray } := sb₁.extBut _ _ nDC (Heap.get?_push_of_some _ (hP ▸ Heap.get?_push_size _ rfl))
  have fD : H2 s2.heap.objs.size = none := I2.hok.fresh (Nat.le_refl _)
  have fC : H2 Hl.objs.size = none := I2.hok.fresh (by rw [hC]; exact Nat.le_succ _)
  have ok : (X.blk N' sc cl Hl.objs.size s2 H2 fp).Ok := by
    refine ⟨I2.ok.mod, hk, I2.ok.glob, I2.ok.blt, ?_, fun x y c h1 h2 => I2.ok.inj x y c (hsub x c h1) (hsub y c h2), fun x hx => ?_, fun x c z => ?_, I2.ok.hd, I2.ok.frames, .inl rfl, fun b hb => ⟨?_, fun x c z => (f2 b hb).2.2.2.2.1 x c (hsub x c z)⟩,
      I2.bs, Nat.le_trans I2.ok.bsz I2.sz, fun b o z hb => ?_, fun b hb z => ?_, I2.stack, I2.stkFree⟩
    · show s2.heap.objs.size ≤ Hl.objs.size
      rw [hC]; exact Nat.le_succ _
    · have hx' : (sc.names.map fun (n, k) => if (k == NameKind.free && X.env.scope.kind == .function && X.env.kindOf n == some .cell) then (n, NameKind.cell) else (n, k)).lookup x = some .cell ∨
          (sc.names.map fun (n, k) => if (k == NameKind.free && X.env.scope.kind == .function && X.env.kindOf n == some .cell) then (n, NameKind.cell) else (n, k)).lookup x = some .free := hx
      rw [GX.lookup_relabel] at hx'
      cases e : sc.names.lookup x with
      | none =>
        rw [e] at hx'
        simp at hx'
      | some k =>
        rw [e] at hx'
        by_cases hf : k = .free
        · subst hf
          exact hhas x (PySem.mem_of_lookup e)
        · have hb : (k == NameKind.free) = false := by simpa using hf
          have e2 : ((some k).map fun k => if (k == NameKind.free && X.env.scope.kind == .function && X.env.kindOf x == some .cell) then NameKind.cell else k) = some k := by
            show some (if (k == NameKind.free && X.env.scope.kind == .function && X.env.kindOf x == some .cell) = true then NameKind.cell else k) = some k
            rw [hb, Bool.false_and, Bool.false_and]
            rfl
          rw [e2] at hx'
          rcases hx' with z | z
          · exact absurd (Option.some.inj z) (b1 _ (PySem.mem_of_lookup e))
          · exact absurd (Option.some.inj z) hf
    · cases z
    · obtain ⟨o, z, _⟩ := T.obj 0 _ st2 b hb
      exact below z
    · rcases (f2 b hb).2.2.2.1 with f3 | f3
      · exact I2.ok.noex b o z f3
      · have l1 := Heap.lt_size z
        have l2 := I2.ok.bsz
        exact absurd (Nat.lt_of_lt_of_le l1 (Nat.le_trans l2 f3)) (Nat.lt_irrefl _)
    · rcases List.mem_cons.mp (I2.stkSub b z) with z | z
      · exact (f2 b hb).2.1 z
      · exact (f2 b hb).2.2.1 z
  have IY : Inv (X.blk N' sc cl Hl.objs.size s2 H2 fp) [] (blkSt src σ) (upd H2 s2.heap.objs.size (.lst [])) { s2 with heap := h₁, toks := s2.toks + ([] : List (Str × Value)).length } := by
    refine ⟨ok, rfl, I2.bare, Un.laid old (Nat.le_refl _) fD, ⟨_, ns₁, fun i x v e1 e2 _ => ?_⟩, fun x c z => ?_, ?_, fun x c z => ?_, fun p hp => ?_, I2.hok.laid old (Nat.le_refl _) ⟨Nat.zero_le _, [], 0, .nil, hD1⟩, ?_⟩
    · have e1' : N'[i]? = some x := e1
      unfold blkSt at e2
      rw [List.getElem?_map] at e2
      cases es : src[i]? with
      | none => rw [es] at e2; cases e2
      | some o =>
        rw [es] at e2
        cases o with
        | none => cases e2
        | some j =>
          have e3 : (σ[j]?).bind (fun v => v) = some v := Option.some.inj e2
          have e4 : σ[j]? = some (some v) := by
            cases q : σ[j]? with
            | none => rw [q] at e3; cases e3
            | some w => rw [q] at e3; exact congrArg some e3
          have hz : (x, some j) ∈ N'.zip src := List.mem_of_getElem? (i := i) (by rw [List.getElem?_zip_eq_some]; exact ⟨e1', es⟩)
          have hcap := b6 _ hz
          have hcap' : (decide (X.N[j]? = some x) && decide (sc.names.lookup x = some .free)) = true := hcap
          rw [Bool.and_eq_true] at hcap'
          have c1 : X.N[j]? = some x := of_decide_eq_true hcap'.1
          have c2 : sc.names.lookup x = some .free := of_decide_eq_true hcap'.2
          have hfree := PySem.mem_of_lookup c2
          have vis := b3 _ hfree rfl
          obtain ⟨m, hn, hl⟩ := I2.loc
          obtain ⟨u, ru, lk⟩ := hl j x v c1 e4 (.inr vis)
          rcases lk with ⟨k1, _⟩ | ⟨_, c, k2, z⟩
          · have k1' : X.env.scope.names.lookup x = some .local := k1
            rcases vis with v | v <;> (rw [k1'] at v; cases v)
          · obtain ⟨c', k3⟩ := hhas x hfree
            have k4 := hsub x c' k3
            rw [k2] at k4
            cases k4
            refine ⟨u, ru, .inr ⟨?_, c, k3, z.keeps old⟩⟩
            show (sc.names.map fun (n, k) => if (k == NameKind.free && X.env.scope.kind == .function && X.env.kindOf n == some .cell) then (n, NameKind.cell) else (n, k)).lookup x = some .cell ∨
              (sc.names.map fun (n, k) => if (k == NameKind.free && X.env.scope.kind == .function && X.env.kindOf n == some .cell) then (n, NameKind.cell) else (n, k)).lookup x = some .free
            rw [GX.lookup_relabel, c2]
            show some (if _ then NameKind.cell else NameKind.free) = _ ∨ some (if _ then NameKind.cell else NameKind.free) = _
            split
            · exact .inl rfl
            · exact .inr rfl
    · obtain ⟨v, q⟩ := I2.cell x c (hsub x c z)
      exact ⟨v, q.keeps old⟩
    · show upd H2 s2.heap.objs.size (.lst []) Hl.objs.size = none
      rw [upd_ne (Ne.symm nDC)]
      exact fC
    · obtain ⟨v, q⟩ := I2.cell x c (hsub x c z)
      rw [upd_ne (Nat.ne_of_lt q.lt)]
      exact I2.freeC x c (hsub x c z)
    · exact absurd (show p ∈ ([] : List (Addr × Obj)) from hp) (by simp)
    · show (src.map _).length = N'.length
      rw [List.length_map]
      exact b5
  have stat : ∀ {H' : Hp}, (∀ b ∈ fp, H' b = none) → ∀ b ∈ fp, FpOk (X.blk N' sc cl Hl.objs.size s2 H2 fp) [] H' b := fun hn b hb =>
    ⟨hn b hb, (ok.exf b hb).1, ok.exfs b hb, .inl hb, (ok.exf b hb).2, fun p hp => absurd (show p ∈ ([] : List (Addr × Obj)) from hp) (by simp)⟩
  have loop : codeAny (model X.prog X.w) X.A (.compLoop (.ListComp elt [⟨tg, iter, ifs, 0⟩] sc pos) 0 (.ref it) (.ref s2.heap.objs.size) (compEnvC sc cl Hl.objs.size X.env))
      (RR (.ref s2.heap.objs.size) Hl.objs.size) { s2 with heap := h₁, toks := s2.toks + ([] : List (Str × Value)).length } := by
    refine GX.compLoop_go (fun n s' => ∃ i σ' H', Inv (X.blk N' sc cl Hl.objs.size s2 H2 fp) [] σ' H' s' ∧ tn i s'.heap ∧ (∀ b ∈ fp, H' b = none) ∧ W i n σ' H') ?_ m0
      ⟨0, _, _, IY, T.keep 0 _ _ st2 (fun b _ o z => old b o z), fun b hb => ?_, w0⟩
    · rintro n s3 ⟨i, σ3, H3, I3, st3, fr3, w3⟩
      rcases turn i n σ3 H3 w3 with ⟨stop, qn⟩ | ⟨go, N, hN, step⟩
      · refine wpAny_bind (thn (T.done (X.blk N' sc cl Hl.objs.size s2 H2 fp) rfl rfl rfl hc i [] s3 σ3 H3 (fun _ _ => False) I3 (stat fr3) st3 stop) fun r s4 ⟨hr, I4⟩ => ?_)
        subst hr
        exact wpAny_pure <| fin _ s4 σ3 H3 (by rw [hC]; exact Nat.le_succ _) I4 qn
      · refine wpAny_bind (thn (T.item (X.blk N' sc cl Hl.objs.size s2 H2 fp) rfl rfl rfl hc i [] s3 σ3 H3 (fun _ _ => False) I3 (stat fr3) st3 go) fun r s4 ⟨u, hr, h4⟩ => ?_)
        subst hr
        refine wpAny_bind (thn h4 fun _ s5 ⟨x, H5, I5, r5, y5, st5, fr5⟩ => ?_)
        have I5' := I5.pinned (stat fr5) (T.obj _ _ st5)
        have again : ∀ {σ7 : St} {H7 : Hp} {s7 : Shared}, Inv (X.blk N' sc cl Hl.objs.size s2 H2 fp) ([] ++ pinsAt fp s5.heap) σ7 H7 s7 → N σ7 H7 →
            ∃ m, m < n ∧ ∃ i σ' H', Inv (X.blk N' sc cl Hl.objs.size s2 H2 fp) [] σ' H' s7 ∧ tn i s7.heap ∧ (∀ b ∈ fp, H' b = none) ∧ W i m σ' H' := fun {σ7 H7 s7} I7 n7 => by
          obtain ⟨m', hm, w7⟩ := hN σ7 H7 n7
          refine ⟨m', hm, i + 1, σ7, H7, I7.unpinned, T.keep _ _ _ st5 fun b hb o z => (I7.pin (b, o) (List.mem_append_right _ (List.mem_append_right _ (mem_pinsAt hb z)))).1, fun b hb => ?_, w7⟩
          obtain ⟨o, z, _⟩ := T.obj _ _ st5 b hb
          exact (I7.pin (b, o) (List.mem_append_right _ (List.mem_append_right _ (mem_pinsAt hb z)))).2.1
        refine wpAny_bind (thn (hg cl Hl.objs.size s2 H2 fp b4 _ s5 σ3 H5 x u _ I5' r5 (step x H5 y5)) fun _ s6 ⟨σ6, H6, I6, q6⟩ => ?_)
        refine wpAny_bind (thn (ht cl Hl.objs.size s2 H2 fp _ s6 σ6 H6 _ I6 q6) fun ok s7 ⟨H7, I7, q7⟩ => ?_)
        cases ok with
        | true =>
          rw [if_pos rfl] at q7 ⊢
          refine wpAny_bind (thn (he cl Hl.objs.size s2 H2 fp _ s7 σ6 H7 _ I7 q7) fun yv s8 ⟨y, H8, I8, r8, ys, hD, hz, n8⟩ => ?_)
          exact wpAny_bind <| thn (mt_append (X := X.blk N' sc cl Hl.objs.size s2 H2 fp) _ s8 σ6 H8 (.ref s2.heap.objs.size) [y] (.ref s2.heap.objs.size) [yv] (fun _ H' => N σ6 H') I8 rfl (.cons r8 .nil) ⟨_, ys, y, rfl, rfl, hD, hz, n8⟩)
            fun _ s9 ⟨_, H9, I9, _, n9⟩ => wpAny_pure (again I9 n9)
        | false =>
          rw [if_neg Bool.false_ne_true] at q7 ⊢
          exact wpAny_pure (again I7 q7)
    · obtain ⟨o, z, _⟩ := T.obj 0 _ st2 b hb
      rw [upd_ne (Nat.ne_of_lt (Heap.lt_size z))]
      exact (f2 b hb).1
  exact codeAny_compStart_list loop (T.self X.A 0 _ _ _ (T.keep 0 _ _ st2 (fun b _ o z => old b o z)) loop)

theorem pe_comp {X : Cx} {elt tg iter : Expr} {ifs : List Expr} {sc : Scope} {pos : Pos} {wi : TI} {g : TG} {tt : TT} {te : TE} (N' : List Str) (src : List (Option Nat))
    (hc : X.calm = true) (hk : sc.kind = .function) (hB : decide (BlkP X.N N' src X.env.scope sc) = true) (hi : PI X tg iter wi)
    (hg : ∀ cl C s2 H2 fp, N'.Nodup → PG (X.blk N' sc cl C s2 H2 fp) tg g)
    (ht : ∀ cl C s2 H2 fp, PIf (X.blk N' sc cl C s2 H2 fp) ifs tt)
    (he : ∀ cl C s2 H2 fp, PE (X.blk N' sc cl C s2 H2 fp) elt te)
    (hs : ∀ x, foldedSetIterable iter X.env x = pure x := by intro _; rfl) :
    PE X (.ListComp elt [⟨tg, iter, ifs, 0⟩] sc pos) (tComp src wi g tt te) := by
  intro pins s σ H Q I h
  have B := of_decide_eq_true hB
  obtain ⟨cl, hclos, hsub, hhas⟩ := GX.closure_ok (env := X.env) (sc := sc) fun y hy hf => I.ok.has y.1 (B.2.2.1 y hy hf)
  rw [eval_ListComp]
  refine wpAny_comprehension_free (use := none) rfl hs hclos hk B.2.1 (thn (hi pins s σ H _ I h) fun v s1 h1 => thn h1 fun itv s2 h2 => ?_)
  obtain ⟨it, fp, tn, J, H2, e, I2, T, st2, f2, q⟩ := h2
  subst e
  obtain ⟨W, ⟨m0, w0⟩, turn⟩ := q s2.heap.objs.size (I2.hok.fresh (Nat.le_refl _))
  refine comp_core (RR := fun acc C => compPost (model X.prog X.w) X.A X.xe none (EP X pins σ Q) acc C) (Qe := fun H' => Q (.ref s2.heap.objs.size) H') hc hk B hsub hhas hg ht he I2 T st2 f2 w0 turn fun C s4 σ3 H3 hC I4 qn => ?_
  obtain ⟨m, hn, _⟩ := I4.loc
  refine ⟨m, hn, fun h' sb => ⟨.ref s2.heap.objs.size, H3, ?_, rfl, qn⟩⟩
  exact I2.call' (s' := { s4 with heap := h' }) (ch := fp) I4.os (I4.base.but sb (Heap.get?_none_of_le hC)) (I4.hok.but sb I4.free) I4.bare fun b hb => ⟨(f2 b hb).2.2.2.1, (f2 b hb).2.1, (f2 b hb).2.2.2.2.1, (f2 b hb).2.2.2.2.2⟩


theorem ps_comp {X : Cx} {elt tg iter : Expr} {ifs : List Expr} {sc : Scope} {pos py spos : Pos} {y : Str} {i : Nat} {wi : TI} {g : TG} {tt : TT} {te : TE} (N' : List Str) (src : List (Option Nat))
    (hN : X.N.Nodup) (hy : X.N[i]? = some y) (hl : Loc X.env.scope y) (hc : X.calm = true) (hk : sc.kind = .function) (hB : decide (BlkP X.N N' src X.env.scope sc) = true) (hi : PI X tg iter wi)
    (hg : ∀ cl C s2 H2 fp, N'.Nodup → PG (X.blk N' sc cl C s2 H2 fp) tg g)
    (ht : ∀ cl C s2 H2 fp, PIf (X.blk N' sc cl C s2 H2 fp) ifs tt)
    (he : ∀ cl C s2 H2 fp, PE (X.blk N' sc cl C s2 H2 fp) elt te)
    (hsw : swapsWith (.ListComp elt [⟨tg, iter, ifs, 0⟩] sc pos) (some (.Name y py)) spos.line X.env = pure true := by rfl)
    (hs : ∀ x, foldedSetIterable iter X.env x = pure x := by intro _; rfl) (hf : X.fn y = true ∨ X.env.scope.names.lookup y = some .local := by first | exact .inl rfl | exact .inr rfl) :
    PS X (.Assign [.Name y py] (.ListComp elt [⟨tg, iter, ifs, 0⟩] sc pos) spos) (tAsg (tComp src wi g tt te) (gName i)) := by
  intro pins s σ H D I h
  have B := of_decide_eq_true hB
  obtain ⟨cl, hclos, hsub, hhas⟩ := GX.closure_ok (env := X.env) (sc := sc) fun y hy hf => I.ok.has y.1 (B.2.2.1 y hy hf)
  rw [exec_Assign_Name_used _ _ _ _ hsw]
  refine wpAny_bind (wpAny_standAt (wpAny_bind ?_))
  show wpAny _ X.A (do let _ ← comprehension (.ListComp elt [⟨tg, iter, ifs, 0⟩] sc pos) sc X.env _ (newList []) false (eval iter X.env) (some (assign (.Name y py) X.env))) _ _ s
  refine wpAny_bind (wpAny_mono (wpAny_comprehension_free (use := some (assign (.Name y py) X.env)) (Q := fun _ s' => SP X pins D .next s') rfl hs hclos hk B.2.1
    (thn (hi pins s σ H _ I h) fun v s1 h1 => thn h1 fun itv s2 h2 => ?_)) (fun _ s' hq => wpAny_pure (wpAny_pure hq)) fun _ _ e => e)
  obtain ⟨it, fp, tn, J, H2, e, I2, T, st2, f2, q⟩ := h2
  subst e
  obtain ⟨W, ⟨m0, w0⟩, turn⟩ := q s2.heap.objs.size (I2.hok.fresh (Nat.le_refl _))
  refine comp_core (RR := fun acc C => compPost (model X.prog X.w) X.A X.xe (some (assign (.Name y py) X.env)) (fun _ s' => SP X pins D .next s') acc C) (Qe := fun H' => D.nx (σ.set i (some (.ref s2.heap.objs.size))) H') hc hk B hsub hhas hg ht he I2 T st2 f2 w0 turn
    fun C s4 σ3 H3 hC I4 qn => ?_
  have IX : Inv X pins σ H3 s4 := I2.call' (ch := fp) I4.os I4.base I4.hok I4.bare fun b hb => ⟨(f2 b hb).2.2.2.1, (f2 b hb).2.1, (f2 b hb).2.2.2.2.1, (f2 b hb).2.2.2.2.2⟩
  have nC : ∀ {b : Addr} {o : Obj}, s2.heap.get? b = some o → C ≠ b := fun {b o} z => Nat.ne_of_gt (Nat.lt_of_lt_of_le (Heap.lt_size z) hC)
  have nL : C ≠ X.env.locals := Nat.ne_of_gt (Nat.lt_of_lt_of_le I2.lt hC)
  have nK : ∀ x c, X.env.cells.lookup x = some c → c ≠ C := fun x c z => by
    obtain ⟨v, o, ho, _⟩ := I2.cell x c z
    exact Ne.symm (nC ho)
  obtain ⟨m, hn, _⟩ := I4.loc
  show wpAny _ X.A (assign (.Name y py) X.env (.ref s2.heap.objs.size)) _ _ s4
  refine wpAny_assign_Name (store_ok2 IX hN hy hl (v := .ref s2.heap.objs.size) rfl (fun s5 I5 h5 => ?_) hf)
  obtain ⟨a, sb, ha⟩ := h5
  have na : C ≠ a := by
    rcases ha with z | z
    · rw [z]; exact nL
    · exact Ne.symm (nK _ _ z)
  refine ⟨m, hn.sameBut sb na, fun h' sb' => ⟨_, H3, ?_, qn⟩⟩
  exact I5.turned (it := C) (t' := s5.toks) (fun b o hb z => (sb'.2 b hb).trans z) I4.free nL (.inr (Nat.le_trans I2.sz hC)) nK fun p hp => Ne.symm (nC (I2.pin p hp).1)


theorem cT_yes {i : Nat} {te : TE} {D : Addr} {N : St → Hp → Prop} {x : V} {σ : St} {H : Hp} (h : te (σ.set i (some x)) H fun y H4 => ∃ ys, H4 D = some (.lst ys) ∧ ys.length < sizeLine ∧ N (σ.set i (some x)) (upd H4 D (.lst (ys ++ [y])))) : cTurn (gName i) tYes te D N x σ H := by
  show (if true = true then te (σ.set i (some x)) H (fun y H4 => ∃ ys, H4 D = some (.lst ys) ∧ ys.length < sizeLine ∧ N (σ.set i (some x)) (upd H4 D (.lst (ys ++ [y])))) else N (σ.set i (some x)) H)
  rw [if_pos rfl]
  exact h
theorem comp_range {lo : Int} {n : Nat} {g : TG} {tt : TT} {te : TE} {σ : St} {H : Hp} {D : Addr} {Qe : Hp → Prop} (Pv : Nat → St → Hp → Prop) (h0 : Pv 0 σ H)
    (hs : ∀ i σ H, i < n → Pv i σ H → cTurn g tt te D (Pv (i + 1)) (.int (lo + i)) σ H) (hd : ∀ σ H, Pv n σ H → Qe H) :
    ∃ W : Nat → Nat → St → Hp → Prop, (∃ m, W 0 m σ H) ∧ ∀ i m σ' H', W i m σ' H' → ((Itr lo n).stop i H' ∧ Qe H') ∨ ((Itr lo n).go i H' ∧ ∃ N : St → Hp → Prop, (∀ σ2 H2, N σ2 H2 → ∃ m', m' < m ∧ W (i + 1) m' σ2 H2) ∧
      ∀ x H'', (Itr lo n).yld i H' x H'' → cTurn g tt te D N x σ' H'') := by
  refine ⟨fun i m σ H => m = n - i ∧ i ≤ n ∧ Pv i σ H, ⟨n, by simp, Nat.zero_le _, h0⟩, ?_⟩
  rintro i m σ H ⟨rfl, hi, p⟩
  by_cases hlt : i < n
  · refine .inr ⟨hlt, Pv (i + 1), fun σ' H' p' => ⟨n - (i + 1), by omega, rfl, hlt, p'⟩, fun x H' y => ?_⟩
    obtain ⟨e, y⟩ := y
    subst e y
    exact hs i σ _ hlt p
  · have e : i = n := by omega
    subst e
    exact .inl ⟨Nat.le_refl _, hd σ H p⟩
theorem comp_list {K : PySem.W.Frag} {a : Addr} {xs : List V} {g : TG} {tt : TT} {te : TE} {σ : St} {H : Hp} {D : Addr} {Qe : Hp → Prop} (Pv : Nat → St → Hp → Prop) (h0 : Pv 0 σ H) (hl : ∀ i σ H, i ≤ xs.length → Pv i σ H → SqL K H a xs)
    (hs : ∀ i x σ H, xs[i]? = some x → Pv i σ H → cTurn g tt te D (Pv (i + 1)) x σ H) (hd : ∀ σ H, Pv xs.length σ H → Qe H) :
    ∃ W : Nat → Nat → St → Hp → Prop, (∃ m, W 0 m σ H) ∧ ∀ i m σ' H', W i m σ' H' → ((Itl K a).stop i H' ∧ Qe H') ∨ ((Itl K a).go i H' ∧ ∃ N : St → Hp → Prop, (∀ σ2 H2, N σ2 H2 → ∃ m', m' < m ∧ W (i + 1) m' σ2 H2) ∧
      ∀ x H'', (Itl K a).yld i H' x H'' → cTurn g tt te D N x σ' H'') := by
  refine ⟨fun i m σ H => m = xs.length - i ∧ i ≤ xs.length ∧ Pv i σ H, ⟨xs.length, by simp, Nat.zero_le _, h0⟩, ?_⟩
  rintro i m σ H ⟨rfl, hi, p⟩
  have q := hl i σ H hi p
  by_cases hlt : i < xs.length
  · refine .inr ⟨⟨xs, xs[i], q, by simp [hlt]⟩, Pv (i + 1), fun σ' H' p' => ⟨xs.length - (i + 1), by omega, rfl, hlt, p'⟩, fun x H' y => ?_⟩
    obtain ⟨e, y⟩ := y
    subst e
    exact hs i x σ _ (y xs q) p
  · have e : i = xs.length := by omega
    subst e
    exact .inl ⟨⟨xs, q, Nat.le_refl _⟩, hd σ H p⟩
end L2

namespace L2
open PySem PySem.Spec PyProof.Rows
section
variable {X : Cx}

def CDivB (_ j : Int) : Prop := 0 < j ∧ j < 18446744073709551616
theorem op_fdivB : OpR X (binaryOp .FloorDiv) (rI CDivB fun i j => .int (i / j)) := opI fun i j _ _ _ _ _ hc q => by
  have h1 : (0 : Int) < j := hc.1
  have h2 : j < 18446744073709551616 := hc.2
  refine floordiv_int (by omega) (by rw [Int.fdiv_eq_ediv_of_nonneg i (by omega)]; exact q) (.inl (PyProof.noPylong_of_log2 ?_))
  have h3 : j.natAbs.log2 < 64 := (Nat.log2_lt (by omega)).mpr (by omega)
  omega
theorem all_range (bs : List Bool) : (List.range bs.length).all (fun i => bs.getD i false) = bs.all fun b => b := by
  have e : (List.range bs.length).map (fun i => bs.getD i false) = bs := List.ext_getElem (by simp) fun i h1 h2 => by simp [h2]
  conv => rhs; rw [← e, List.all_map]
  rfl
theorem call_all (hc : X.calm = true) : CallR X (.builtin "all") (fun xs H Q => ∃ (p : Addr) (bs : List Bool), xs = [.ref p] ∧ SqL X.K H p (bs.map V.bl) ∧ Q (.bl (bs.all fun b => b)) H) := by
  intro pins s σ H xs us Q I r h
  obtain ⟨p, bs, rfl, hq, q⟩ := h
  obtain ⟨u, rfl, rx⟩ := vals1 r
  cases rx
  obtain ⟨its, rv, pl, hz⟩ := I.list hq
  have hl : its.toArray.size = bs.length := by rw [List.size_toArray, ← rv.length, List.length_map]
  have hp : p < s.heap.objs.size := let ⟨_, z, _⟩ := pl.isList; Heap.lt_size z
  refine call_all_walk (wpAny_pyIter_list pl.isList ?_)
  refine ⟨s.heap.objs.size, [s.heap.objs.size, p], [s.heap.objs.size], its.toArray.size, _, _, fun i => bs.getD i false, rfl, Walks.list (A := X.A.in1) (I.ok.hd hc) _ p (Nat.ne_of_lt hp) its.toArray,
    ⟨⟨_, Heap.get?_push_size _ rfl, rfl, rfl⟩, pl.isList.push _⟩, fun i v s' Q' E' hP hQ => ?_, fun h' tk kp => ?_⟩
  · have hv : its[i]? = some v := by simpa using hP
    have hb : i < bs.length := by
      have := (List.getElem?_eq_some_iff.mp hv).1
      rw [← hl, List.size_toArray]
      exact this
    obtain ⟨u, hu, ru⟩ := rv.get (i := i) (x := V.bl bs[i]) (by rw [List.getElem?_map, List.getElem?_eq_getElem hb]; rfl)
    rw [hv] at hu
    cases hu
    obtain rfl : v = Value.bool bs[i] := ru
    refine wpAny_truthy_bool ?_
    have e : bs.getD i false = bs[i] := by rw [List.getD_eq_getElem?_getD, List.getElem?_eq_getElem hb, Option.getD_some]
    rw [← e]
    exact hQ
  · refine ⟨.bl (bs.all fun b => b), H, I.kept (t' := tk) fun b o e => kp b o ?_ (Heap.get?_push_of_some _ e), ?_, q⟩
    · intro z
      have z' : b = s.heap.objs.size := by simpa using z
      exact absurd (Heap.lt_size e) (by rw [z']; exact Nat.lt_irrefl _)
    · show Value.bool _ = Value.bool _
      rw [hl, all_range]


end


structure Cal (K : PySem.W.Frag) (mg : Str → Option Value) (x : Str) (f : Addr) (fd : FuncData) (ps : List Str) : Prop where
  mg : mg x = some (.ref f)
  kp : PySem.W.keepIn K (.ref f) = true
  bd : Binds K fd ps []
theorem pcall {X : Cx} {k : Nat} {f : Addr} {fd : FuncData} {ps : List Str} {sp : Sp} {x : Str} {e : Expr} {es : List Expr} {t : TA} {p pos : Pos} (F : FnOk X.prog X.w X.K X.mg X.base CX0 k f fd ps sp) (c : Cal X.K X.mg x f fd ps) (hr : Room k X.A) (ha : PA X (e :: es) t)
    (hg : Gl X x := by rfl) (hdb : (x == ("__debug__" : Str)) = false := by decide) (he : starEach (e :: es) X.env = (false, eval e X.env) :: starEach es X.env := by rfl) (hpl : (backTo pos (starEach es X.env)).any (·.1) = false := by rfl) :
    PE X (.Call (.Name x p) (e :: es) [] pos) (tCall sp [] E0 t) := pe_call F hr hg c.mg c.kp c.bd .nil pass0 ha hdb he hpl

def tTru (K : PySem.W.Frag) (t : TE) : TT := fun σ H Q => t σ H fun x H' => ∃ k, TruV K x H' k ∧ Q k H'

theorem pt_callK {X : Cx} (K : PySem.W.Frag) {f : Expr} {es : List Expr} {kws : List Keyword} {pos : Pos} {t : TE} (hK : X.K = K) (h : PE X (.Call f es kws pos) t) : PT X (.Call f es kws pos) (tTru K t) := by
  subst hK
  exact pt_truth h fun _ => rfl

end L2

namespace L2
open PySem PySem.Spec PyProof.Rows
section
variable {X : Cx}
def SlR3 (X : Cx) (r : V → Option Int → Option Int → Option Int → Hp → VK → Prop) : Prop :=
  ∀ (pins : List (Addr × Obj)) (s : Shared) (σ : St) (H : Hp) (x : V) (v vl vu vt : Value) (lo hi st : Option Int) (sl : Addr) (Q : VK), Inv X pins σ H s → RelV x v → s.heap.IsSliceOf sl vl vu vt → IsPart vl lo → IsPart vu hi → IsPart vt st → r x lo hi st H Q →
    ∃ T id, typeLookup (.type T) "__getitem__" = pure (some (.builtin id)) ∧ s.TypeIs v T ∧ wpAny (model X.prog X.w) X.A (getItem v (.ref sl)) (EP X pins σ Q) X.xe s
def tSl3 (r : V → Option Int → Option Int → Option Int → Hp → VK → Prop) (te : TE) (tl th tk : TO) : TE := fun σ H Q => te σ H fun x H1 => tl σ H1 fun l H2 => th σ H2 fun u H3 => tk σ H3 fun k H4 => r x l u k H4 Q
theorem pe_slice3 {e est : Expr} {lo hi : Option Expr} {te : TE} {tl th tk : TO} {pos p2 : Pos} {r : V → Option Int → Option Int → Option Int → Hp → VK → Prop} (hr : SlR3 X r) (he : PE X e te) (hl : PO X lo tl) (hu : PO X hi th) (hk : PO X (some est) tk) :
    PE X (.Subscript e (.Slice lo hi (some est) p2) pos) (tSl3 r te tl th tk) := by
  intro pins s σ H Q I h
  refine Subscript_ (thn (he pins s σ H _ I h) fun v s1 ⟨x, H1, I1, r1, q1⟩ => ?_)
  refine wpAny_Slice (thn (hl pins s1 σ H1 _ I1 q1) fun vl s2 ⟨l, H2, I2, pl, q2⟩ => thn (hu pins s2 σ H2 _ I2 q2) fun vu s3 ⟨u, H3, I3, pu, q3⟩ => thn (hk pins s3 σ H3 _ I3 q3) fun vt s4 ⟨k, H4, I4, pt, q4⟩ => ?_)
  have I5 : Inv X pins σ H4 { s4 with heap := s4.heap.push { cls := .type "slice", data := .fields #[vl, vu, vt] } } := I4.kept (t' := s4.toks) fun b ob q => Heap.get?_push_of_some _ q
  obtain ⟨T, id, hT, ht, hg⟩ := hr pins { s4 with heap := s4.heap.push { cls := .type "slice", data := .fields #[vl, vu, vt] } } σ H4 x v vl vu vt l u k s4.heap.objs.size Q I5 r1 (Heap.IsSliceOf.new ..) pl pu pt q4
  show wpAny (model X.prog X.w) X.A (subscriptTail e (.Slice lo hi (some est) p2) v (.ref s4.heap.objs.size)) (EP X pins σ Q) X.xe { s4 with heap := s4.heap.push { cls := .type "slice", data := .fields #[vl, vu, vt] } }
  exact tail_any (ops := [v, .ref s4.heap.objs.size]) ht hT hg (by with_unfolding_all rfl)

theorem sl3_rev : SlR3 X (fun x lo hi st H Q => lo = none ∧ hi = none ∧ st = some (-1) ∧ ∃ a xs, x = .ref a ∧ SqL X.K H a xs ∧ ∀ p, H p = none → Q (.ref p) (upd H p (.lst xs.reverse))) := by
  intro pins s σ H x v vl vu vt lo hi st sl Q I rx hs pl pu pt h
  obtain ⟨rfl, rfl, rfl, a, xs, rfl, hx, q⟩ := h
  cases rx
  obtain ⟨its, r, ht, hz⟩ := I.list hx
  have hlen := r.length
  refine ⟨"list", _, slot_list_getitem.lookup, ht.isList.typeIs, ?_⟩
  refine wpAny_getItem_list_slice ht.isList hs pl pu pt (by decide) ?_ (by rw [List.size_toArray] <;> omega)
  rw [GX.pick_rev]
  refine ⟨.ref s.heap.objs.size, _, I.laid (t' := s.toks) (o := .lst xs.reverse) (fun b ob q => Heap.get?_push_of_some _ q) (Nat.le_refl _) ?_, rfl, q _ (I.hok.fresh (Nat.le_refl _))⟩
  exact ⟨by rw [List.length_reverse]; exact hz, its.reverse, 0, r.reverse, Heap.get?_push_size _ rfl⟩
end
end L2

set_option Elab.async false
set_option linter.all false
set_option maxRecDepth 100000
namespace GX
open PySem
theorem keys_list : typeLookup (.type "list") (Str.ofString "keys") = pure none := am_miss_of_fast (by kernel_rfl)
section
variable {prog : Program} {w : World} {A : Around} {E : Value → Shared → Prop} {s : Shared} {l : Addr} {items : Array Value} {n : Nat} {Q : Option Value → Shared → Prop}
theorem run_slot {T id : String} {nm : Str} {B : Builtin} {x : Value} {R : Result → Shared → Prop} {S : PySem.Spec} (slot : Slot T nm id) (en : entryFor table id = some B) (hT : s.TypeIs (.ref l) T) (ar : argsOk id ⟨[.ref l, x], []⟩) (m : Meets (B ⟨[.ref l, x], []⟩) S) (h : S A R s) :
    codeAny (model prog w) A (.call (.builtin id) ⟨[.ref l, x], []⟩) R s := codeAny_call_builtin slot.plain en (slot.check _ _ _ _ _ _ _ _ hT ar (m prog w A R s h))

theorem no_attr {T id : String} {nm : Str} {o : Obj} (slot : Slot T "__getattribute__" id) (ga : typeLookup (.type T) "__getattr__" = pure none) (en : entryFor table id = some Builtin.«object.__getattribute__») (ar : ∀ a b, argsOk id ⟨[a, b], []⟩)
    (hl : s.heap.get? l = some o) (hc : o.cls = .type T) (m : ∀ u, Meets (Builtin.«object.__getattribute__» ⟨[.ref l, .str nm u], []⟩) (fun A R s => s.heap.get? l = some o ∧ raisesAttr (.ref l) nm A R s))
    (hA : A.handled = none) (h : ∀ h' tk, Grown s.heap h' → Q none { s with heap := h', toks := tk }) : wpAny (model prog w) A (getAttr? (.ref l) nm) Q E s := by
  obtain ⟨c, dd, dt, sl⟩ := o
  cases hc
  obtain ⟨hp, g, d, tk, os⟩ := s
  have hT : ∀ tk, Shared.TypeIs ⟨hp, g, d, tk, os⟩ (.ref l) T := fun _ => ⟨_, hl, rfl⟩
  have := slot.lookup
  have := slot.bind (.ref l)
  have := sub_AttributeError
  unfold getAttr? getAttrBy? getAttrBy
  repeat' first | assumption | exact hT _ | wp_step
  refine run_slot slot en (hT _) (ar _ _) (m _) ⟨hl, hA, fun h' tk' e x => ?_⟩
  obtain ⟨t', u', _⟩ := x.there
  have q := h h' tk' x.keeps
  unfold getattributeRaised
  repeat' first | assumption | wp_step

theorem no_keys (hA : A.handled = none) (hl : s.heap.get? l = some (lstO items n)) (h : ∀ h' tk, Grown s.heap h' → Q none { s with heap := h', toks := tk }) : wpAny (model prog w) A (getAttr? (.ref l) (Str.ofString "keys")) Q E s :=
  no_attr F.slot_list_getattribute am_list_getattr_none am_entry_list_getattribute F.args_list_getattribute_2 hl rfl (fun u => meets_getattribute_miss_list l items n _ _ u keys_list (by decide)) hA h
end
end GX

set_option Elab.async false
set_option linter.all false
set_option maxRecDepth 100000
namespace GX
open PySem
theorem entry_upd_loop : entryFor table "dict.update.loop" = some Builtin.«dict.update.loop» := entryFor_of_tree (by kernel_rfl)
theorem plain_upd_loop : plainId "dict.update.loop" = true := by decide +kernel
section
variable {prog : Program} {w : World} {A : Around} {R : Result → Shared → Prop} {I d : Addr} {fp wr : List Addr} {n : Nat} {P : Nat → Value → Prop} {St : Nat → Heap → Prop} {K : Type} [DecidableEq K] {knd : KeyKind prog w K}
theorem merged_len (kx : List (K × Value)) : (merged [] kx).length ≤ kx.length := by
  have := merged_length_le [] kx
  simpa using this

theorem turn_upd (I d : Addr) (i : Int) (t : Tok) : MeetsIn prog w (Builtin.«dict.update.loop» ⟨[.ref d, .ref I, .int i t, .none], []⟩) fun A R s => wpAny (model prog w) A.in1 (pyNext (.ref I)) (fun r s => match r with
    | none => R (.ok (.ret .none)) s
    | some v => ∃ a o k x c, v = .ref a ∧ s.heap.get? a = some o ∧ o.cls = .type "tuple" ∧ o.data = .seq #[k, x] c ∧
      wpAny (model prog w) A.in1 (dictSet d k x) (fun _ s => codeAny (model prog w) A (.builtin "dict.update.loop" ⟨[.ref d, .ref I, .int (i + 1) 0, .none], []⟩) R s) (fun _ _ => False) s) (fun _ _ => False) s := by
  intro A R s nx
  show wpAny _ _ (pyNext (.ref I) >>= _) _ _ s
  apply wpAny_bind
  refine wpAny_mono nx (fun r s1 h => ?_) fun _ _ z => z.elim
  rcases r with _ | v
  · wp_walk
    exact h
  · obtain ⟨a, o, k, x, c, rfl, ha, hc, hd, q⟩ := h
    have ty : s1.TypeIs (.ref a) "tuple" := ⟨o, ha, hc⟩
    apply wpAny_bind
    apply wpAny_holding
    apply wpAny_bind
    apply wpAny_tryCatch
    wp_walk using wpAny_seqItems ha hd, wpAny_mono q
    · exact fun _ _ e => wpAny_pure ⟨plainId_quiet plain_upd_loop _, e⟩
    · exact fun _ _ z => z.elim

theorem upd_go {D : Nat → Heap → Prop} (W : Walks prog w A.in1 I fp wr n P St) (nd : d ∉ fp) (calm : ∀ i h h', D i h → (∀ b o, b ∉ wr → h.get? b = some o → h'.get? b = some o) → D i h')
    (turn : ∀ i v s, P i v → D i s.heap → ∃ a o k x c, v = .ref a ∧ s.heap.get? a = some o ∧ o.cls = .type "tuple" ∧ o.data = .seq #[k, x] c ∧
      ∀ Q : Unit → Shared → Prop, (∀ h, D (i + 1) h → (∀ b, b ≠ d → h.get? b = s.heap.get? b) → ∀ tk, Q () { s with heap := h, toks := tk }) → wpAny (model prog w) A.in1 (dictSet d k x) Q (fun _ _ => False) s) :
    ∀ (k i : Nat) (s : Shared) (t : Tok), n = i + k → St i s.heap → D i s.heap → (∀ h tk, D n h → R (.ok (.ret .none)) { s with heap := h, toks := tk }) →
      codeAny (model prog w) A (.builtin "dict.update.loop" ⟨[.ref d, .ref I, .int i t, .none], []⟩) R s := by
  intro k
  induction k with
  | zero =>
    intro i s t e st di fin
    obtain rfl : n = i := e
    exact enter entry_upd_loop plain_upd_loop (turn_upd I d _ t) (W.done s _ _ st fun h tk q => fin h tk (calm _ _ _ di q))
  | succ k ih =>
    intro i s t e st di fin
    refine enter entry_upd_loop plain_upd_loop (turn_upd I d _ t) (W.item i s _ _ (by omega) st fun v h tk pv st1 q => ?_)
    obtain ⟨a, o, y, x, c, e1, e2, e3, e4, set⟩ := turn i v { s with heap := h, toks := tk } pv (calm _ _ _ di q)
    refine ⟨a, o, y, x, c, e1, e2, e3, e4, set _ fun h2 d2 sb tk => ?_⟩
    exact ih (i + 1) { s with heap := h2, toks := tk } 0 (by omega) (W.frame _ _ _ st1 fun b hb o e => (sb b fun z => nd (z ▸ hb)).trans e) d2 fin
theorem upd_loop (W : Walks prog w A.in1 I fp wr n P St) (nd : d ∉ fp) (h₀ : Heap) (kx : List (K × Value)) (hn : kx.length = n) (hz : n ≤ sizeLine)
    (hP : ∀ i v, P i v → ∃ a key k x o c, v = .ref a ∧ kx[i]? = some (k, x) ∧ knd.is k key = true ∧ h₀.get? a = some o ∧ o.cls = .type "tuple" ∧ o.data = .seq #[key, x] c ∧ a ≠ d ∧ a ∉ wr) :
    ∀ (k i : Nat) (s : Shared) (t : Tok), n = i + k → St i s.heap → (∀ b o, b ∉ wr → b ≠ d → h₀.get? b = some o → s.heap.get? b = some o) → s.heap.DictOf knd d (merged [] (kx.take i)) →
    (∀ h' tk, (∀ b o, b ∉ wr → b ≠ d → h₀.get? b = some o → h'.get? b = some o) → h'.DictOf knd d (merged [] kx) → R (.ok (.ret .none)) { s with heap := h', toks := tk }) →
    codeAny (model prog w) A (.builtin "dict.update.loop" ⟨[.ref d, .ref I, .int i t, .none], []⟩) R s := by
  have nw : d ∉ wr := fun z => nd (W.sub _ z)
  intro k i s t en st kp dd fin
  refine upd_go (D := fun i h => (∀ b o, b ∉ wr → b ≠ d → h₀.get? b = some o → h.get? b = some o) ∧ h.DictOf knd d (merged [] (kx.take i))) W nd ?_ ?_ k i s t en st ⟨kp, dd⟩ fun h tk q => fin h tk q.1 ?_
  · rintro i h h' ⟨kp, od, es, ep, ho, r⟩ q
    exact ⟨fun b o nb nb' e => q b o nb (kp b o nb nb' e), od, es, ep, q d od nw ho, r⟩
  · rintro i v s pv ⟨kp, dd⟩
    obtain ⟨a, key, k, x, o, c, rfl, hx, hk, ha, hc, hd, na, naw⟩ := hP i v pv
    refine ⟨a, o, key, x, c, rfl, kp a o naw na ha, hc, hd, fun Q q => wpAny_dictSet_pairs hk dd (fun h2 d2 sb => q h2 ⟨fun b o nb nb' e => (sb.2 b nb').trans (kp b o nb nb' e), ?_⟩ sb.2 _) (Nat.le_trans (merged_len _) (by rw [List.length_take]; omega))⟩
    rw [merged_take_succ [] kx i (k, x) hx]
    exact d2
  · have z := q.2
    rwa [← hn, List.take_length] at z
end
section
variable {prog : Program} {w : World} {A : Around} {E : Value → Shared → Prop} {s : Shared} {K : Type} [DecidableEq K] {knd : KeyKind prog w K}
abbrev newD (h : Heap) : Heap := h.push { cls := .type "dict", data := .dict #[] }

theorem dict_opens {T : String} {l : Addr} {Q : Value → Shared → Prop} (ty : Shared.TypeIs { s with heap := newD s.heap } (.ref l) T) (nT : (Value.type T != .type "dict") = true)
    (h : wpAny (model prog w) A.in1.in1 (getAttr? (.ref l) (Str.ofString "keys")) (fun r s1 => r = none ∧ wpAny (model prog w) A.in1.in1 (pyIter (.ref l))
      (fun it s2 => codeAny (model prog w) A.in1 (.builtin "dict.update.loop" ⟨[.ref s.heap.objs.size, it, .int 0 0, .none], []⟩) (wants (fun r s3 => r = .none ∧ Q (.ref s.heap.objs.size) s3) E) s2) E s1) E { s with heap := newD s.heap }) :
    wpAny (model prog w) A (call (.type "dict") [.ref l]) Q E s := by
  apply callType_codes F.kt_called_dict (F.kt_typeCall_dict_1 _) F.entry_dict_init (kt_code_dict_new (Q₁ := fun v s1 => v = .ref s.heap.objs.size ∧ s1 = { s with heap := newD s.heap }) _ ⟨rfl, rfl⟩)
  rintro _ _ ⟨rfl, rfl⟩
  have td : Shared.TypeIs { s with heap := newD s.heap } (.ref s.heap.objs.size) "dict" := ⟨_, Heap.get?_push_size _ rfl, rfl⟩
  refine ⟨td, F.args_dict_init_2 _ _, ?_⟩
  show wpAny _ _ (Builtin.Dict.selfAndRest _ _ >>= _) _ _ _
  wp_walk using wpAny_notOrdered_dict td, wpAny_ite_true nT, wpAny_mono h
  · rintro _ s1 ⟨rfl, q⟩
    wp_walk using wpAny_mono q
    · exact fun _ _ e => wpAny_pure ⟨plainId_quiet plain_upd_loop _, e⟩
    · exact fun _ _ e => e
  · exact fun _ _ e => e

theorem dict_of_list {l : Addr} {vs : List Value} {n : Nat} {kx : List (K × Value)} {Q : Value → Shared → Prop} (hA : A.handled = none)
    (hl : s.heap.get? l = some { cls := .type "list", dict := none, data := .seq vs.toArray n, slots := #[] }) (hz : vs.length ≤ sizeLine) (hlen : kx.length = vs.length)
    (hP : ∀ (i : Nat) v, vs[i]? = some v → ∃ a key k x o c, v = .ref a ∧ kx[i]? = some (k, x) ∧ knd.is k key = true ∧ s.heap.get? a = some o ∧ o.cls = .type "tuple" ∧ o.data = .seq #[key, x] c)
    (h : ∀ h' tk, (∀ b o, s.heap.get? b = some o → h'.get? b = some o) → h'.DictOf knd s.heap.objs.size (merged [] kx) → Q (.ref s.heap.objs.size) { s with heap := h', toks := tk }) :
    wpAny (model prog w) A (call (.type "dict") [.ref l]) Q E s := by
  have hl' : (newD s.heap).get? l = some { cls := .type "list", dict := none, data := .seq vs.toArray n, slots := #[] } := Heap.get?_push_of_some _ hl
  refine dict_opens (T := "list") ⟨_, hl', rfl⟩ (by decide) (no_keys hA hl' fun h1 tk1 k1 => ⟨rfl, ?_⟩)
  have hl1 := k1 l _ hl'
  have lt1 : l < h1.objs.size := Heap.lt_size hl1
  have ld : l < s.heap.objs.size := Heap.lt_size hl
  have il : h1.IsList l vs.toArray := ⟨_, hl1, rfl, n, rfl⟩
  have d1 : h1.DictOf knd s.heap.objs.size [] := by
    obtain ⟨od, es, ep, ho, r⟩ := Heap.DictOf.new (knd := knd) s.heap
    exact ⟨od, es, ep, k1 _ _ ho, r⟩
  have dlt : s.heap.objs.size < h1.objs.size := by
    obtain ⟨od, es, ep, ho, r⟩ := d1
    exact Heap.lt_size ho
  have hI : ∀ {b : Addr}, b < h1.objs.size → b ≠ h1.objs.size := fun z => Nat.ne_of_lt z
  refine wpAny_pyIter_list (s := { s with heap := h1, toks := tk1 }) il ?_
  have W := Walks.list (prog := prog) (w := w) (A := A.in1.in1) hA h1.objs.size l (hI lt1) vs.toArray
  refine upd_loop (A := A.in1) (knd := knd) W (d := s.heap.objs.size) ?_ s.heap kx (by rw [hlen, List.size_toArray]) (by rw [List.size_toArray]; exact hz) (fun i v hv => ?_) vs.toArray.size 0 _ 0 (by omega)
    ⟨⟨_, Heap.get?_push_size _ rfl, rfl, rfl⟩, il.push _⟩ (fun b o _ nb e => Heap.get?_push_of_some _ (k1 b o (Heap.get?_push_of_some _ e))) ?_ fun h2 tk2 k2 d2 => ?_
  · intro z
    have z' : s.heap.objs.size = h1.objs.size ∨ s.heap.objs.size = l := by simpa using z
    rcases z' with z' | z'
    · exact absurd dlt (by rw [z']; exact Nat.lt_irrefl _)
    · exact absurd ld (by rw [z']; exact Nat.lt_irrefl _)
  · obtain ⟨a, key, k, x, o, c, e1, e2, e3, e4, e5, e6⟩ := hP i v (by simpa using hv)
    refine ⟨a, key, k, x, o, c, e1, e2, e3, e4, e5, e6, Nat.ne_of_lt (Heap.lt_size e4), fun z => ?_⟩
    have z' : a = h1.objs.size := by simpa using z
    exact absurd (Nat.lt_trans (Heap.lt_size e4) dlt) (by rw [z']; exact Nat.lt_irrefl _)
  · exact d1.push _
  · exact ⟨rfl, h h2 tk2 (fun b o e => k2 b o (fun z => by
      have z' : b = h1.objs.size := by simpa using z
      exact absurd (Nat.lt_trans (Heap.lt_size e) dlt) (by rw [z']; exact Nat.lt_irrefl _)) (Nat.ne_of_lt (Heap.lt_size e)) e) d2⟩
end
end GX
namespace GX
open PySem PyProof.Rows
section
variable {prog : Program} {w : World} {A : Around} {E : Value → Shared → Prop} {s : Shared}

theorem sorted_in {x : Value} {kw : List (Str × Value)} {Q : Value → Shared → Prop} (ok : argsOk "sorted" ⟨[x], kw⟩)
    (h : wpAny (model prog w) A.in1 (collect x) (fun vs s1 => wpAny (model prog w) A.in1 (newList vs >>= fun l => holding [l] (call (.builtin "list.sort") [l] kw) >>= fun _ => ret l) (fun f s2 => ∃ v, f = .done (.ret v) ∧ Q v s2) E s1) E s) :
    wpAny (model prog w) A (call (.builtin "sorted") [x] kw) Q E s :=
  call_function_entry_kw kind_sorted plain_sorted entry_sorted ok (wpAny_bind (m := checkCount _ _ _ _) (wpAny_pure (wpAny_bind (wpAny_mono h (fun _ _ q => q) fun _ _ e => e))))
end
end GX

namespace L2
open PySem PySem.Spec PyProof.Rows

def dI (m : List (Int × Int)) : List (Key × V) := m.map fun p => (Sum.inl p.1, V.int p.2)
theorem dI_len (m : List (Int × Int)) : (dI m).length = m.length := List.length_map ..
def lkI : List (Int × Int) → Int → Option Int
  | [], _ => none
  | p :: m, k => if p.1 = k then some p.2 else lkI m k
theorem dI_val : ∀ (m : List (Int × Int)) (k : Int), valV (dI m) (Sum.inl k : Key) = (lkI m k).map V.int
  | [], _ => rfl
  | p :: m, k => by
    show valV ((Sum.inl p.1, V.int p.2) :: dI m) (Sum.inl k) = _
    unfold lkI
    by_cases e : p.1 = k
    · rw [if_pos e, valV_pos (by rw [e])]
      rfl
    · rw [if_neg e, valV_neg (fun z => e (Sum.inl.inj z)), dI_val m k]
def putI : List (Int × Int) → Int → Int → List (Int × Int)
  | [], k, v => [(k, v)]
  | p :: m, k, v => if p.1 = k then (p.1, v) :: m else p :: putI m k v
theorem lk_put : ∀ (m : List (Int × Int)) (k v j : Int), lkI (putI m k v) j = if j = k then some v else lkI m j
  | [], k, v, j => by
    show (if k = j then some v else none) = _
    by_cases e : j = k
    · rw [if_pos e, if_pos e.symm]
    · rw [if_neg e, if_neg (fun z => e z.symm)]
      rfl
  | p :: m, k, v, j => by
    show lkI (if p.1 = k then (p.1, v) :: m else p :: putI m k v) j = if j = k then some v else (if p.1 = j then some p.2 else lkI m j)
    by_cases e : p.1 = k
    · rw [if_pos e]
      show (if p.1 = j then some v else lkI m j) = _
      by_cases e2 : j = k
      · rw [if_pos e2, if_pos (e.trans e2.symm)]
      · rw [if_neg e2, if_neg (fun z => e2 (z.symm.trans e)), if_neg (fun z => e2 (z.symm.trans e))]
    · rw [if_neg e]
      show (if p.1 = j then some p.2 else lkI (putI m k v) j) = _
      rw [lk_put m k v j]
      by_cases e2 : j = k
      · rw [if_pos e2, if_neg (fun z => e (z.trans e2)), if_pos e2]
      · rw [if_neg e2, if_neg e2]
theorem put_keys : ∀ (m : List (Int × Int)) (k v x : Int), x ∈ (putI m k v).map (·.1) ↔ x = k ∨ x ∈ m.map (·.1)
  | [], k, v, x => by simp [putI]
  | p :: m, k, v, x => by
    show x ∈ (if p.1 = k then (p.1, v) :: m else p :: putI m k v).map (·.1) ↔ _
    by_cases e : p.1 = k
    · rw [if_pos e]
      simp only [List.map_cons, List.mem_cons]
      constructor
      · exact fun h => .inr h
      · rintro (h | h)
        · exact .inl (h.trans e.symm)
        · exact h
    · rw [if_neg e]
      simp only [List.map_cons, List.mem_cons]
      have := put_keys m k v x
      constructor
      · rintro (h | h)
        · exact .inr (.inl h)
        · rcases this.mp h with h | h
          · exact .inl h
          · exact .inr (.inr h)
      · rintro (h | h | h)
        · exact .inr (this.mpr (.inl h))
        · exact .inl h
        · exact .inr (this.mpr (.inr h))
theorem put_nd : ∀ (m : List (Int × Int)) (k v : Int), (m.map (·.1)).Nodup → ((putI m k v).map (·.1)).Nodup
  | [], k, v, _ => by simp [putI]
  | p :: m, k, v, h => by
    show ((if p.1 = k then (p.1, v) :: m else p :: putI m k v).map (·.1)).Nodup
    rw [List.map_cons, List.nodup_cons] at h
    by_cases e : p.1 = k
    · rw [if_pos e, List.map_cons, List.nodup_cons]
      exact h
    · rw [if_neg e, List.map_cons, List.nodup_cons]
      refine ⟨fun z => ?_, put_nd m k v h.2⟩
      rcases (put_keys m k v p.1).mp z with z | z
      · exact e z
      · exact h.1 z
theorem put_vals : ∀ (m : List (Int × Int)) (k v : Int) (p : Int × Int), p ∈ putI m k v → p = (k, v) ∨ p ∈ m
  | [], k, v, p, h => .inl (by simpa [putI] using h)
  | q :: m, k, v, p, h => by
    have h' : p ∈ (if q.1 = k then (q.1, v) :: m else q :: putI m k v) := h
    by_cases e : q.1 = k
    · rw [if_pos e] at h'
      rcases List.mem_cons.mp h' with z | z
      · exact .inl (by rw [z, e])
      · exact .inr (List.mem_cons_of_mem _ z)
    · rw [if_neg e] at h'
      rcases List.mem_cons.mp h' with z | z
      · exact .inr (by rw [z]; exact List.mem_cons_self)
      · rcases put_vals m k v p z with z | z
        · exact .inl z
        · exact .inr (List.mem_cons_of_mem _ z)
theorem dI_any (k : Int) : ∀ m : List (Int × Int), ((dI m).any fun kv => decide (kv.1 = (Sum.inl k : Key))) = m.any fun p => decide (p.1 = k)
  | [] => rfl
  | p :: m => by
    show (decide ((Sum.inl p.1 : Key) = Sum.inl k) || (dI m).any _) = (decide (p.1 = k) || m.any _)
    rw [dI_any k m]
    congr 1
    rw [decide_eq_decide]
    exact ⟨fun h => Sum.inl.inj h, fun h => congrArg _ h⟩
theorem put_new : ∀ (m : List (Int × Int)) (k v : Int), (m.any fun p => decide (p.1 = k)) = false → putI m k v = m ++ [(k, v)]
  | [], _, _, _ => rfl
  | p :: m, k, v, h => by
    rw [List.any_cons, Bool.or_eq_false_iff] at h
    show (if p.1 = k then (p.1, v) :: m else p :: putI m k v) = _
    rw [if_neg (of_decide_eq_false h.1), put_new m k v h.2]
    rfl
theorem put_old : ∀ (m : List (Int × Int)) (k v : Int), (m.map (·.1)).Nodup → (m.any fun p => decide (p.1 = k)) = true → putI m k v = m.map fun p => if p.1 = k then (p.1, v) else p
  | [], _, _, _, h => by cases h
  | p :: m, k, v, nd, h => by
    rw [List.map_cons, List.nodup_cons] at nd
    show (if p.1 = k then (p.1, v) :: m else p :: putI m k v) = (if p.1 = k then (p.1, v) else p) :: m.map _
    by_cases e : p.1 = k
    · rw [if_pos e, if_pos e]
      congr 1
      have : m.map (fun p => if p.1 = k then (p.1, v) else p) = m.map id := List.map_congr_left fun q hq => by
        rw [if_neg (fun z => nd.1 (by rw [e, ← z]; exact List.mem_map_of_mem hq))]
        rfl
      rw [this, List.map_id]
    · rw [if_neg e, if_neg e, put_old m k v nd.2 (by
        rw [List.any_cons, decide_eq_false e, Bool.false_or] at h
        exact h)]
theorem dI_put (m : List (Int × Int)) (k v : Int) (nd : (m.map (·.1)).Nodup) : putK (dI m) (Sum.inl k : Key) (V.int v) = dI (putI m k v) := by
  unfold putK
  rw [dI_any]
  cases e : m.any fun p => decide (p.1 = k) with
  | false =>
    rw [put_new m k v e]
    unfold dI
    rw [List.map_append]
    rfl
  | true =>
    rw [put_old m k v nd e]
    unfold dI
    rw [List.map_map, if_pos rfl, List.map_map]
    apply List.map_congr_left
    intro p _
    show (if (Sum.inl p.1 : Key) = Sum.inl k then ((Sum.inl p.1 : Key), V.int v) else (Sum.inl p.1, V.int p.2)) = ((Sum.inl (if p.1 = k then (p.1, v) else p).1 : Key), V.int (if p.1 = k then (p.1, v) else p).2)
    by_cases z : p.1 = k
    · rw [if_pos (congrArg _ z), if_pos z]
    · rw [if_neg (fun q => z (Sum.inl.inj q)), if_neg z]
theorem lk_mem : ∀ {m : List (Int × Int)} {k v : Int}, lkI m k = some v → (k, v) ∈ m
  | [], _, _, h => by cases h
  | p :: m, k, v, h => by
    have h' : (if p.1 = k then some p.2 else lkI m k) = some v := h
    by_cases e : p.1 = k
    · rw [if_pos e] at h'
      have : p = (k, v) := by rw [← e, ← Option.some.inj h']
      rw [this]
      exact List.mem_cons_self
    · rw [if_neg e] at h'
      exact List.mem_cons_of_mem _ (lk_mem h')
theorem lk_of : ∀ {m : List (Int × Int)} {k v : Int}, (m.map (·.1)).Nodup → (k, v) ∈ m → lkI m k = some v
  | [], _, _, _, h => by cases h
  | p :: m, k, v, nd, h => by
    rw [List.map_cons, List.nodup_cons] at nd
    show (if p.1 = k then some p.2 else lkI m k) = some v
    rcases List.mem_cons.mp h with z | z
    · rw [← z, if_pos rfl]
    · rw [if_neg (fun e => nd.1 (by rw [e]; exact List.mem_map_of_mem (f := (·.1)) z)), lk_of nd.2 z]
theorem lk_none {m : List (Int × Int)} {k : Int} (h : k ∉ m.map (·.1)) : lkI m k = none := by
  cases e : lkI m k with
  | none => rfl
  | some v => exact absurd (List.mem_map_of_mem (f := (·.1)) (lk_mem e)) h
theorem lk_some {m : List (Int × Int)} {k : Int} (h : k ∈ m.map (·.1)) : ∃ v, lkI m k = some v := by
  cases e : lkI m k with
  | some v => exact ⟨v, rfl⟩
  | none =>
    exfalso
    induction m with
    | nil => cases h
    | cons p m ih =>
      have e' : (if p.1 = k then some p.2 else lkI m k) = none := e
      by_cases z : p.1 = k
      · rw [if_pos z] at e'; cases e'
      · rw [if_neg z] at e'
        rw [List.map_cons] at h
        rcases List.mem_cons.mp h with q | q
        · exact z q.symm
        · exact ih q e'

def ct (m : List (Int × Int)) (k : Int) : Int := (lkI m k).getD 0

section
variable {X : Cx}
theorem keys_ints {P : Program} {w : World} : ∀ {m : List (Int × Int)} {vs : List (Key × Value)} {us : List Value}, KV (dI m) vs → us.length = vs.length → (∀ (j : Nat) v, us[j]? = some v → ∃ k x, vs[j]? = some (k, x) ∧ (mixKind P w).is k v = true) → IntsAre us (m.map (·.1))
  | [], _, us, r, hl, h => by
    have r' : KV [] _ := r
    cases r'
    cases us with
    | nil => exact .nil
    | cons _ _ => cases hl
  | p :: m, vs, us, r, hl, h => by
    have r' : KV ((Sum.inl p.1, V.int p.2) :: dI m) vs := r
    cases r' with
    | cons r1 r2 =>
      rename_i q qs
      cases us with
      | nil => cases hl
      | cons u us =>
        obtain ⟨k, x, e1, e2⟩ := h 0 u rfl
        have e1' : q = (k, x) := Option.some.inj e1
        subst e1'
        have ek : (Sum.inl p.1 : Key) = k := r1.1
        subst ek
        rcases keyIs_shape (show keyIs (Sum.inl p.1) u = true from e2) with ⟨i, t, z1, z2⟩ | ⟨_, _, z, _⟩
        · have z1' : p.1 = i := Sum.inl.inj z1
          rw [z2, ← z1']
          exact .cons _ t (keys_ints (P := P) (w := w) r2 (Nat.succ.inj hl) fun j v e => h (j + 1) v e)
        · cases z

theorem sort_tail {A : Around} {E : Value → Shared → Prop} {prog : Program} {w : World} {s : Shared} {vs : List Value} {ns : List Int} {Q : Value → Shared → Prop} (hi : IntsAre vs ns) (h64 : vs.length < 64) (hz : vs.length ≤ sizeLine)
    (h : ∀ h' out ns' e, (∀ b o, s.heap.get? b = some o → h'.get? b = some o) → h'.get? s.heap.objs.size = some (seqObj "list" out e) → IntsAre out.toList ns' → ns'.Perm ns → ns'.Pairwise (· ≤ ·) → Q (.ref s.heap.objs.size) { s with heap := h' }) :
    wpAny (model prog w) A (do let l ← newList vs; let _ ← holding [l] (call (.builtin "list.sort") [l] []); ret l) (fun fin s' => ∃ v, fin = .done (.ret v) ∧ Q v s') E s := by
  refine wpAny_bind (wpAny_newList ?_ hz)
  have ho : (s.heap.push (seqObj "list" vs.toArray 0)).get? s.heap.objs.size = some (seqObj "list" vs.toArray 0) := Heap.get?_push_size _ rfl
  refine wpAny_bind (wpAny_holding (wpAny_call_entry slot_list_sort ⟨_, ho, rfl⟩ entry_list_sort (list_sort_tree ho hi h64 fun out ns' a1 a2 a3 => ⟨_, rfl, ?_⟩) (args_list_sort _)))
  obtain ⟨e, he⟩ := sortedHeap_at (out := out) ho
  refine wpAny_pure ⟨_, rfl, h _ out ns' e (fun b o q => ?_) he a1 a2 a3⟩
  have l := Heap.lt_size q
  rw [sortedHeap_old (Nat.ne_of_lt l) (by rw [size_push']; exact Nat.lt_succ_of_lt l)]
  exact Heap.get?_push_of_some _ q
theorem Inv.lay_ints {pins : List (Addr × Obj)} {σ : St} {H : Hp} {s : Shared} {h' : Heap} {out : Array Value} {ns : List Int} {e tk : Nat} (I : Inv X pins σ H s) (k : ∀ b o, s.heap.get? b = some o → h'.get? b = some o) (he : h'.get? s.heap.objs.size = some (seqObj "list" out e)) (hi : IntsAre out.toList ns) (hz : ns.length ≤ sizeLine) :
    Inv X pins σ (upd H s.heap.objs.size (.lst (ns.map V.int))) { s with heap := h', toks := tk } :=
  I.laid k (Nat.le_refl _) ⟨by rw [List.length_map]; exact hz, out.toList, e, vals_ints hi, he⟩

theorem call_sortedD (hc : X.calm = true) : CallR X (.builtin "sorted") (fun xs H Q => ∃ (d : Addr) (m : List (Int × Int)), xs = [.ref d] ∧ Rd H d (.dK (dI m)) ∧ m.length < 64 ∧ ∀ (l : Addr) (ns : List Int), H l = none → ns.Perm (m.map (·.1)) → ns.Pairwise (· ≤ ·) → Q (.ref l) (upd H l (.lst (ns.map V.int)))) := by
  intro pins s σ H xs us Q I r h
  obtain ⟨d, m, rfl, hd, hlen, q⟩ := h
  obtain ⟨u, rfl, rx⟩ := vals1 r
  cases rx
  obtain ⟨z, hS, vs, rel, dd⟩ := dk_rd I.hok hd
  obtain ⟨ep, hat⟩ := dd.dictAt
  have hl : vs.length = m.length := by rw [← rel.length, dI_len]
  refine GX.sorted_in (args_sorted1 _) (PySem.W.kdu_collect (A := X.A.in1) (PySem.W.kdl_dict (knd := mixKind X.prog X.w) (kvs := vs) (ep := ep) hS) (I.ok.hd hc) hat (by rw [hl]; exact Nat.le_of_lt (small1000 (by omega))) fun h' tk acc hk hacc => ?_)
  have hi : IntsAre acc.toList (m.map (·.1)) := keys_ints (P := X.prog) (w := X.w) rel (by rw [Array.length_toList]; exact hacc.1) fun j v e => hacc.2 j v (by rw [← Array.getElem?_toList]; exact e)
  have ha : acc.toList.length = m.length := by rw [hi.length, List.length_map]
  have I1 : Inv X pins σ H { s with heap := h', toks := tk } := I.kept hk
  refine sort_tail hi (by rw [ha]; exact hlen) (by rw [ha]; exact Nat.le_of_lt (small1000 (by omega))) fun h2 out ns' e k2 he a1 a2 a3 => ?_
  have ln : ns'.length ≤ sizeLine := by rw [a2.length_eq, List.length_map]; exact Nat.le_of_lt (small1000 (by omega))
  exact ⟨.ref h'.objs.size, _, I1.lay_ints (tk := tk) k2 he a1 ln, rfl, q _ ns' (I1.hok.fresh (Nat.le_refl _)) a2 a3⟩

def Pr (H : Hp) (x : V) (p : Int × Int) : Prop := ∃ a, x = .ref a ∧ H a = some (.tup [.int p.1, .int p.2])
abbrev Prs (H : Hp) : List V → List (Int × Int) → Prop := Paired (Pr H)
theorem Prs.mono {H H' : Hp} (h : ∀ a xs, H a = some (.tup xs) → H' a = some (.tup xs)) {xs : List V} {ps : List (Int × Int)} (r : Prs H xs ps) : Prs H' xs ps := Paired.mapP r fun _ _ ⟨a, e1, e2⟩ => ⟨a, e1, h a _ e2⟩
theorem Prs.snoc {H : Hp} {x : V} {p : Int × Int} : ∀ {xs : List V} {ps : List (Int × Int)}, Prs H xs ps → Pr H x p → Prs H (xs ++ [x]) (ps ++ [p])
  | _, _, .nil, h => .cons h .nil
  | _, _, .cons r t, h => .cons r (Prs.snoc t h)
theorem Prs.get {H : Hp} : ∀ {xs : List V} {ps : List (Int × Int)} {i : Nat} {x : V}, Prs H xs ps → xs[i]? = some x → ∃ p, ps[i]? = some p ∧ Pr H x p
  | _, _, _, _, .nil, e => by simp at e
  | _, _, 0, _, .cons r _, e => by simp at e; subst e; exact ⟨_, rfl, r⟩
  | _, _, i + 1, x, .cons _ t, e => by
    obtain ⟨p, h1, h2⟩ := Prs.get (i := i) (x := x) t (by simpa using e)
    exact ⟨p, by simpa using h1, h2⟩
theorem Prs.len {H : Hp} {xs : List V} {ps : List (Int × Int)} (r : Prs H xs ps) : xs.length = ps.length := Paired.length r
end
end L2

namespace L2
open PySem PySem.Spec PyProof.Rows
section
variable {X : Cx}

theorem hits_of {A : Around} {s : Shared} {n : List (Int × Int)} {ws : List (Key × Value)} (rn : KV (dI n) ws) : ∀ {m : List (Int × Int)} {vs : List (Key × Value)}, KV (dI m) vs → (∀ p ∈ m, lkI n p.1 = some p.2) → PySem.W.KeqHits A s ws vs true
  | [], _, r, _ => by
    have r' : KV [] _ := r
    cases r'
    exact .nil
  | p :: m, vs, r, h => by
    have r' : KV ((Sum.inl p.1, V.int p.2) :: dI m) vs := r
    cases r' with
    | cons r1 r2 =>
      rename_i q qs
      obtain ⟨k, v⟩ := q
      have ek : (Sum.inl p.1 : Key) = k := r1.1
      subst ek
      obtain ⟨t, ev⟩ := (show ∃ t, v = Value.int p.2 t from r1.2)
      subst ev
      have z := rn.val (Sum.inl p.1)
      rw [dI_val, h p List.mem_cons_self] at z
      obtain ⟨y, hy, ry⟩ := RelO.some_of z
      obtain ⟨t', ey⟩ := (show ∃ t, y = Value.int p.2 t from ry)
      subst ey
      have e := SeqAt.EqAt.int_int (A := A) (s := s) p.2 t p.2 t'
      have rest := hits_of (A := A) (s := s) rn r2 fun q hq => h q (List.mem_cons_of_mem _ hq)
      have := PySem.W.KeqHits.hit hy e rest
      rw [beq_self_eq_true, Bool.true_and] at this
      exact this
def rSameD (b : Bool) : R2 := fun x y H Q => ∃ (a c : Addr) (m n : List (Int × Int)), x = .ref a ∧ y = .ref c ∧ Rd H a (.dK (dI m)) ∧ Rd H c (.dK (dI n)) ∧ m.length = n.length ∧ (∀ p ∈ m, lkI n p.1 = some p.2) ∧ Q (.bl b) H

theorem op_neD (hu : X.A.units < cLine) : OpR X (compareOp .NotEq) (rSameD false) := by
  intro pins s σ H x y v u Q I rx ry h
  obtain ⟨a, c, m, n, rfl, rfl, ha, hb, hl, hp, q⟩ := h
  cases rx
  cases ry
  obtain ⟨_, s1, vs, r1, d1⟩ := dk_rd I.hok ha
  obtain ⟨_, s2, ws, r2, d2⟩ := dk_rd I.hok hb
  have e1 : vs.length = ws.length := by rw [← r1.length, ← r2.length, dI_len, dI_len, hl]
  refine PySem.W.keq_ne s1 s2 d1 d2 hu (r := true) (fun _ => hits_of r2 r1 hp) ⟨.bl false, H, I, ?_, q⟩
  rw [e1, beq_self_eq_true]
  rfl
theorem merge_nd : ∀ (ps acc : List (Int × Int)), ((acc ++ ps).map (·.1)).Nodup → mergeK (dI acc) (dI ps) = dI (acc ++ ps)
  | [], acc, _ => by rw [List.append_nil]; rfl
  | p :: ps, acc, h => by
    show mergeK (putK (dI acc) (Sum.inl p.1) (V.int p.2)) (dI ps) = _
    have h1 : (acc.map (·.1)).Nodup := by
      rw [List.map_append] at h
      exact (List.nodup_append.mp h).1
    have h2 : (acc.any fun q => decide (q.1 = p.1)) = false := by
      rw [List.any_eq_false]
      intro q hq z
      have z' := of_decide_eq_true z
      rw [List.map_append, List.map_cons] at h
      exact (List.nodup_append.mp h).2.2 q.1 (List.mem_map_of_mem (f := (·.1)) hq) p.1 List.mem_cons_self z'
    rw [dI_put acc p.1 p.2 h1, put_new acc p.1 p.2 h2, merge_nd ps (acc ++ [(p.1, p.2)]) (by rw [List.append_assoc]; exact h), List.append_assoc]
    rfl
theorem pairs_kx {pins : List (Addr × Obj)} {σ : St} {H : Hp} {s : Shared} (I : Inv X pins σ H s) : ∀ {xs : List V} {us : List Value} {ps : List (Int × Int)}, Prs H xs ps → Vals xs us →
    ∃ kx : List (Key × Value), KV (dI ps) kx ∧ kx.length = us.length ∧ ∀ (i : Nat) v, us[i]? = some v → ∃ a key k x o c, v = .ref a ∧ kx[i]? = some (k, x) ∧ (mixKind X.prog X.w).is k key = true ∧ s.heap.get? a = some o ∧ o.cls = .type "tuple" ∧ o.data = .seq #[key, x] c := by
  intro xs us ps w
  induction w generalizing us with
  | nil =>
    intro w
    cases w
    exact ⟨[], .nil, rfl, fun i v e => by simp at e⟩
  | @cons x p xs ps h t ih =>
    intro w
    cases w with | cons r q =>
    rename_i u us
    obtain ⟨kx, k1, k2, k3⟩ := ih q
    obtain ⟨a, rfl, ha⟩ := h
    obtain rfl : u = Value.ref a := r
    obtain ⟨_, its, rv, o, ho, hc, n, hd, _⟩ : [V.int p.1, V.int p.2].length ≤ sizeLine ∧ ∃ its : List Value, Vals [V.int p.1, V.int p.2] its ∧ IsTpl s.heap a its.toArray := I.hok a _ ha
    obtain ⟨u1, u2, rfl, r1, r2⟩ := vals2 rv
    obtain ⟨t1, rfl⟩ := r1
    refine ⟨(Sum.inl p.1, u2) :: kx, .cons ⟨rfl, r2⟩ k1, congrArg (· + 1) k2, fun i v e => ?_⟩
    cases i with
    | zero =>
      have e' : Value.ref a = v := Option.some.inj e
      subst e'
      exact ⟨a, _, _, u2, o, n, rfl, rfl, mixKind_int X.prog X.w p.1 t1, ho, hc, hd⟩
    | succ i => exact k3 i v e
theorem call_dictP (hc : X.calm = true) : CallR X (.type "dict") (fun xs H Q => ∃ (a : Addr) (ys : List V) (ps : List (Int × Int)), xs = [.ref a] ∧ H a = some (.lst ys) ∧ Prs H ys ps ∧ (ps.map (·.1)).Nodup ∧ ps.length ≤ 1000 ∧ ∀ p, H p = none → Q (.ref p) (upd H p (.dK (dI ps)))) := by
  intro pins s σ H xs us Q I r h
  obtain ⟨a, ys, ps, rfl, ha, hp, nd, hl, q⟩ := h
  obtain ⟨u, rfl, rx⟩ := vals1 r
  cases rx
  obtain ⟨z, its, n, rv, hlen, e⟩ := I.lstM ha
  obtain ⟨kx, k1, k2, k3⟩ := pairs_kx I hp rv
  refine GX.dict_of_list (knd := mixKind X.prog X.w) (I.ok.hd hc) e (by rw [← hlen]; exact z) k2 k3 fun h' tk kp dd => ?_
  have rel : KV (dI ps) (merged [] kx) := by
    have := KV.merge k1 (show KV (dI []) [] from .nil)
    rw [merge_nd ps [] (by simpa using nd)] at this
    exact this
  refine ⟨.ref s.heap.objs.size, _, I.laid (t' := tk) kp (Nat.le_refl _) (dk_new ?_ (beq_eq_false_iff_ne.mpr (Ne.symm (Nat.ne_of_lt I.big))) rel dd), rfl, q _ (I.hok.fresh (Nat.le_refl _))⟩
  rw [dI_len]
  exact Nat.le_of_lt (small1000 hl)


def iSeq (K : PySem.W.Frag) (tl : TE) : TI := fun σ H R => tl σ H fun x H1 => ∃ a, x = .ref a ∧ (((∃ xs, SqL K H1 a xs) ∧ R (Itl K a) H1) ∨ ((∃ xs, SqT K H1 a xs) ∧ R (Itt K a) H1))
theorem pi_seq {tg l : Expr} {tl : TE} (hl : PE X l tl) : PI X tg l (iSeq X.K tl) := by
  intro pins s σ H R I h
  refine thn (hl pins s σ H _ I h) fun v s1 ⟨x, H1, I1, r1, q1⟩ => ?_
  obtain ⟨a, e, q1⟩ := q1
  subst e
  cases r1
  have fp : ∀ b ∈ [s1.heap.objs.size], FpOk X pins H1 b := fun b hb => by
    have e : b = s1.heap.objs.size := by simpa using hb
    subst e
    exact I1.fpOk (Nat.le_refl _) (I1.hok.fresh (Nat.le_refl _))
  rcases q1 with ⟨⟨xs, hq⟩, q⟩ | ⟨⟨xs, hq⟩, q⟩
  · obtain ⟨its, rv, p, hz⟩ := I1.list hq
    refine wpAny_pyIter_list p.isList ?_
    exact ⟨s1.heap.objs.size, [s1.heap.objs.size], _, _, H1, rfl, I1.kept (t' := s1.toks) fun b o e => Heap.get?_push_of_some _ e, turn_list a _, ⟨_, Heap.get?_push_size _ rfl, rfl, rfl⟩, fp, q⟩
  · obtain ⟨its, rv, p, hz⟩ := I1.tuple hq
    refine wpAny_pyIter_tuple (show s1.heap.IsTuple a its.toArray from p) ?_
    exact ⟨s1.heap.objs.size, [s1.heap.objs.size], _, _, H1, rfl, I1.kept (t' := s1.toks) fun b o e => Heap.get?_push_of_some _ e, turn_tuple a _, ⟨_, Heap.get?_push_size _ rfl, rfl, rfl⟩, fp, q⟩
end
theorem comp_tup {K : PySem.W.Frag} {a : Addr} {xs : List V} {g : TG} {tt : TT} {te : TE} {σ : St} {H : Hp} {D : Addr} {Qe : Hp → Prop} (Pv : Nat → St → Hp → Prop) (h0 : Pv 0 σ H) (hl : ∀ i σ H, i ≤ xs.length → Pv i σ H → SqT K H a xs)
    (hs : ∀ i x σ H, xs[i]? = some x → Pv i σ H → cTurn g tt te D (Pv (i + 1)) x σ H) (hd : ∀ σ H, Pv xs.length σ H → Qe H) :
    ∃ W : Nat → Nat → St → Hp → Prop, (∃ m, W 0 m σ H) ∧ ∀ i m σ' H', W i m σ' H' → ((Itt K a).stop i H' ∧ Qe H') ∨ ((Itt K a).go i H' ∧ ∃ N : St → Hp → Prop, (∀ σ2 H2, N σ2 H2 → ∃ m', m' < m ∧ W (i + 1) m' σ2 H2) ∧
      ∀ x H'', (Itt K a).yld i H' x H'' → cTurn g tt te D N x σ' H'') := by
  refine ⟨fun i m σ H => m = xs.length - i ∧ i ≤ xs.length ∧ Pv i σ H, ⟨xs.length, by simp, Nat.zero_le _, h0⟩, ?_⟩
  rintro i m σ H ⟨rfl, hi, p⟩
  have q := hl i σ H hi p
  by_cases hlt : i < xs.length
  · refine .inr ⟨⟨xs, xs[i], q, by simp [hlt]⟩, Pv (i + 1), fun σ' H' p' => ⟨xs.length - (i + 1), by omega, rfl, hlt, p'⟩, fun x H' y => ?_⟩
    obtain ⟨e, y⟩ := y
    subst e
    exact hs i x σ _ (y xs q) p
  · have e : i = xs.length := by omega
    subst e
    exact .inl ⟨⟨xs, q, Nat.le_refl _⟩, hd σ H p⟩


section
variable {X : Cx}
end
end L2

set_option Elab.async false
set_option linter.all false
set_option maxRecDepth 100000
namespace GX
open PySem PyProof.Rows

def Ris (xs : Array Nat) : Prop := xs.toList.Pairwise (· < ·)
theorem Ris.at {xs : Array Nat} (h : Ris xs) {i j : Nat} (hi : i < j) (hj : j < xs.size) : xs.getD i 0 < xs.getD j 0 := by
  have := List.pairwise_iff_getElem.mp h i j (by simp; omega) (by simpa using hj) hi
  simp only [Array.getElem_toList] at this
  rw [Array.getD_eq_getD_getElem?, Array.getD_eq_getD_getElem?, Array.getElem?_eq_getElem (by omega), Array.getElem?_eq_getElem hj]
  exact this
theorem getD_any {xs : Array Nat} {i : Nat} (h : i < xs.size) (a b : Nat) : xs.getD i a = xs.getD i b := by
  rw [Array.getD_eq_getD_getElem?, Array.getD_eq_getD_getElem?, Array.getElem?_eq_getElem h]
  rfl
theorem below_go {xs : Array Nat} (hr : Ris xs) (j : Nat) : ∀ (fuel lo hi : Nat), lo ≤ hi → hi ≤ xs.size → hi - lo ≤ fuel → (∀ i, i < lo → xs.getD i 0 < j) → (∀ i, hi ≤ i → i < xs.size → j ≤ xs.getD i 0) →
    SetTable.below.go xs j fuel lo hi ≤ xs.size ∧ (∀ i, i < SetTable.below.go xs j fuel lo hi → xs.getD i 0 < j) ∧ (∀ i, SetTable.below.go xs j fuel lo hi ≤ i → i < xs.size → j ≤ xs.getD i 0)
  | 0, lo, hi, h1, h2, h3, h4, h5 => by
    have e : lo = hi := by omega
    subst e
    unfold SetTable.below.go
    exact ⟨h2, h4, h5⟩
  | fuel + 1, lo, hi, h1, h2, h3, h4, h5 => by
    unfold SetTable.below.go
    by_cases h : lo < hi
    · rw [if_pos h]
      have hm : (lo + hi) / 2 < xs.size := by omega
      show (if xs.getD ((lo + hi) / 2) j < j then SetTable.below.go xs j fuel ((lo + hi) / 2 + 1) hi else SetTable.below.go xs j fuel lo ((lo + hi) / 2)) ≤ _ ∧ _
      by_cases hc : xs.getD ((lo + hi) / 2) j < j
      · simp only [if_pos hc]
        rw [getD_any hm j 0] at hc
        refine below_go hr j fuel _ hi (by omega) h2 (by omega) (fun i hi' => ?_) h5
        rcases Nat.lt_or_ge i ((lo + hi) / 2) with z | z
        · have := hr.at z hm
          omega
        · have : i = (lo + hi) / 2 := by omega
          rw [this]
          exact hc
      · simp only [if_neg hc]
        rw [getD_any hm j 0] at hc
        refine below_go hr j fuel lo _ (by omega) (by omega) (by omega) h4 (fun i hi' hs => ?_)
        rcases Nat.lt_or_ge ((lo + hi) / 2) i with z | z
        · have := hr.at z hs
          omega
        · have : i = (lo + hi) / 2 := by omega
          rw [this]
          omega
    · rw [if_neg h]
      have e : lo = hi := by omega
      subst e
      exact ⟨h2, h4, h5⟩
theorem below_ok {xs : Array Nat} (hr : Ris xs) (j : Nat) : SetTable.below xs j ≤ xs.size ∧ (∀ i, i < SetTable.below xs j → xs.getD i 0 < j) ∧ (∀ i, SetTable.below xs j ≤ i → i < xs.size → j ≤ xs.getD i 0) := by
  unfold SetTable.below
  exact below_go hr j _ 0 _ (Nat.zero_le _) (Nat.le_refl _) (by omega) (fun i h => by omega) (fun i h1 h2 => by omega)

theorem below_next {xs : Array Nat} (hr : Ris xs) {i : Nat} (hi : i < xs.size) : SetTable.below xs (xs.getD i 0 + 1) = i + 1 := by
  obtain ⟨h1, h2, h3⟩ := below_ok hr (xs.getD i 0 + 1)
  rcases Nat.lt_trichotomy (SetTable.below xs (xs.getD i 0 + 1)) (i + 1) with z | z | z
  · have := h3 i (by omega) hi
    omega
  · exact z
  · have q := h2 (i + 1) z
    have := hr.at (i := i) (j := i + 1) (by omega) (by omega)
    omega
theorem below_zero {xs : Array Nat} (hr : Ris xs) : SetTable.below xs 0 = 0 := by
  obtain ⟨h1, h2, h3⟩ := below_ok hr 0
  rcases Nat.eq_zero_or_pos (SetTable.below xs 0) with z | z
  · exact z
  · have := h2 0 z
    omega
def Off (xs : Array Nat) (d : Nat) : Prop := xs[SetTable.below xs d]? ≠ some d
theorem Off.no {xs : Array Nat} (hr : Ris xs) {d : Nat} (h : Off xs d) : ∀ i, i < xs.size → xs.getD i 0 ≠ d := by
  intro i hi e
  obtain ⟨h1, h2, h3⟩ := below_ok hr d
  have b1 : SetTable.below xs d ≤ i := by
    rcases Nat.lt_or_ge i (SetTable.below xs d) with z | z
    · have := h2 i z
      omega
    · exact z
  have b2 : SetTable.below xs d = i := by
    rcases Nat.lt_or_ge (SetTable.below xs d) i with z | z
    · have := hr.at z hi
      have := h3 (SetTable.below xs d) (Nat.le_refl _) (by omega)
      omega
    · omega
  apply h
  rw [b2, Array.getElem?_eq_getElem hi]
  rw [Array.getD_eq_getD_getElem?, Array.getElem?_eq_getElem hi] at e
  exact congrArg some e
theorem slot_off {t : SetTable} {j : Nat} (h : ∀ i, t.slot j ≠ .live i) : Off t.place j := by
  intro z
  apply h (SetTable.below t.place j)
  unfold SetTable.slot
  simp only [z, beq_self_eq_true, if_true]
theorem adv_dummy (t : SetTable) (p : SetTable.Probe) : (t.advance p).dummy = p.dummy := by
  unfold SetTable.advance
  split <;> rfl
theorem probe_off {t : SetTable} {f : Nat → Int} {h : Int} : ∀ (fuel : Nat) (p : SetTable.Probe) (j : Nat) (dm : Option Nat), (∀ d, p.dummy = some d → Off t.place d) → SetTable.probe.go t f h fuel p = some (.empty j dm) → Off t.place j ∧ ∀ d, dm = some d → Off t.place d
  | 0, p, j, dm, hp, e => by
    unfold SetTable.probe.go at e
    cases e
  | fuel + 1, p, j, dm, hp, e => by
    unfold SetTable.probe.go at e
    cases hs : t.slot p.j with
    | empty =>
      rw [hs] at e
      dsimp only at e
      cases e
      exact ⟨slot_off (fun i z => by rw [hs] at z; cases z), hp⟩
    | dummy =>
      rw [hs] at e
      dsimp only at e
      refine probe_off fuel _ j dm (fun d hd => ?_) e
      rw [adv_dummy] at hd
      cases hd
      exact slot_off (fun i z => by rw [hs] at z; cases z)
    | live i =>
      rw [hs] at e
      dsimp only at e
      split at e
      · cases e
      · exact probe_off fuel _ j dm (fun d hd => hp d (by rw [adv_dummy] at hd; exact hd)) e
theorem free_off {t : SetTable} {h : Int} {sl : Nat} {b : Bool} (e : t.freeSlot h = some (sl, b)) : Off t.place sl := by
  unfold SetTable.freeSlot SetTable.probe at e
  generalize hg : SetTable.probe.go t (fun _ => h + 1) h (10 * SetTable.turns t.mask) (t.probeStart h) = g at e
  cases g with
  | none => cases e
  | some m =>
    cases m with
    | candidate j i n => cases e
    | empty j dm =>
      obtain ⟨h1, h2⟩ := probe_off _ _ j dm (fun d hd => by cases hd) hg
      dsimp only at e
      have e' := Option.some.inj e
      cases dm with
      | none =>
        have : j = sl := congrArg Prod.fst e'
        rw [← this]
        exact h1
      | some d =>
        have : d = sl := congrArg Prod.fst e'
        rw [← this]
        exact h2 d rfl
theorem mem_getD {xs : Array Nat} {x : Nat} {p : Nat} (h : x ∈ xs.toList.take p) : ∃ i, i < p ∧ i < xs.size ∧ xs.getD i 0 = x := by
  obtain ⟨i, hi, e⟩ := List.getElem_of_mem h
  rw [List.length_take, Array.length_toList] at hi
  refine ⟨i, by omega, by omega, ?_⟩
  rw [List.getElem_take, Array.getElem_toList] at e
  rw [Array.getD_eq_getD_getElem?, Array.getElem?_eq_getElem (by omega)]
  exact e
theorem mem_getD' {xs : Array Nat} {x : Nat} {p : Nat} (h : x ∈ xs.toList.drop p) : ∃ i, p ≤ i ∧ i < xs.size ∧ xs.getD i 0 = x := by
  obtain ⟨i, hi, e⟩ := List.getElem_of_mem h
  rw [List.length_drop, Array.length_toList] at hi
  refine ⟨p + i, by omega, by omega, ?_⟩
  rw [List.getElem_drop, Array.getElem_toList] at e
  rw [Array.getD_eq_getD_getElem?, Array.getElem?_eq_getElem (by omega)]
  exact e
theorem put_ris {t : SetTable} {sl : Nat} (hr : Ris t.place) (ho : Off t.place sl) : Ris (t.put sl).1.place := by
  obtain ⟨h1, h2, h3⟩ := below_ok hr sl
  show (SetTable.insertAt t.place (SetTable.below t.place sl) sl).toList.Pairwise (· < ·)
  rw [SetTable.toList_insertAt, List.pairwise_append]
  refine ⟨hr.sublist (List.take_sublist _ _), ?_, ?_⟩
  · rw [List.pairwise_cons]
    refine ⟨fun x hx => ?_, hr.sublist (List.drop_sublist _ _)⟩
    obtain ⟨i, a, b, c⟩ := mem_getD' hx
    have q1 := h3 i a b
    have q2 := ho.no hr i b
    omega
  · intro x hx y hy
    obtain ⟨i, a, b, c⟩ := mem_getD hx
    have q1 := h2 i a
    rcases List.mem_cons.mp hy with z | z
    · omega
    · obtain ⟨i', a', b', c'⟩ := mem_getD' z
      have q2 := h3 i' a' b'
      omega
theorem stand_ris (t : SetTable) (n : Nat) : Ris (t.standIn n).place := by
  show (Array.range n).toList.Pairwise (· < ·)
  rw [Array.toList_range]
  exact List.pairwise_lt_range

def Tb (b : Bool) (t : SetTable) : Prop := Ris t.place ∧ t.led = b
theorem lay_tb {b : Bool} {t : SetTable} (h : Tb b t) (es : Array (Int × Value)) (k : Int) (x : Value) : Tb b (layNew t es k x).2.1 := by
  unfold layNew
  split
  · rename_i sl wd e
    dsimp only
    unfold SetTable.orStandIn
    split
    · exact ⟨put_ris h.1 (free_off e), h.2⟩
    · exact ⟨stand_ris _ _, h.2⟩
  · exact ⟨stand_ris _ _, h.2⟩
theorem relaid_tb {b : Bool} {t t' : SetTable} {hs : Array Int} {n : Nat} {o : Array Nat} (h : Tb b t) (e : t.relaid hs n = some (t', o)) : Tb b t' := by
  unfold SetTable.relaid SetTable.laid at e
  cases hc : SetTable.layClean (SetTable.sizeAbove n - 1) hs with
  | none => rw [hc] at e; cases e
  | some ow =>
    rw [hc] at e
    have e' := Option.some.inj e
    have e1 := congrArg Prod.fst e'
    dsimp only at e1
    rw [← e1]
    refine ⟨?_, h.2⟩
    show List.Pairwise _ (Array.toList (List.toArray _))
    rw [List.toList_toArray, List.map_filterMap]
    refine List.Pairwise.filterMap (R := (· < ·)) _ (fun x y hxy a ha c hc => ?_) List.pairwise_lt_range
    simp only [Option.map_map, Option.mem_def, Option.map_eq_some_iff] at ha hc
    obtain ⟨_, _, rfl⟩ := ha
    obtain ⟨_, _, rfl⟩ := hc
    exact hxy
theorem relay_tb {b : Bool} {t : SetTable} (h : Tb b t) (es : Array (Int × Value)) (n : Nat) : Tb b (relayAll t es n).2.1 := by
  unfold relayAll
  split
  · rename_i t' o e
    dsimp only
    split
    · exact relaid_tb h e
    · exact ⟨stand_ris _ _, h.2⟩
  · exact ⟨stand_ris _ _, h.2⟩
end GX

set_option Elab.async false
set_option linter.all false
set_option maxRecDepth 100000
namespace GX
open PySem PyProof.Rows
abbrev byT (w : World) : Bool := w.params.followText "set-order"
section
variable {prog : Program} {w : World} {A : Around} {E : Value → Shared → Prop} {s : Shared}

def SetI (prog : Program) (w : World) (h : Heap) (a : Addr) (S : Int → Bool) (n : Nat) : Prop :=
  ∃ o es ep t, h.get? a = some o ∧ o.ExactSet ∧ o.data = .set es ep t ∧ ElemsOf (intKind prog w) es.toList ∧ (∀ k, S k = true ↔ ∃ e ∈ es.toList, (intKind prog w).is k e.2 = true) ∧ es.size < scanBound ∧ t.fits es.size = true ∧ es.size = n ∧ Tb (!byT w) t
theorem SetI.at {h h' : Heap} {a : Addr} {S : Int → Bool} {n : Nat} (x : SetI prog w h a S n) (k : ∀ o, h.get? a = some o → h'.get? a = some o) : SetI prog w h' a S n := by
  obtain ⟨o, es, ep, t, ho, r⟩ := x
  exact ⟨o, es, ep, t, k o ho, r⟩
theorem SetI.congr {h : Heap} {a : Addr} {S S' : Int → Bool} {n n' : Nat} (x : SetI prog w h a S n) (e : ∀ k, S k = S' k) (en : n = n') : SetI prog w h a S' n' := by
  have z : S = S' := funext e
  rw [← z, ← en]
  exact x

def GoodS (prog : Program) (w : World) (es : Array (Int × Value)) (t : SetTable) (S : Int → Bool) (n : Nat) : Prop :=
  ElemsOf (intKind prog w) es.toList ∧ (∀ k, S k = true ↔ ∃ e ∈ es.toList, (intKind prog w).is k e.2 = true) ∧ es.size < scanBound ∧ t.fits es.size = true ∧ es.size = n ∧ Tb (!byT w) t

def RawS (h : Heap) (a : Addr) (es : Array (Int × Value)) (t : SetTable) : Prop := ∃ o ep, h.get? a = some o ∧ o.ExactSet ∧ o.data = .set es ep t
theorem RawS.good {h : Heap} {a : Addr} {es : Array (Int × Value)} {t : SetTable} {S : Int → Bool} {n : Nat} (r : RawS h a es t) (g : GoodS prog w es t S n) : SetI prog w h a S n := by
  obtain ⟨o, ep, r1, r2, r3⟩ := r
  exact ⟨o, es, ep, t, r1, r2, r3, g⟩
theorem RawS.put {a : Addr} {es es' : Array (Int × Value)} {t t' : SetTable} {Q : Unit → Shared → Prop} (r : RawS s.heap a es t) (hz : es'.size < scanBound) (h : ∀ h', Heap.SameBut a s.heap h' → RawS h' a es' t' → Q () { s with heap := h' }) :
    wpAny (model prog w) A (storeSet a es' t') Q E s := by
  obtain ⟨⟨c, d, b, sl⟩, ep, ho, hx, hd⟩ := r
  cases hd
  exact wpAny_storeSet_of ho rfl (h _ (Heap.SameBut.update ..) ⟨_, ep + 1, Heap.get?_update_self _ ho rfl, hx, rfl⟩) (fits_of_scanBound hz)
theorem GoodS.mix {es es' : Array (Int × Value)} {t t' : SetTable} {S : Int → Bool} {n : Nat} (g : GoodS prog w es t S n) (p : List.Perm es'.toList es.toList) (f : t'.fits es'.size = true) (b : Tb (!byT w) t') : GoodS prog w es' t' S n := by
  obtain ⟨g1, g2, g3, _, g5, _⟩ := g
  have z : es'.size = es.size := by simpa using p.length_eq
  exact ⟨g1.perm p, fun k => (g2 k).trans ⟨fun ⟨e, u, v⟩ => ⟨e, p.mem_iff.mpr u, v⟩, fun ⟨e, u, v⟩ => ⟨e, p.mem_iff.mp u, v⟩⟩, z ▸ g3, f, z.trans g5, b⟩
theorem GoodS.relaid {es : Array (Int × Value)} {t : SetTable} {S : Int → Bool} {n : Nat} (g : GoodS prog w es t S n) (m : Nat) : GoodS prog w (relayAll t es m).1 (relayAll t es m).2.1 S n :=
  g.mix (relayAll_perm t es m) (relayAll_fits t es m) (relay_tb g.2.2.2.2.2 es m)
theorem GoodS.more {es : Array (Int × Value)} {t : SetTable} {S : Int → Bool} {n : Nat} {k : Int} {x : Value} (g : GoodS prog w es t S n) (hk : (intKind prog w).is k x = true) (hx : x.scannable = true) (room : n + 1 < scanBound) :
    GoodS prog w (layNew t es ((intKind prog w).hash k) x).1 (layNew t es ((intKind prog w).hash k) x).2.1 (fun k' => S k' || decide (k' = k)) (n + 1) := by
  obtain ⟨g1, g2, g3, _, g5, g6⟩ := g
  have p : List.Perm _ (es.push ((intKind prog w).hash k, x)).toList := layNew_perm t es ((intKind prog w).hash k) x
  rw [Array.toList_push] at p
  have z : (layNew t es ((intKind prog w).hash k) x).1.size = n + 1 := by simpa [g5] using p.length_eq
  exact ⟨(g1.push hk hx).perm p, mem_push_iff hk g2 p, z ▸ room, layNew_fits t es _ x, z, lay_tb g6 es _ x⟩
theorem gave_way {b : Bool} {Q : Unit → Shared → Prop} (q : Q () s) : wpAny (model prog w) A (match b with | true => rule "set.scan.the-table-gave-way" | false => pure ()) Q E s := by
  cases b
  · exact wpAny_pure q
  · exact wpAny_rule q
theorem set_add {a : Addr} {S : Int → Bool} {n : Nat} {k : Int} {u : Tok} {Q : Bool → Shared → Prop} (x : SetI prog w s.heap a S n) (room : n + 1 < scanBound)
    (h : ∀ h' b, Heap.SameBut a s.heap h' → SetI prog w h' a (fun k' => S k' || decide (k' = k)) (if S k then n else n + 1) → Q b { s with heap := h' }) :
    wpAny (model prog w) A (setAddHashed a (.int k u) ((intKind prog w).hash k)) Q E s := by
  obtain ⟨o, es, ep, t, ho, hx, hd, g⟩ := x
  have g0 : GoodS prog w es t S n := g
  obtain ⟨he, hm, hb, hf, hn, tb⟩ := g
  have hk : (intKind prog w).is k (.int k u) = true := intKind_is _ _ _ _
  rw [setAddHashed, setAddHashedIn]
  apply wpAny_holding
  apply wpAny_bind
  apply wpAny_setState_of ho hd hf
  dsimp only
  rw [byScan_of rfl hb he, if_pos rfl]
  wp_walk using wpAny_setScan_of hk ho hd hf he
  cases hr : List.findIdx? (fun e => (intKind prog w).is k e.2) es.toList with
  | some j =>
    obtain ⟨lt, is, _⟩ := List.findIdx?_eq_some_iff_getElem.mp hr
    have sk : S k = true := (hm k).mpr ⟨_, List.getElem_mem lt, is⟩
    wp_walk
    refine h s.heap false (.refl a _) (RawS.good ⟨o, ep, ho, hx, hd⟩ ?_)
    rw [if_pos sk, show (fun k' => S k' || decide (k' = k)) = S from funext fun k' => ?_]
    · exact g0
    · by_cases e : k' = k
      · rw [e, sk]; rfl
      · rw [decide_eq_false e, Bool.or_false]
  | none =>
    have sk : ¬ S k = true := fun z => by
      obtain ⟨e, u, v⟩ := (hm k).mp z
      exact absurd v (by simpa using List.findIdx?_eq_none_iff.mp hr e u)
    have g1 := g0.more hk rfl room
    rw [if_neg sk] at h
    dsimp only
    generalize layNew t es ((intKind prog w).hash k) (.int k u) = L at g1 ⊢
    obtain ⟨es1, t1, wd, gv⟩ := L
    refine wpAny_bind (gave_way ?_)
    dsimp only
    rw [hashByValue_scannable 8 (x := .int k u) rfl]
    split
    all_goals
      refine wpAny_bind (wpAny_pure ?_)
      rw [if_pos (by rfl)]
      refine wpAny_bind (RawS.put ⟨o, ep, ho, hx, hd⟩ g1.2.2.1 fun h1 s1 r1 => ?_)
      split
      · have g2 := g1.relaid (SetTable.grown es1.size)
        refine wpAny_bind (gave_way (wpAny_bind (RawS.put (s := { s with heap := h1 }) r1 g2.2.2.1 fun h2 s2 r2 => ?_)))
        wp_walk
        exact h h2 true (s1.trans s2) (r2.good g2)
      · wp_walk
        exact h h1 true s1 (r1.good g1)

theorem turn_set (S I : Addr) : MeetsIn prog w (Builtin.«set.update.loop» ⟨[.ref S, .ref I], []⟩) fun A R s => wpAny (model prog w) A.in1 (pyNext (.ref I)) (fun r s => match r with
    | none => R (.ok (.ret .none)) s
    | some v => wpAny (model prog w) A.in1 (setAdd S v) (fun _ s => codeAny (model prog w) A (.builtin "set.update.loop" ⟨[.ref S, .ref I], []⟩) R s) (fun _ _ => False) s) (fun _ _ => False) s := by
  intro A R s nx
  show wpAny _ _ (pyNext (.ref I) >>= _) _ _ s
  apply wpAny_bind
  refine wpAny_mono nx (fun r s1 h => ?_) fun _ _ z => z.elim
  rcases r with _ | v
  · wp_walk
    exact h
  · wp_walk using wpAny_mono h
    · exact fun _ _ e => wpAny_pure ⟨plainId_quiet PyProof.Rows.F.plain_set_update_loop _, e⟩
    · exact fun _ _ z => z.elim

theorem set_loop {R : Result → Shared → Prop} {I S : Addr} {fp wr : List Addr} {n : Nat} {P : Nat → Value → Prop} {St : Nat → Heap → Prop} (W : Walks prog w A.in1 I fp wr n P St) (nS : S ∉ fp) (val : Nat → Int) (hv : ∀ i v, P i v → ∃ t, v = .int (val i) t) (hb : n + 1 < scanBound) :
    ∀ (k i : Nat) (s : Shared), n = i + k → St i s.heap → SetI prog w s.heap S (fun k' => (firstMet val i).any (· == k')) (firstMet val i).length →
      (∀ h' tk, (∀ b o, b ∉ wr → b ≠ S → s.heap.get? b = some o → h'.get? b = some o) → SetI prog w h' S (fun k' => (firstMet val n).any (· == k')) (firstMet val n).length → R (.ok (.ret .none)) { s with heap := h', toks := tk }) →
      codeAny (model prog w) A (.builtin "set.update.loop" ⟨[.ref S, .ref I], []⟩) R s := by
  have nW : S ∉ wr := fun z => nS (W.sub _ z)
  intro k
  induction k with
  | zero =>
    intro i s en st x fin
    obtain rfl : n = i := en
    exact enter PyProof.Rows.F.entry_set_update_loop PyProof.Rows.F.plain_set_update_loop (turn_set S I) (W.done s _ _ st fun h tk kp => fin h tk (fun b o nb _ e => kp b o nb e) (x.at fun o e => kp S o nW e))
  | succ k ih =>
    intro i s en st x fin
    refine enter PyProof.Rows.F.entry_set_update_loop PyProof.Rows.F.plain_set_update_loop (turn_set S I) (W.item i s _ _ (by omega) st fun v h tk pv st1 kp => ?_)
    obtain ⟨t, rfl⟩ := hv i v pv
    have len := firstMet_length_le val i
    show wpAny _ _ (setAdd S (.int (val i) t)) _ _ _
    unfold setAdd
    refine wpAny_holding (wpAny_bind ((intKind prog w).pyHash (k := val i) (intKind_is _ _ _ _) (set_add (s := { s with heap := h, toks := tk + 1 }) (x.at fun o e => kp S o nW e) (by omega) fun h2 b sb x2 => ?_)))
    refine ih (i + 1) { s with heap := h2, toks := tk + 1 } (by omega) (W.frame _ _ _ st1 fun b hb o e => (sb.2 b fun z => nS (z ▸ hb)).trans e) (x2.congr (fun k' => ?_) ?_) fun h3 tk3 k3 x3 => fin h3 tk3 (fun b o nb nb' e => k3 b o nb nb' ((sb.2 b nb').trans (kp b o nb e))) x3
    · rw [firstMet_succ, step_any]
    · rw [firstMet_succ, step_length]
theorem set_new (a : Value) {Q1 : Value → Shared → Prop} (h : Q1 (.ref s.heap.objs.size) { s with heap := s.heap.push { cls := .type "set", dict := none, data := .set #[] 0 (.fresh 0 0 (!byT w)) } }) :
    codeAny (model prog w) A (.call (.builtin "set.__new__") ⟨[.type "set", a], []⟩) (wants Q1 E) s := by
  refine codeAny_call_builtin PySem.F.plain_set_new PySem.F.entry_set_new (wpAny_of_eq (PySem.F.newCall_set_1 a) ?_)
  have sub := sub_set_self
  obtain ⟨hp, g, d, tk, os⟩ := s
  wp_walk using wpAny_askSetting
  exact h

theorem type_called {T newId initId : String} {args : List Value} {Q Q1 : Value → Shared → Prop} (ft : TypeCalled T newId initId) (ct : checkTypeCall T ⟨args, []⟩ = pure ())
    (new : codeAny (model prog w) A.in1 (.call (.builtin newId) ⟨.type T :: args, []⟩) (wants Q1 E) s)
    (init : ∀ v s1, Q1 v s1 → s1.TypeIs v T ∧ codeAny (model prog w) A.in1 (.call (.builtin initId) ⟨v :: args, []⟩) (wants (fun r s2 => r = .none ∧ Q v s2) E) s1) : wpAny (model prog w) A (call (.type T) args) Q E s := by
  obtain ⟨_, _, _⟩ := ft.mro
  have := ft.notType
  have := ft.canCreate
  have := ft.made
  have := ft.sub
  refine wpAny_call (codeAny_of_tree (wpAny_pure ⟨Code.quiet_builtin _ (by decide +kernel), codeAny_builtin PySem.F.entry_type_call ?_⟩))
  rw [Around.under_plain (weight_type_call_type T args []) rfl]
  repeat' first | assumption | wp_step
  refine codeAny_mono new fun r s1 h => ?_
  match r, h with
  | .error _, h => exact h
  | .ok (.ret v), h =>
    obtain ⟨ty, c⟩ := init v s1 h
    have := ft.init.lookup
    have := ft.init.bind v
    repeat' first | assumption | wp_step
    refine codeAny_mono c fun r s2 h => ?_
    match r, h with
    | .error _, h => exact h
    | .ok (.ret _), h =>
      obtain ⟨rfl, _⟩ := h
      repeat' first | assumption | wp_step
end
end GX

set_option Elab.async false
set_option linter.all false
set_option maxRecDepth 100000
namespace GX
open PySem PyProof.Rows
theorem sl_sit_next : Slot "set_iterator" "__next__" "set_iterator.__next__" :=
  .of (owner := "set_iterator") (n := "__next__") (by rw [typeLookup_type, builtinLookup_eq_fast]; kernel_rfl) (by decide +kernel) (by decide +kernel) (by decide +kernel) (by first | exact .inl (by decide +kernel) | exact .inr (by decide +kernel)) (by rw [isSubtype_type]; kernel_rfl)
theorem en_sit_next : entryFor table "set_iterator.__next__" = some Builtin.«set_iterator.__next__» := entryFor_of_tree (by kernel_rfl)
theorem ar_sit_next (a : Value) : argsOk "set_iterator.__next__" ⟨[a], []⟩ := by unfold argsOk; kernel_rfl
theorem sl_sit_iter : Slot "set_iterator" "__iter__" "set_iterator.__iter__" :=
  .of (owner := "set_iterator") (n := "__iter__") (by rw [typeLookup_type, builtinLookup_eq_fast]; kernel_rfl) (by decide +kernel) (by decide +kernel) (by decide +kernel) (by first | exact .inl (by decide +kernel) | exact .inr (by decide +kernel)) (by rw [isSubtype_type]; kernel_rfl)
theorem en_sit_iter : entryFor table "set_iterator.__iter__" = some Builtin.«dict_keyiterator.__iter__» := entryFor_alias (id' := "dict_keyiterator.__iter__") (by kernel_rfl) rfl (by decide +kernel) (by kernel_rfl)
theorem ar_sit_iter (a : Value) : argsOk "set_iterator.__iter__" ⟨[a], []⟩ := by unfold argsOk; kernel_rfl
theorem en_set_iter : entryFor table "set.__iter__" = some Builtin.«frozenset.__iter__» := entryFor_alias (id' := "frozenset.__iter__") (by kernel_rfl) rfl (by decide +kernel) (by kernel_rfl)
abbrev newS (w : World) (h : Heap) : Heap := h.push { cls := .type "set", dict := none, data := .set #[] 0 (.fresh 0 0 (!byT w)) }
section
variable {prog : Program} {w : World} {A : Around} {E : Value → Shared → Prop} {s : Shared}
set_option maxHeartbeats 4000000 in

theorem set_of_list {l : Addr} {items : Array Value} {ns : List Int} {Q : Value → Shared → Prop} (hh : A.handled = none) (hl : s.heap.IsList l items) (hi : IntsAre items.toList ns) (hb : items.size + 1 < scanBound)
    (h : ∀ h' tk, SetI prog w h' s.heap.objs.size (fun k' => (firstMet (fun i => ns.getD i 0) items.size).any (· == k')) (firstMet (fun i => ns.getD i 0) items.size).length → (∀ b o, s.heap.get? b = some o → h'.get? b = some o) → Q (.ref s.heap.objs.size) { s with heap := h', toks := tk }) :
    wpAny (model prog w) A (call (.type "set") [.ref l]) Q E s := by
  obtain ⟨⟨oc, od, odt, osl⟩, hol, hcl, nl, hdl⟩ := id hl
  cases hcl
  cases hdl
  have lS : l < s.heap.objs.size := Heap.lt_size hol
  refine type_called PySem.F.called_set (PySem.F.typeCall_set_1 _) (set_new (.ref l) (Q1 := fun v s1 => v = .ref s.heap.objs.size ∧ s1 = { s with heap := newS w s.heap }) ⟨rfl, rfl⟩) ?_
  rintro _ _ ⟨rfl, rfl⟩
  have new : (newS w s.heap).get? s.heap.objs.size = some { cls := .type "set", dict := none, data := .set #[] 0 (.fresh 0 0 (!byT w)) } := Heap.get?_push_size _ rfl
  have old : (newS w s.heap).get? l = some { cls := .type "list", dict := od, data := .seq items nl, slots := osl } := Heap.get?_push_of_some _ hol
  have size : (newS w s.heap).objs.size = s.heap.objs.size + 1 := Heap.size_push ..
  have ty : Shared.TypeIs { s with heap := newS w s.heap } (.ref s.heap.objs.size) "set" := ⟨_, new, rfl⟩
  refine ⟨ty, codeAny_call_builtin PySem.F.called_set.init.plain PySem.F.entry_set_init (check_set_init_1 ty ?_)⟩
  have := PySem.F.sub_list_set
  have := PySem.F.sub_list_frozenset
  have nd : (Value.type "list" == Value.type "dict") = false := by decide
  have grown : ∀ b o, s.heap.get? b = some o → (newS w s.heap).get? b = some o := fun b o e => Heap.get?_push_of_some _ e
  generalize newS w s.heap = h1 at new old size ty grown ⊢
  have il : h1.IsList l items := ⟨_, old, rfl, nl, rfl⟩
  wp_walk using wpAny_pyIter_list il
  have nf : s.heap.objs.size ∉ [h1.objs.size, l] := by
    rw [size]
    intro z
    rcases List.mem_cons.mp z with z | z
    · exact absurd z (Nat.ne_of_lt (Nat.lt_succ_self _))
    · exact Nat.ne_of_gt lS (List.mem_singleton.mp z)
  refine set_loop (Walks.list (by simpa using hh) _ l (by rw [size]; exact Nat.ne_of_lt (Nat.lt_succ_of_lt lS)) items) nf (fun i => ns.getD i 0) (fun i v hv => IntsAre.int_at hi i v (by rw [Array.getElem?_toList]; exact hv)) hb items.size 0 _ (by omega)
    ⟨⟨_, Heap.get?_push_size _ rfl, rfl, rfl⟩, il.push _⟩ ⟨_, #[], 0, _, Heap.get?_push_of_some _ new, ⟨rfl, rfl, rfl⟩, rfl, fun e he => by simp at he, fun k => by simp [firstMet_zero], by decide, by rfl, rfl, ⟨List.Pairwise.nil, rfl⟩⟩ fun h2 tk kp x => ?_
  wp_walk
  refine ⟨rfl, h h2 tk x fun b o e => ?_⟩
  have lb := Heap.lt_size e
  refine kp b o (fun z => ?_) (Nat.ne_of_lt lb) (Heap.get?_push_of_some _ (grown b o e))
  rw [List.mem_singleton.mp z, size] at lb
  exact absurd lb (Nat.not_lt.mpr (Nat.le_succ _))
end
end GX

set_option Elab.async false
set_option linter.all false
set_option maxRecDepth 100000
namespace GX
open PySem PyProof.Rows
section
variable {prog : Program} {w : World} {A : Around} {E : Value → Shared → Prop} {s : Shared}

theorem erase_perm {α : Type} : ∀ {xs : List α} {i : Nat} (h : i < xs.length), (xs[i] :: xs.eraseIdx i).Perm xs
  | x :: xs, 0, _ => .refl _
  | x :: xs, i + 1, h => (List.Perm.swap x (xs[i]'(Nat.lt_of_succ_lt_succ h)) _).trans ((erase_perm (xs := xs) (i := i) (Nat.lt_of_succ_lt_succ h)).cons x)
theorem choose_ok {src : Source} {n : Nat} {M : Model} {Q : Nat → Shared → Prop} (hn : n ≠ 0) (h : ∀ i d, i < n → Q i { s with drawn := d }) : wpAny M A (choose src n) Q E s := fun Γ p _ => by
  unfold choose
  rw [Sem.wp_choose]
  exact ⟨hn, h _ _ (Nat.mod_lt _ (Nat.pos_of_ne_zero hn))⟩
theorem draw_ok {α : Type} {M : Model} : ∀ (n : Nat) (xs : List α) (s : Shared) (Q : List α → Shared → Prop), xs.length = n → (∀ ys d, ys.Perm xs → Q ys { s with drawn := d }) → wpAny M A (drawOrder n xs) Q E s
  | 0, xs, s, Q, hl, h => by
    have e : xs = [] := List.eq_nil_of_length_eq_zero hl
    subst e
    unfold drawOrder
    exact wpAny_pure (h [] s.drawn .nil)
  | n + 1, [], s, Q, hl, h => by cases hl
  | n + 1, x :: xs, s, Q, hl, h => by
    unfold drawOrder
    refine wpAny_bind (choose_ok (by simp) fun i d hi => ?_)
    rw [List.getElem?_eq_getElem hi]
    dsimp only
    refine wpAny_bind (draw_ok n _ _ _ (by rw [List.length_eraseIdx_of_lt hi, hl]; rfl) fun ys d' pm => ?_)
    exact wpAny_pure (h _ d' ((pm.cons _).trans (erase_perm hi)))
theorem pick_go {α : Type} (f : Nat → Nat) : ∀ (n k : Nat) (xs : List α) (out : Array α), xs.length = n → (pickOrder.go f n k xs out).toList.Perm (out.toList ++ xs)
  | 0, k, xs, out, hl => by
    have e : xs = [] := List.eq_nil_of_length_eq_zero hl
    subst e
    unfold pickOrder.go
    rw [List.append_nil]
  | n + 1, k, xs, out, hl => by
    unfold pickOrder.go
    have hi : f k % xs.length < xs.length := Nat.mod_lt _ (by omega)
    rw [List.getElem?_eq_getElem hi]
    dsimp only
    refine (pick_go f n (k + 1) _ _ (by rw [List.length_eraseIdx_of_lt hi, hl]; rfl)).trans ?_
    rw [Array.toList_push, List.append_assoc]
    exact List.Perm.append_left _ (erase_perm hi)
theorem pick_perm {α : Type} (f : Nat → Nat) (xs : Array α) : (pickOrder f xs).toList.Perm xs.toList := by
  have := pick_go f xs.size 0 xs.toList #[] (by simp)
  simpa [pickOrder] using this
end
end GX
namespace GX
open PySem PyProof.Rows
section
variable {prog : Program} {w : World} {A : Around} {E : Value → Shared → Prop} {s : Shared}

def sitO (first : Value) (i : Nat) (a : Addr) (n ep : Nat) : Obj := { cls := .type "set_iterator", dict := none, data := .fields #[first, .int i 0, .ref a, .int n 0, .int ep 0], slots := #[] }
theorem upd_fields {I : Addr} {first : Value} {i n ep : Nat} {a : Addr} (h : Heap) (hI : h.get? I = some (sitO first i a n ep)) (k : Nat) (x : Value) : (h.update I (Obj.mapFields (·.setIfInBounds k x))).get? I = some { cls := .type "set_iterator", dict := none, data := .fields ((#[first, .int i 0, .ref a, .int n 0, .int ep 0] : Array Value).setIfInBounds k x), slots := #[] } :=
  Heap.get?_update_self _ hI rfl
variable {I a : Addr} {o : Obj} {es : Array (Int × Value)} {ep : Nat} {t : SetTable} {i : Nat}
theorem sit_type {first : Value} (hI : s.heap.get? I = some (sitO first i a es.size ep)) : s.TypeIs (.ref I) "set_iterator" := ⟨_, hI, rfl⟩
theorem sit_item_int {sl : Int} {nx : Nat} {x : Value} {Q : Option Value → Shared → Prop} (hI : s.heap.get? I = some (sitO (.int sl 0) i a es.size ep)) (ho : s.heap.get? a = some o) (hd : o.data = .set es ep t) (hf : t.fits es.size = true)
    (hn : ∀ (A : Around) (E : Value → Shared → Prop) (Q' : Option (Value × Nat) → Shared → Prop), Q' (some (x, nx)) s → wpAny (model prog w) A (setNext a sl.toNat i ep) Q' E s)
    (h : ∀ h', h'.get? I = some (sitO (.int nx 0) (i + 1) a es.size ep) → Heap.SameBut I s.heap h' → Q (some x) { s with heap := h' }) : wpAny (model prog w) A (pyNext (.ref I)) Q E s := by
  unfold pyNext
  refine wpAny_bind (wpAny_attempt (wpAny_callSpecial?_slot (name := Str.ofString "__next__") (sit_type hI) sl_sit_next (wpAny_call_entry sl_sit_next (sit_type hI) en_sit_next ?_ (ar_sit_next _))))
  unfold Builtin.«set_iterator.__next__»
  refine wpAny_bind (wpAny_pure (wpAny_bind (wpAny_fieldsOf hI rfl ?_)))
  show wpAny _ _ (setEntries a >>= _) _ _ _
  refine wpAny_bind (wpAny_setEntries_of ho hd hf ?_)
  show wpAny _ _ (if (((es.size : Nat) : Int) != ((es.size : Nat) : Int)) = true then _ else _) _ _ _
  rw [if_neg (by simp)]
  show wpAny _ _ (setNext a sl.toNat ((i : Int)).toNat ((ep : Int)).toNat >>= _) _ _ _
  rw [Int.toNat_natCast, Int.toNat_natCast]
  refine wpAny_bind (hn _ _ _ ?_)
  show wpAny _ _ (setField (.ref I) 0 (rawInt nx) >>= _) _ _ _
  refine wpAny_bind (wpAny_setField hI rfl (by simp) ?_)
  have h1 := upd_fields s.heap hI 0 (rawInt nx)
  refine wpAny_bind (wpAny_setField (s := { s with heap := s.heap.update I (Obj.mapFields (·.setIfInBounds 0 (rawInt nx))) }) h1 rfl (by simp) ?_)
  refine wpAny_pure ⟨_, rfl, wpAny_pure (h _ ?_ ((Heap.SameBut.update ..).trans (Heap.SameBut.update ..)))⟩
  exact Heap.get?_update_self _ h1 rfl
theorem stop_now {M : Model} {Q : Fin → Shared → Prop} {E : Value → Shared → Prop} (hh : A.handled = none) (h : ∀ h' e, (∀ b o, s.heap.get? b = some o → h'.get? b = some o) → (∃ o, h'.get? e = some o ∧ o.cls = .type "StopIteration") → E (.ref e) { s with heap := h' }) :
    wpAny M A (newExc (.type "StopIteration") [] >>= fun e => raiseNew e) Q E s := by
  refine wpAny_bind ?_
  simp only [newExc, newTuple]
  refine wpAny_bind (wpAny_newObj_type ?_ (by size_fits))
  refine wpAny_bind (m := firstArgMember _ _) (wpAny_of_eq (a := Value.none) (by first | rfl | (simp only [firstArgMember]; rfl)) ?_)
  refine wpAny_newObj_type ?_ (by size_fits)
  refine wpAny_raiseNew_none hh (h _ _ (fun b o e => Heap.get?_push_of_some _ (Heap.get?_push_of_some _ e)) ⟨_, Heap.get?_push_size _ rfl, rfl⟩)
theorem sit_done_int {sl : Int} {Q : Option Value → Shared → Prop} (hh : A.handled = none) (hI : s.heap.get? I = some (sitO (.int sl 0) i a es.size ep)) (ho : s.heap.get? a = some o) (hd : o.data = .set es ep t) (hf : t.fits es.size = true)
    (hn : ∀ (A : Around) (E : Value → Shared → Prop) (Q' : Option (Value × Nat) → Shared → Prop), Q' none s → wpAny (model prog w) A (setNext a sl.toNat i ep) Q' E s)
    (h : ∀ h', (∀ b o, b ≠ I → s.heap.get? b = some o → h'.get? b = some o) → Q none { s with heap := h' }) : wpAny (model prog w) A (pyNext (.ref I)) Q E s := by
  unfold pyNext
  refine wpAny_bind (wpAny_attempt (wpAny_callSpecial?_slot (name := Str.ofString "__next__") (sit_type hI) sl_sit_next (wpAny_call_entry sl_sit_next (sit_type hI) en_sit_next ?_ (ar_sit_next _))))
  unfold Builtin.«set_iterator.__next__»
  refine wpAny_bind (wpAny_pure (wpAny_bind (wpAny_fieldsOf hI rfl ?_)))
  show wpAny _ _ (setEntries a >>= _) _ _ _
  refine wpAny_bind (wpAny_setEntries_of ho hd hf ?_)
  show wpAny _ _ (if (((es.size : Nat) : Int) != ((es.size : Nat) : Int)) = true then _ else _) _ _ _
  rw [if_neg (by simp)]
  show wpAny _ _ (setNext a sl.toNat ((i : Int)).toNat ((ep : Int)).toNat >>= _) _ _ _
  rw [Int.toNat_natCast, Int.toNat_natCast]
  refine wpAny_bind (hn _ _ _ ?_)
  show wpAny _ _ (setField (.ref I) 2 .none >>= _) _ _ _
  refine wpAny_bind (wpAny_setField hI rfl (by simp) ?_)
  refine stop_now (A := A.in1) hh fun h' e kp ⟨oe, q1, q2⟩ => ?_
  refine wpAny_bind (wpAny_isInstance (T := "StopIteration") (b := true) ⟨oe, q1, q2⟩ isSubtype_stop ?_)
  exact wpAny_pure (h h' fun b ob nb e => kp b ob ((Heap.get?_update_other _ _ (Ne.symm nb)).trans e))
theorem sit_item_tup {tp : Addr} {c : Nat} {ps : List Nat} {x : Value} {k : Nat} {hk : Int} {Q : Option Value → Shared → Prop} (hI : s.heap.get? I = some (sitO (.ref tp) i a es.size ep)) (ho : s.heap.get? a = some o) (hd : o.data = .set es ep t) (hf : t.fits es.size = true)
    (ht : s.heap.get? tp = some { cls := .type "tuple", dict := none, data := .seq (ps.map fun (i : Nat) => rawInt i).toArray c, slots := #[] }) (hp : ps[i]? = some k) (hx : es[k]? = some (hk, x))
    (h : ∀ h', h'.get? I = some (sitO (.ref tp) (i + 1) a es.size ep) → Heap.SameBut I s.heap h' → Q (some x) { s with heap := h' }) : wpAny (model prog w) A (pyNext (.ref I)) Q E s := by
  unfold pyNext
  refine wpAny_bind (wpAny_attempt (wpAny_callSpecial?_slot (name := Str.ofString "__next__") (sit_type hI) sl_sit_next (wpAny_call_entry sl_sit_next (sit_type hI) en_sit_next ?_ (ar_sit_next _))))
  unfold Builtin.«set_iterator.__next__»
  refine wpAny_bind (wpAny_pure (wpAny_bind (wpAny_fieldsOf hI rfl ?_)))
  show wpAny _ _ (setEntries a >>= _) _ _ _
  refine wpAny_bind (wpAny_setEntries_of ho hd hf ?_)
  show wpAny _ _ (if (((es.size : Nat) : Int) != ((es.size : Nat) : Int)) = true then _ else _) _ _ _
  rw [if_neg (by simp)]
  show wpAny _ _ (seqItems? (.ref tp) >>= _) _ _ _
  refine wpAny_bind (wpAny_seqItems ht rfl ?_)
  have e1 : ((ps.map fun (i : Nat) => rawInt i).toArray)[((i : Nat) : Int).toNat]? = some (.int k 0) := by
    rw [Int.toNat_natCast, List.getElem?_toArray, List.getElem?_map, hp]
    rfl
  dsimp only
  rw [e1]
  show wpAny _ _ (setNextDrawn a ((k : Nat) : Int).toNat ((ep : Nat) : Int).toNat >>= _) _ _ _
  rw [Int.toNat_natCast, Int.toNat_natCast]
  unfold setNextDrawn
  refine wpAny_bind (wpAny_bind (wpAny_setState_of ho hd hf ?_))
  show wpAny _ _ (if (ep != ep) = true then _ else _) _ _ _
  rw [if_neg (by simp)]
  refine wpAny_bind (wpAny_pure ?_)
  rw [hx]
  refine wpAny_pure ?_
  show wpAny _ _ (setField (.ref I) 1 (rawInt ((i : Int) + 1)) >>= _) _ _ _
  refine wpAny_bind (wpAny_setField hI rfl (by simp) (wpAny_pure ⟨_, rfl, wpAny_pure (h _ ?_ (Heap.SameBut.update ..))⟩))
  exact upd_fields s.heap hI 1 (rawInt ((i : Int) + 1))
theorem sit_done_tup {tp : Addr} {c : Nat} {ps : List Nat} {Q : Option Value → Shared → Prop} (hh : A.handled = none) (hI : s.heap.get? I = some (sitO (.ref tp) i a es.size ep)) (ho : s.heap.get? a = some o) (hd : o.data = .set es ep t) (hf : t.fits es.size = true)
    (ht : s.heap.get? tp = some { cls := .type "tuple", dict := none, data := .seq (ps.map fun (i : Nat) => rawInt i).toArray c, slots := #[] }) (hp : ps[i]? = none)
    (h : ∀ h', (∀ b o, b ≠ I → s.heap.get? b = some o → h'.get? b = some o) → Q none { s with heap := h' }) : wpAny (model prog w) A (pyNext (.ref I)) Q E s := by
  unfold pyNext
  refine wpAny_bind (wpAny_attempt (wpAny_callSpecial?_slot (name := Str.ofString "__next__") (sit_type hI) sl_sit_next (wpAny_call_entry sl_sit_next (sit_type hI) en_sit_next ?_ (ar_sit_next _))))
  unfold Builtin.«set_iterator.__next__»
  refine wpAny_bind (wpAny_pure (wpAny_bind (wpAny_fieldsOf hI rfl ?_)))
  show wpAny _ _ (setEntries a >>= _) _ _ _
  refine wpAny_bind (wpAny_setEntries_of ho hd hf ?_)
  show wpAny _ _ (if (((es.size : Nat) : Int) != ((es.size : Nat) : Int)) = true then _ else _) _ _ _
  rw [if_neg (by simp)]
  show wpAny _ _ (seqItems? (.ref tp) >>= _) _ _ _
  refine wpAny_bind (wpAny_seqItems ht rfl ?_)
  have e1 : ((ps.map fun (i : Nat) => rawInt i).toArray)[((i : Nat) : Int).toNat]? = none := by
    rw [Int.toNat_natCast, List.getElem?_toArray, List.getElem?_map, hp]
    rfl
  dsimp only
  rw [e1]
  show wpAny _ _ (setField (.ref I) 0 (rawInt 0) >>= _) _ _ _
  refine wpAny_bind (wpAny_setField hI rfl (by simp) ?_)
  have h1 := upd_fields s.heap hI 0 (rawInt 0)
  refine wpAny_bind (wpAny_setField (s := { s with heap := s.heap.update I (Obj.mapFields (·.setIfInBounds 0 (rawInt 0))) }) h1 rfl (by simp) ?_)
  refine stop_now (A := A.in1) hh fun h' e kp ⟨oe, q1, q2⟩ => ?_
  refine wpAny_bind (wpAny_isInstance (T := "StopIteration") (b := true) ⟨oe, q1, q2⟩ isSubtype_stop ?_)
  exact wpAny_pure (h h' fun b ob nb e => kp b ob ((Heap.get?_update_other _ _ (Ne.symm nb)).trans ((Heap.get?_update_other _ _ (Ne.symm nb)).trans e)))

theorem next_text {sl : Nat} {Q : Option (Value × Nat) → Shared → Prop} (b : byT w = true) (ho : s.heap.get? a = some o) (hd : o.data = .set es ep t) (hf : t.fits es.size = true)
    (h : Q (((pickOrder (w.params.setOrder a ep) es)[i]?).map fun e => (e.2, sl)) s) : wpAny (model prog w) A (setNext a sl i ep) Q E s := by
  have hb : w.params.followText "set-order" = true := b
  unfold setNext
  refine wpAny_bind (wpAny_setState_of ho hd hf (wpAny_bind (wpAny_bind (wpAny_askSetting (wpAny_pure ?_)))))
  show wpAny _ _ (if w.params.followText "set-order" = true then _ else _) _ _ _
  rw [hb, if_pos rfl]
  show wpAny _ _ (if (ep != ep) = true then _ else _) _ _ _
  rw [if_neg (by simp)]
  refine wpAny_bind ?_
  unfold setWalk
  refine wpAny_bind (wpAny_setState_of ho hd hf (wpAny_bind (wpAny_bind (wpAny_askSetting (wpAny_pure ?_)))))
  show wpAny _ _ (if w.params.followText "set-order" = true then _ else _) _ _ _
  rw [hb, if_pos rfl]
  exact wpAny_bind (wpAny_askSetting (wpAny_pure (wpAny_pure h)))
theorem next_led {sl : Nat} {Q : Option (Value × Nat) → Shared → Prop} (b : byT w = false) (d : (!t.plain && decide (es.size > 1)) = false) (hl : t.led = true) (ho : s.heap.get? a = some o) (hd : o.data = .set es ep t) (hf : t.fits es.size = true)
    (h : Q (match es[SetTable.below t.place sl]?, t.place[SetTable.below t.place sl]? with | some (_, x), some j => some (x, j + 1) | _, _ => none) s) : wpAny (model prog w) A (setNext a sl i ep) Q E s := by
  have hb : w.params.followText "set-order" = false := b
  unfold setNext
  refine wpAny_bind (wpAny_setState_of ho hd hf (wpAny_bind (wpAny_bind (wpAny_askSetting (wpAny_pure ?_)))))
  show wpAny _ _ (if w.params.followText "set-order" = true then _ else _) _ _ _
  rw [hb, if_neg Bool.false_ne_true]
  refine wpAny_bind (wpAny_pure ?_)
  show wpAny _ _ (if (!t.plain && decide (es.size > 1)) = true then _ else _) _ _ _
  rw [d, if_neg Bool.false_ne_true]
  refine wpAny_bind ?_
  show wpAny _ _ (if (!t.led && !es.isEmpty) = true then _ else _) _ _ _
  rw [hl]
  show wpAny _ _ (if (false && !es.isEmpty) = true then _ else _) _ _ _
  rw [Bool.false_and, if_neg Bool.false_ne_true]
  exact wpAny_pure (wpAny_pure h)
end
end GX

set_option Elab.async false
set_option linter.all false
set_option maxRecDepth 100000
namespace GX
open PySem PyProof.Rows
section
variable {prog : Program} {w : World} {A : Around} {E : Value → Shared → Prop} {s : Shared} {I a : Addr} {o : Obj} {es : Array (Int × Value)} {ep : Nat} {t : SetTable}
theorem sit_self {i : Nat} {first : Value} {Q : Value → Shared → Prop} (hI : s.heap.get? I = some (sitO first i a es.size ep)) (h : Q (.ref I) s) : wpAny (model prog w) A (pyIter (.ref I)) Q E s := by
  refine wpAny_pyIter_slot (sit_type hI) sl_sit_iter (wpAny_call_entry sl_sit_iter (sit_type hI) en_sit_iter ?_ (ar_sit_iter _))
  show wpAny _ _ (ret (.ref I)) _ _ s
  exact wpAny_pure ⟨_, rfl, "set_iterator", _, sit_type hI, sl_sit_next.lookup, h⟩
theorem walk_text (hh : A.handled = none) (b : byT w = true) (hd : o.data = .set es ep t) (hf : t.fits es.size = true) (ne : a ≠ I) :
    Walks prog w A I [I, a] [I] ((pickOrder (w.params.setOrder a ep) es).toList.map (·.2)).length (fun i v => ((pickOrder (w.params.setOrder a ep) es).toList.map (·.2))[i]? = some v)
      (fun i h => (∃ sl : Nat, h.get? I = some (sitO (.int sl 0) i a es.size ep)) ∧ h.get? a = some o) where
  sub := fun b hb => List.mem_singleton.mp hb ▸ List.mem_cons_self
  frame := fun i h h' st hk => ⟨let ⟨sl, e⟩ := st.1; ⟨sl, hk I (by simp) _ e⟩, hk a (by simp) _ st.2⟩
  item := fun i s _ _ hi st hQ => by
    obtain ⟨⟨sl, hI⟩, ho⟩ := st
    have hi' : i < (pickOrder (w.params.setOrder a ep) es).size := by simpa using hi
    refine sit_item_int (x := ((pickOrder (w.params.setOrder a ep) es)[i]).2) (nx := sl) hI ho hd hf (fun A E Q' q => next_text b ho hd hf ?_) fun h' e sb => hQ _ h' s.toks ?_ ⟨⟨sl, e⟩, (sb.2 a ne).trans ho⟩ fun c oc nc ec => (sb.2 c (fun z => nc (by simp [z]))).trans ec
    · rw [Array.getElem?_eq_getElem hi']
      exact q
    · rw [List.getElem?_map, Array.getElem?_toList, Array.getElem?_eq_getElem hi']
      rfl
  done := fun s Q E st hQ => by
    obtain ⟨⟨sl, hI⟩, ho⟩ := st
    refine sit_done_int hh hI ho hd hf (fun A E Q' q => next_text b ho hd hf ?_) fun h' kp => hQ h' s.toks fun c oc nc ec => kp c oc (fun z => nc (by simp [z])) ec
    rw [Array.getElem?_eq_none (by simp)]
    exact q
  self := fun i s Q E st hQ => let ⟨⟨_, hI⟩, _⟩ := st; sit_self hI hQ
theorem walk_led (hh : A.handled = none) (b : byT w = false) (d : (!t.plain && decide (es.size > 1)) = false) (tb : Tb (!byT w) t) (hd : o.data = .set es ep t) (hf : t.fits es.size = true) (ne : a ≠ I) :
    Walks prog w A I [I, a] [I] (es.toList.map (·.2)).length (fun i v => (es.toList.map (·.2))[i]? = some v)
      (fun i h => (∃ sl : Nat, SetTable.below t.place sl = i ∧ h.get? I = some (sitO (.int sl 0) i a es.size ep)) ∧ h.get? a = some o) where
  sub := fun b hb => List.mem_singleton.mp hb ▸ List.mem_cons_self
  frame := fun i h h' st hk => ⟨let ⟨sl, e1, e⟩ := st.1; ⟨sl, e1, hk I (by simp) _ e⟩, hk a (by simp) _ st.2⟩
  item := fun i s _ _ hi st hQ => by
    obtain ⟨⟨sl, e1, hI⟩, ho⟩ := st
    have hi' : i < es.size := by simpa using hi
    have hl : t.led = true := by rw [tb.2, b]; rfl
    have hp : t.place.size = es.size := by
      simp only [SetTable.fits, Bool.and_eq_true, beq_iff_eq, decide_eq_true_eq] at hf
      exact hf.1
    have hip : i < t.place.size := by omega
    refine sit_item_int (x := (es[i]).2) (nx := t.place.getD i 0 + 1) hI ho hd hf (fun A E Q' q => next_led b d hl ho hd hf ?_) fun h' e sb => hQ _ h' s.toks ?_ ⟨⟨t.place.getD i 0 + 1, below_next tb.1 hip, e⟩, (sb.2 a ne).trans ho⟩ fun c oc nc ec => (sb.2 c (fun z => nc (by simp [z]))).trans ec
    · rw [Int.toNat_natCast, e1, Array.getElem?_eq_getElem hi', Array.getElem?_eq_getElem hip]
      rw [Array.getD_eq_getD_getElem?, Array.getElem?_eq_getElem hip] at q
      exact q
    · rw [List.getElem?_map, Array.getElem?_toList, Array.getElem?_eq_getElem hi']
      rfl
  done := fun s Q E st hQ => by
    obtain ⟨⟨sl, e1, hI⟩, ho⟩ := st
    have hl : t.led = true := by rw [tb.2, b]; rfl
    refine sit_done_int hh hI ho hd hf (fun A E Q' q => next_led b d hl ho hd hf ?_) fun h' kp => hQ h' s.toks fun c oc nc ec => kp c oc (fun z => nc (by simp [z])) ec
    rw [Int.toNat_natCast, e1, Array.getElem?_eq_none (by simp)]
    exact q
  self := fun i s Q E st hQ => let ⟨⟨_, _, hI⟩, _⟩ := st; sit_self hI hQ
theorem walk_drawn {tp : Addr} {c : Nat} {ps : List Nat} (hh : A.handled = none) (pm : ps.Perm (List.range es.size)) (hd : o.data = .set es ep t) (hf : t.fits es.size = true) (ne : a ≠ I) (nt : tp ≠ I) :
    Walks prog w A I [I, a, tp] [I] (ps.map fun i => (es.getD i (0, .none)).2).length (fun i v => (ps.map fun i => (es.getD i (0, .none)).2)[i]? = some v)
      (fun i h => h.get? I = some (sitO (.ref tp) i a es.size ep) ∧ h.get? a = some o ∧ h.get? tp = some { cls := .type "tuple", dict := none, data := .seq (ps.map fun (i : Nat) => rawInt i).toArray c, slots := #[] }) where
  sub := fun b hb => List.mem_singleton.mp hb ▸ List.mem_cons_self
  frame := fun i h h' st hk => ⟨hk I (by simp) _ st.1, hk a (by simp) _ st.2.1, hk tp (by simp) _ st.2.2⟩
  item := fun i s _ _ hi st hQ => by
    obtain ⟨hI, ho, ht⟩ := st
    rw [List.length_map] at hi
    have hm : ps[i] < es.size := List.mem_range.mp (pm.mem_iff.mp (List.getElem_mem hi))
    refine sit_item_tup (x := (es[ps[i]]).2) (hk := (es[ps[i]]).1) hI ho hd hf ht (List.getElem?_eq_getElem hi) (Array.getElem?_eq_getElem hm) fun h' e sb => hQ _ h' s.toks ?_ ⟨e, (sb.2 a ne).trans ho, (sb.2 tp nt).trans ht⟩ fun c oc nc ec => (sb.2 c (fun z => nc (by simp [z]))).trans ec
    rw [List.getElem?_map, List.getElem?_eq_getElem hi, Option.map_some, Array.getD_eq_getD_getElem?, Array.getElem?_eq_getElem hm]
    rfl
  done := fun s Q E st hQ => by
    obtain ⟨hI, ho, ht⟩ := st
    exact sit_done_tup hh hI ho hd hf ht (List.getElem?_eq_none (by rw [List.length_map]; exact Nat.le_refl _)) fun h' kp => hQ h' s.toks fun c oc nc ec => kp c oc (fun z => nc (by simp [z])) ec
  self := fun i s Q E st hQ => sit_self st.1 hQ
theorem getD_range (es : Array (Int × Value)) : (List.range es.size).map (fun i => (es.getD i (0, Value.none)).2) = es.toList.map (·.2) := by
  apply List.ext_getElem?
  intro i
  rw [List.getElem?_map, List.getElem?_map, Array.getElem?_toList (xs := es)]
  by_cases h : i < es.size
  · rw [List.getElem?_eq_getElem (by rw [List.length_range]; exact h), List.getElem_range, Option.map_some, Array.getD_eq_getD_getElem?, Array.getElem?_eq_getElem h]
    rfl
  · rw [List.getElem?_eq_none (by rw [List.length_range]; omega), Array.getElem?_eq_none (by omega)]
    rfl

theorem set_iter (hh : A.handled = none) (ho : s.heap.get? a = some o) (hx : o.ExactSet) (hd : o.data = .set es ep t) (hf : t.fits es.size = true) (hb : es.size < scanBound) (tb : Tb (!byT w) t) {Q : Value → Shared → Prop}
    (h : ∀ (h' : Heap) (d' : Drawn) (I : Addr) (fp : List Addr) (vs : List Value) (St : Nat → Heap → Prop), (∀ b o, s.heap.get? b = some o → h'.get? b = some o) → s.heap.objs.size ≤ I → (∀ b ∈ fp, b = a ∨ s.heap.objs.size ≤ b) → vs.Perm (es.toList.map (·.2)) →
      (∀ A : Around, A.handled = none → Walks prog w A I fp [I] vs.length (fun i v => vs[i]? = some v) St) → St 0 h' → Q (.ref I) { s with heap := h', drawn := d' }) : wpAny (model prog w) A (pyIter (.ref a)) Q E s := by
  have hT : s.TypeIs (.ref a) "set" := ⟨o, ho, hx.1⟩
  have la := Heap.lt_size ho
  refine wpAny_pyIter_slot hT PySem.F.slot_set_iter (wpAny_call_entry PySem.F.slot_set_iter hT en_set_iter ?_ (PySem.F.args_set_iter_1 _))
  unfold Builtin.«frozenset.__iter__» Builtin.Frozenset.slot0 Builtin.Frozenset.addrOf Builtin.Frozenset.sizeOf
  refine wpAny_bind (wpAny_bind (wpAny_pure (wpAny_pure (wpAny_bind (wpAny_bind (wpAny_setEntries_of ho hd hf (wpAny_pure ?_)))))))
  refine wpAny_bind ?_
  unfold setDrawn
  refine wpAny_bind (wpAny_setState_of ho hd hf (wpAny_bind (wpAny_bind (wpAny_askSetting (wpAny_pure (wpAny_pure ?_))))))
  show wpAny _ _ (if (!byT w && (!t.plain && decide (es.size > 1))) = true then _ else _) _ _ _
  cases hc : (!byT w && (!t.plain && decide (es.size > 1))) with
  | false =>
    rw [if_neg Bool.false_ne_true]
    refine wpAny_bind (wpAny_pure (wpAny_bind ?_))
    unfold setEpoch
    refine wpAny_bind (wpAny_setState_of ho hd hf (wpAny_pure ?_))
    refine wpAny_bind (wpAny_newObj_type (wpAny_pure ⟨_, rfl, "set_iterator", _, ⟨_, Heap.get?_push_size _ rfl, rfl⟩, sl_sit_next.lookup, ?_⟩))
    have nI : a ≠ s.heap.objs.size := Nat.ne_of_lt la
    have fpok : ∀ b ∈ [s.heap.objs.size, a], b = a ∨ s.heap.objs.size ≤ b := fun b hb => by
      simp only [List.mem_cons, List.not_mem_nil, or_false] at hb
      rcases hb with z | z
      · exact .inr (Nat.le_of_eq z.symm)
      · exact .inl z
    cases hT : byT w with
    | true =>
      refine h _ s.drawn s.heap.objs.size [s.heap.objs.size, a] _ _ (fun b o e => Heap.get?_push_of_some _ e) (Nat.le_refl _) fpok ((pick_perm (w.params.setOrder a ep) es).map _) (fun A hA => walk_text hA hT hd hf nI) ⟨⟨0, Heap.get?_push_size _ rfl⟩, Heap.get?_push_of_some _ ho⟩
    | false =>
      have hc' : (!t.plain && decide (es.size > 1)) = false := by rw [hT] at hc; exact hc
      refine h _ s.drawn s.heap.objs.size [s.heap.objs.size, a] _ _ (fun b o e => Heap.get?_push_of_some _ e) (Nat.le_refl _) fpok (.refl _) (fun A hA => walk_led hA hT hc' tb hd hf nI) ⟨⟨0, below_zero tb.1, Heap.get?_push_size _ rfl⟩, Heap.get?_push_of_some _ ho⟩
  | true =>
    rw [if_pos rfl]
    refine wpAny_bind (draw_ok es.size (List.range es.size) s _ (by rw [List.length_range]) fun ps d' pm => wpAny_bind ?_)
    refine wpAny_newTuple (wpAny_bind ?_) ?_
    · unfold setEpoch
      have ho' : (s.heap.push { cls := .type "tuple", data := .seq (ps.map fun (i : Nat) => rawInt i).toArray }).get? a = some o := Heap.get?_push_of_some _ ho
      refine wpAny_bind (wpAny_setState_of ho' hd hf (wpAny_pure ?_))
      refine wpAny_bind (wpAny_newObj_type (wpAny_pure ⟨_, rfl, "set_iterator", _, ⟨_, Heap.get?_push_size _ rfl, rfl⟩, sl_sit_next.lookup, ?_⟩))
      have sz : (s.heap.push { cls := .type "tuple", data := .seq (ps.map fun (i : Nat) => rawInt i).toArray }).objs.size = s.heap.objs.size + 1 := Heap.size_push ..
      refine h _ d' (s.heap.push { cls := .type "tuple", data := .seq (ps.map fun (i : Nat) => rawInt i).toArray }).objs.size [(s.heap.push { cls := .type "tuple", data := .seq (ps.map fun (i : Nat) => rawInt i).toArray }).objs.size, a, s.heap.objs.size] (ps.map fun i => (es.getD i (0, .none)).2) _
        (fun b o e => Heap.get?_push_of_some _ (Heap.get?_push_of_some _ e)) (by rw [sz]; exact Nat.le_succ _) (fun b hb => ?_) ?_ (fun A hA => walk_drawn (c := 0) hA pm hd hf (by rw [sz]; exact Nat.ne_of_lt (Nat.lt_succ_of_lt la)) (by rw [sz]; exact Nat.ne_of_lt (Nat.lt_succ_self _)))
        ⟨Heap.get?_push_size _ rfl, Heap.get?_push_of_some _ ho', Heap.get?_push_of_some _ (Heap.get?_push_size _ rfl)⟩
      · simp only [List.mem_cons, List.not_mem_nil, or_false] at hb
        rcases hb with z | z | z
        · exact .inr (by rw [z, sz]; exact Nat.le_succ _)
        · exact .inl z
        · exact .inr (Nat.le_of_eq z.symm)
      · exact (pm.map _).trans (by rw [getD_range])
    · rw [List.length_map, pm.length_eq, List.length_range]
      exact fits_of_scanBound hb
end
end GX

set_option Elab.async false
set_option linter.all false
set_option maxRecDepth 100000
namespace GX
open PySem PyProof.Rows
theorem perm_of_nd {α : Type} [DecidableEq α] : ∀ {l m : List α}, l.Nodup → (∀ x ∈ l, x ∈ m) → m.length ≤ l.length → m.Perm l
  | [], m, _, _, h => by
    have e : m = [] := List.eq_nil_of_length_eq_zero (Nat.le_zero.mp h)
    rw [e]
  | x :: l, m, nd, sub, h => by
    rw [List.nodup_cons] at nd
    have hx := sub x List.mem_cons_self
    have pm := List.perm_cons_erase hx
    refine pm.trans (List.Perm.cons x (perm_of_nd nd.2 (fun y hy => ?_) ?_))
    · have hy' := sub y (List.mem_cons_of_mem _ hy)
      exact (List.mem_erase_of_ne (show y ≠ x from fun z => nd.1 (z ▸ hy))).mpr hy'
    · have := pm.length_eq
      rw [List.length_cons] at this h
      omega
theorem firstMet_nd (val : Nat → Int) : ∀ i, (firstMet val i).Nodup
  | 0 => List.nodup_nil
  | i + 1 => by
    rw [firstMet_succ]
    unfold step_dedup
    have ih := firstMet_nd val i
    by_cases h : List.any (firstMet val i) (· == val i)
    · rw [if_pos h]
      exact ih
    · rw [if_neg h, List.nodup_append]
      refine ⟨ih, by simp, fun x hx y hy e => h ?_⟩
      rw [List.any_eq_true]
      refine ⟨x, hx, ?_⟩
      have e2 := List.mem_singleton.mp hy
      rw [e, e2, beq_self_eq_true]
theorem firstMet_mem (val : Nat → Int) (i : Nat) (k : Int) : k ∈ firstMet val i ↔ ∃ j, j < i ∧ val j = k := by
  have h := firstMet_any val i k
  rw [Bool.eq_iff_iff, List.any_eq_true, List.any_eq_true] at h
  constructor
  · intro z
    obtain ⟨x, hx, e⟩ := h.mp ⟨k, z, by simp⟩
    obtain ⟨j, hj, ej⟩ := List.mem_map.mp hx
    exact ⟨j, List.mem_range.mp hj, by rw [ej]; simpa using e⟩
  · rintro ⟨j, hj, e⟩
    obtain ⟨x, hx, e2⟩ := h.mpr ⟨val j, List.mem_map.mpr ⟨j, List.mem_range.mpr hj, rfl⟩, by simp [e]⟩
    have : x = k := by simpa using e2
    rw [← this]
    exact hx
section
variable {prog : Program} {w : World} {A : Around} {E : Value → Shared → Prop} {s : Shared} {a : Addr} {o : Obj} {es : Array (Int × Value)} {ep : Nat} {t : SetTable}

theorem elems_ints : ∀ {l : List (Int × Value)}, ElemsOf (intKind prog w) l → ∃ ns, IntsAre (l.map (·.2)) ns ∧ ∀ k, k ∈ ns ↔ ∃ e ∈ l, (intKind prog w).is k e.2 = true
  | [], _ => ⟨[], .nil, fun k => by simp⟩
  | e :: l, h => by
    obtain ⟨ns, h1, h2⟩ := elems_ints h.tail
    obtain ⟨⟨k, hk, _⟩, _⟩ := h.head
    obtain ⟨t, et⟩ := Value.isInt_shape (k := k) (v := e.2) hk
    refine ⟨k :: ns, ?_, fun j => ?_⟩
    · rw [List.map_cons, et]
      exact .cons k t h1
    · rw [List.mem_cons, h2 j]
      constructor
      · rintro (z | ⟨e', he, q⟩)
        · exact ⟨e, List.mem_cons_self, by rw [z]; exact hk⟩
        · exact ⟨e', List.mem_cons_of_mem _ he, q⟩
      · rintro ⟨e', he, q⟩
        rcases List.mem_cons.mp he with z | z
        · rw [z] at q
          exact .inl ((intKind prog w).inj e.2 j k q hk)
        · exact .inr ⟨e', z, q⟩
theorem ints_perm {vs us : List Value} {ns : List Int} (pm : vs.Perm us) (h : IntsAre us ns) : ∃ ms, IntsAre vs ms ∧ ms.Perm ns := by
  induction pm generalizing ns with
  | nil => exact ⟨ns, h, .refl _⟩
  | cons x p ih =>
    cases h with
    | cons n t hr =>
      obtain ⟨ms, h1, h2⟩ := ih hr
      exact ⟨n :: ms, .cons n t h1, h2.cons n⟩
  | swap x y l =>
    cases h with
    | cons n t hr =>
      cases hr with
      | cons m u hr => exact ⟨_, .cons m u (.cons n t hr), List.Perm.swap ..⟩
  | trans p q ih1 ih2 =>
    obtain ⟨ms, h1, h2⟩ := ih2 h
    obtain ⟨ks, h3, h4⟩ := ih1 h1
    exact ⟨ks, h3, h4.trans h2⟩
theorem hint_set {Q : Bool → Shared → Prop} (hT : s.TypeIs (.ref a) "set") (h : Q false s) : wpAny (model prog w) A (Builtin.List.listLengthHint (.ref a)) Q E s := by
  show wpAny _ _ (specialOf (.ref a) "__len__" >>= _) _ _ s
  refine wpAny_bind (wpAny_specialOf hT PySem.F.slot_set_len.lookup ?_)
  generalize hid : ("set.__len__" : String) = id0
  wp_delta
  rw [show splitId id0 = some ("set", "__len__") from by subst hid; decide +kernel]
  subst hid
  refine wpAny_bind (wpAny_isInstance (T := "set") (b := true) hT (by rw [isSubtype_type]; kernel_rfl) ?_)
  refine wpAny_ite_split (fun z => absurd z (by decide)) (fun _ => ?_)
  refine wpAny_ite_split (fun _ => ?_) (fun z => absurd (by decide +kernel) z)
  exact wpAny_bind (wpAny_typeOf hT (wpAny_pure h))
theorem enters {id : String} {B : Builtin} {args : Args} {R : Result → Shared → Prop} (he : entryFor table id = some B) (hp : plainId id = true)
    (h : wpAny (model prog w) A.in1 (B args) (fun f s1 => match f with | .done f => R (.ok f) s1 | .again c => c.quiet = true ∧ codeAny (model prog w) A c R s1) (fun e s1 => R (.error e) s1) s) : codeAny (model prog w) A (.builtin id args) R s :=
  codeAny_builtin he (by rw [Around.under_plainId hp]; exact h)

theorem set_collect {S : Int → Bool} {n : Nat} {R : List Value → Shared → Prop} (hh : A.handled = none) (x : SetI prog w s.heap a S n)
    (h : ∀ (h' : Heap) (d' : Drawn) (tk : Nat) (vs : List Value) (ns : List Int), (∀ b o, s.heap.get? b = some o → h'.get? b = some o) → IntsAre vs ns → ns.length = n → (∀ k, k ∈ ns ↔ S k = true) → R vs { s with heap := h', drawn := d', toks := tk }) :
    wpAny (model prog w) A (collect (.ref a)) R E s := by
  obtain ⟨o, es, ep, t, ho, hx, hd, he, hm, hb, hf, hn, tb⟩ := x
  have la := Heap.lt_size ho
  unfold collect
  refine wpAny_bind (wpAny_runValue (enters entry_proto_collect' PySem.F.plain_proto_collect (wpAny_bind (wpAny_newObj_type (wpAny_pure ⟨plainId_quiet PySem.F.plain_list_iadd _, enters entry_list_iadd' PySem.F.plain_list_iadd ?_⟩)))))
  have hS1 : (s.heap.push { cls := .type "list", data := .seq ([] : List Value).toArray }).get? s.heap.objs.size = some { cls := .type "list", data := .seq #[] } := Heap.get?_push_size _ rfl
  have ho1 : (s.heap.push { cls := .type "list", data := .seq ([] : List Value).toArray }).get? a = some o := Heap.get?_push_of_some _ ho
  have sz1 : (s.heap.push { cls := .type "list", data := .seq ([] : List Value).toArray }).objs.size = s.heap.objs.size + 1 := Heap.size_push ..
  have kp1 : ∀ b ob, s.heap.get? b = some ob → (s.heap.push { cls := .type "list", data := .seq ([] : List Value).toArray }).get? b = some ob := fun b ob e => Heap.get?_push_of_some _ e
  show wpAny _ A.in1 (Builtin.List.listExtendWith (.ref s.heap.objs.size) (.ref a) (.ref s.heap.objs.size)) _ _ _
  generalize s.heap.push { cls := .type "list", data := .seq ([] : List Value).toArray } = H1 at hS1 ho1 sz1 kp1 ⊢
  show wpAny _ _ (typeOf (.ref a) >>= _) _ _ _
  refine wpAny_bind (wpAny_typeOf (T := "set") ⟨o, ho1, hx.1⟩ ?_)
  have n1 : Builtin.List.listSameRef (.ref s.heap.objs.size) (.ref a) = false := by simp [Builtin.List.listSameRef, Nat.ne_of_gt la]
  have n2 : (Value.type "set" == Value.type "list") = false := by decide
  have n3 : (Value.type "set" == Value.type "tuple") = false := by decide
  simp only [n1, n2, n3, Bool.or_false, Bool.false_eq_true, if_false]
  refine wpAny_bind (set_iter (s := { s with heap := H1 }) (A := A.in1) hh ho1 hx hd hf hb tb fun h2 d2 I fp vs St k2 lI fpk pm W st => ?_)
  refine wpAny_bind (wpAny_holding (hint_set (s := { s with heap := h2, drawn := d2 }) ⟨o, k2 _ _ ho1, hx.1⟩ ?_))
  have hS2 := k2 _ _ hS1
  have nf : s.heap.objs.size ∉ fp := fun z => by
    rcases fpk _ z with q | q
    · exact absurd la (by rw [← q]; exact Nat.lt_irrefl _)
    · rw [sz1] at q
      exact absurd q (Nat.not_succ_le_self _)
  have hlen : vs.length = n := by rw [pm.length_eq, List.length_map, Array.length_toList, hn]
  have nz : vs.length ≤ sizeLine := by rw [hlen, ← hn]; exact fits_of_scanBound hb
  refine wpAny_ite_split (fun _ => ?_) (fun z => absurd (by decide) z)
  refine wpAny_bind (wpAny_rule (wpAny_bind ?_))
  show wpAny _ _ (updateSeq s.heap.objs.size (·.push .none) >>= fun _ => updateSeq s.heap.objs.size (·.pop)) _ _ _
  refine wpAny_bind (wpAny_updateSeq hS2 rfl ?_)
  have hS3 := Heap.get?_update_self (Obj.mapSeq (·.push Value.none)) hS2 rfl
  refine wpAny_updateSeq (hz := by seq_fits) hS3 rfl ?_
  have hS4 := Heap.get?_update_self (Obj.mapSeq (·.pop)) hS3 rfl
  have oth : ∀ b ob, b ≠ s.heap.objs.size → h2.get? b = some ob → ((h2.update s.heap.objs.size (Obj.mapSeq (·.push Value.none))).update s.heap.objs.size (Obj.mapSeq (·.pop))).get? b = some ob := fun b ob nb e => (Heap.get?_update_other _ _ (Ne.symm nb)).trans ((Heap.get?_update_other _ _ (Ne.symm nb)).trans e)
  refine wpAny_pure ⟨plainId_quiet PySem.F.plain_extend_loop _, codeAny_extend_loopS (W A.in1 hh).toS nz _ nf _ vs.length 0 _ #[] _ rfl (Nat.zero_le _) ((W A.in1 hh).frame 0 _ _ st fun b hb ob e => oth b ob (fun z => nf (z ▸ hb)) e) hS4 (ItemsOf.nil _) fun s' acc c' hmv hS' hacc => ?_⟩
  apply wpAny_bind (wpAny_load hS' _)
  have ea : acc.toList = vs := by
    apply List.ext_getElem?
    intro j
    rw [Array.getElem?_toList]
    by_cases hj : j < acc.size
    · rw [Array.getElem?_eq_getElem hj]
      exact (hacc.2 j _ (Array.getElem?_eq_getElem hj)).symm
    · rw [Array.getElem?_eq_none (by omega), List.getElem?_eq_none (by rw [← hacc.1]; omega)]
  obtain ⟨ns0, q1, q2⟩ := elems_ints he
  obtain ⟨ns, q3, q4⟩ := ints_perm pm q1
  have ln : ns.length = n := by rw [← q3.length, hlen]
  have := h s'.heap s'.drawn s'.toks vs ns (fun b ob e => hmv.heap b ob (fun z => ?_) (oth b ob (Nat.ne_of_lt (Heap.lt_size e)) (k2 b ob (kp1 b ob e)))) q3 ln (fun k => by rw [q4.mem_iff, q2 k, hm k])
  · obtain ⟨h', g', d', t', os'⟩ := s'
    have eg : g' = s.gens := hmv.gens
    have eo : os' = s.os := hmv.os
    subst eg eo
    show wpAny _ A (pure acc.toList) _ _ _
    rw [ea]
    exact wpAny_pure this
  · have l1 := Heap.lt_size e
    rcases List.mem_cons.mp z with z | z
    · rw [z] at l1
      exact Nat.lt_irrefl _ l1
    · rw [List.mem_singleton.mp z] at l1
      have q : H1.objs.size ≤ I := lI
      rw [sz1] at q
      exact absurd l1 (Nat.not_lt.mpr (Nat.le_trans (Nat.le_succ _) q))
end
end GX

set_option Elab.async false
set_option linter.all false
set_option maxRecDepth 100000
namespace L2
open PySem PySem.Spec PyProof.Rows

def SetO (P : Program) (w : World) (a : Addr) (ks : List Int) : HO := .ext fun h => GX.SetI P w h a (fun k => ks.any (· == k)) ks.length
section
variable {X : Cx}
theorem Inv.draw {pins : List (Addr × Obj)} {σ : St} {H : Hp} {s : Shared} (I : Inv X pins σ H s) (d : Drawn) : Inv X pins σ H { s with drawn := d } := ⟨I.ok, I.os, I.bare, I.base, I.loc, I.cell, I.free, I.freeC, I.pin, I.hok, I.len⟩

theorem call_setI (hc : X.calm = true) : CallR X (.type "set") (fun xs H Q => ∃ (p : Addr) (ns : List Int), xs = [.ref p] ∧ SqL X.K H p (ns.map V.int) ∧ ns.length ≤ 1000 ∧ ∀ (q : Addr) (ks : List Int), H q = none → ks.Nodup → (∀ k, k ∈ ks ↔ k ∈ ns) → Q (.ref q) (upd H q (SetO X.prog X.w q ks))) := by
  intro pins s σ H xs us Q I r h
  obtain ⟨p, ns, rfl, hq, hz, q⟩ := h
  obtain ⟨u, rfl, rx⟩ := vals1 r
  cases rx
  obtain ⟨its, rv, pl, hzz⟩ := I.list hq
  have hi : IntsAre its ns := intsAre_of rv
  have hl : its.length = ns.length := hi.length
  refine GX.set_of_list (items := its.toArray) (ns := ns) (I.ok.hd hc) pl.isList (by simpa using hi) (by rw [List.size_toArray, hl]; unfold scanBound; omega) fun h' tk x kp => ?_
  have sz : its.toArray.size = ns.length := by rw [List.size_toArray, hl]
  rw [sz] at x
  have new : ObjOk X.prog X.w (upd H s.heap.objs.size (SetO X.prog X.w s.heap.objs.size (firstMet (fun i => ns.getD i 0) ns.length))) h' s.heap.objs.size (SetO X.prog X.w s.heap.objs.size (firstMet (fun i => ns.getD i 0) ns.length)) := by
    refine ⟨x, ?_, fun h1 h2 y k => y.at k⟩
    obtain ⟨o, _, _, _, ho, _⟩ := x
    exact ⟨o, ho⟩
  refine ⟨.ref s.heap.objs.size, _, I.laid (t' := tk) kp (Nat.le_refl _) new, rfl, q _ _ (I.hok.fresh (Nat.le_refl _)) (GX.firstMet_nd _ _) fun k => ?_⟩
  rw [GX.firstMet_mem]
  constructor
  · rintro ⟨j, hj, e⟩
    rw [List.getD_eq_getElem?_getD, List.getElem?_eq_getElem hj] at e
    have e' : ns[j] = k := e
    rw [← e']
    exact List.getElem_mem hj
  · intro hk
    obtain ⟨j, hj, e⟩ := List.getElem_of_mem hk
    refine ⟨j, hj, ?_⟩
    rw [List.getD_eq_getElem?_getD, List.getElem?_eq_getElem hj]
    exact e

theorem call_sortedS (hc : X.calm = true) : CallR X (.builtin "sorted") (fun xs H Q => ∃ (a : Addr) (ks : List Int), xs = [.ref a] ∧ H a = some (SetO X.prog X.w a ks) ∧ ks.Nodup ∧ ks.length < 64 ∧ ∀ (l : Addr) (ns : List Int), H l = none → ns.Perm ks → ns.Pairwise (· ≤ ·) → Q (.ref l) (upd H l (.lst (ns.map V.int)))) := by
  intro pins s σ H xs us Q I r h
  obtain ⟨a, ks, rfl, ha, nd, hlen, q⟩ := h
  obtain ⟨u, rfl, rx⟩ := vals1 r
  cases rx
  have x : GX.SetI X.prog X.w s.heap a (fun k => ks.any (· == k)) ks.length := (I.hok a _ ha).1
  refine GX.sorted_in (args_sorted1 _) (GX.set_collect (A := X.A.in1) (I.ok.hd hc) x fun h' d' tk vs ns hk hi hl hm => ?_)
  have pm : ns.Perm ks := GX.perm_of_nd nd (fun k hk => (hm k).mpr (List.any_eq_true.mpr ⟨k, hk, by simp⟩)) (Nat.le_of_eq hl)
  have hv : vs.length = ks.length := by rw [hi.length, hl]
  have I1 : Inv X pins σ H { s with heap := h', drawn := d', toks := tk } := (I.draw d').kept (t' := tk) hk
  refine sort_tail (s := { s with heap := h', drawn := d', toks := tk }) hi (by rw [hv]; exact hlen) (by rw [hv]; exact Nat.le_of_lt (small1000 (by omega))) fun h2 out ns' e k2 he a1 a2 a3 => ?_
  have ln : ns'.length ≤ sizeLine := by rw [a2.length_eq, hl]; exact Nat.le_of_lt (small1000 (by omega))
  exact ⟨.ref h'.objs.size, _, I1.lay_ints (tk := tk) k2 he a1 ln, rfl, q _ ns' (I1.hok.fresh (Nat.le_refl _)) (a2.trans pm) a3⟩

theorem call_listD (hc : X.calm = true) : CallR X (.type "list") (fun xs H Q => ∃ (d : Addr) (m : List (Int × Int)), xs = [.ref d] ∧ Rd H d (.dK (dI m)) ∧ m.length ≤ 1000 ∧ ∀ (l : Addr), H l = none → Q (.ref l) (upd H l (.lst ((m.map (·.1)).map V.int)))) := by
  intro pins s σ H xs us Q I r h
  obtain ⟨d, m, rfl, hd, hlen, q⟩ := h
  obtain ⟨u, rfl, rx⟩ := vals1 r
  cases rx
  obtain ⟨z, hS, vs, rel, dd⟩ := dk_rd I.hok hd
  obtain ⟨ep, hat⟩ := dd.dictAt
  have hl : vs.length = m.length := by rw [← rel.length, dI_len]
  refine PySem.W.kdl_call (A := X.A) (PySem.W.kdl_dict (knd := mixKind X.prog X.w) (kvs := vs) (ep := ep) hS) (I.ok.hd hc) hat (by rw [hl]; exact Nat.le_of_lt (small1000 (by omega))) fun h' tk acc c hk he hacc => ?_
  have hi : IntsAre acc.toList (m.map (·.1)) := keys_ints (P := X.prog) (w := X.w) rel (by rw [Array.length_toList]; exact hacc.1) fun j v e => hacc.2 j v (by rw [← Array.getElem?_toList]; exact e)
  exact ⟨.ref s.heap.objs.size, _, I.lay_ints (tk := tk) (e := c) hk he hi (by rw [List.length_map]; exact Nat.le_of_lt (small1000 (by omega))), rfl, q _ (I.hok.fresh (Nat.le_refl _))⟩
end
end L2

set_option Elab.async false
set_option linter.all false
set_option maxRecDepth 100000
namespace GX
open PySem PyProof.Rows
section
variable {prog : Program} {w : World} {A : Around} {E : Value → Shared → Prop} {s : Shared} {I : Addr} {fp wr : List Addr} {N : Nat} {P : Nat → Value → Prop} {St : Nat → Heap → Prop}
end
end GX
namespace L2
open PySem PySem.Spec PyProof.Rows
section
variable {X : Cx}

abbrev Dcs (H : Hp) : List V → List (List (Int × Int)) → Prop := Paired fun x m => ∃ d, x = .ref d ∧ Rd H d (.dK (dI m))
theorem Dcs.get {H : Hp} : ∀ {xs : List V} {ms : List (List (Int × Int))} {i : Nat} {x : V}, Dcs H xs ms → xs[i]? = some x → ∃ m, ms[i]? = some m ∧ ∃ d, x = .ref d ∧ Rd H d (.dK (dI m))
  | _, _, _, _, .nil, e => by simp at e
  | _, _, 0, _, .cons r _, e => by simp at e; subst e; exact ⟨_, rfl, r⟩
  | _, _, i + 1, x, .cons _ t, e => by
    obtain ⟨p, h1, h2⟩ := Dcs.get (i := i) (x := x) t (by simpa using e)
    exact ⟨p, by simpa using h1, h2⟩

end
end L2

set_option Elab.async false
set_option linter.all false
set_option maxRecDepth 100000
namespace L2
open PySem PySem.Spec PyProof.Rows
section
variable {X : Cx}

end
end L2

set_option Elab.async false
set_option linter.all false
set_option maxRecDepth 100000
namespace L2
open PySem PySem.Spec PyProof.Rows

mutual
inductive Dp (K : PySem.W.Frag) (H : Hp) : V → PyData → Prop
  | none : Dp K H .non .none
  | bool (b : Bool) : Dp K H (.bl b) (.bool b)
  | int (i : Int) : Dp K H (.int i) (.int i)
  | str (x : Str) : Dp K H (.str x) (.str x)
  | tup {a : Addr} {xs : List V} {ds : List PyData} : SqT K H a xs → Dps K H xs ds → Dp K H (.ref a) (.tuple ds)
inductive Dps (K : PySem.W.Frag) (H : Hp) : List V → List PyData → Prop
  | nil : Dps K H [] []
  | cons {x : V} {xs : List V} {d : PyData} {ds : List PyData} : Dp K H x d → Dps K H xs ds → Dps K H (x :: xs) (d :: ds)
end
section
variable {X : Cx} {pins : List (Addr × Obj)} {σ : St} {H : Hp} {s : Shared}
mutual
theorem Dp.reads (I : Inv X pins σ H s) : ∀ {x : V} {d : PyData} {u : Value}, Dp X.K H x d → RelV x u → ∃ as, Reads s.heap u d as
  | _, _, _, .none, r => by cases r; exact ⟨_, .none⟩
  | _, _, _, .bool b, r => by cases r; exact ⟨_, .bool b⟩
  | _, _, _, .int i, r => by obtain ⟨t, rfl⟩ := r; exact ⟨_, .int i t⟩
  | _, _, _, .str z, r => by obtain ⟨t, rfl⟩ := r; exact ⟨_, .str z t⟩
  | _, _, _, .tup h t, r => by
    cases r
    obtain ⟨its, rv, ⟨o, e, c, n, dd⟩, _⟩ := I.tuple h
    obtain ⟨as, q⟩ := Dps.reads I t rv
    exact ⟨_, .tuple e c dd (by simpa using q)⟩
theorem Dps.reads (I : Inv X pins σ H s) : ∀ {xs : List V} {ds : List PyData} {us : List Value}, Dps X.K H xs ds → Vals xs us → ∃ as, ReadsAll s.heap us ds as
  | _, _, _, .nil, r => by cases r; exact ⟨_, .nil⟩
  | _, _, _, .cons h t, r => by
    cases r with
    | cons r1 r2 =>
      obtain ⟨as, q⟩ := Dp.reads I h r1
      obtain ⟨bs, q2⟩ := Dps.reads I t r2
      exact ⟨_, .cons q q2⟩
end

def Dl (K : PySem.W.Frag) (H : Hp) (x : V) (d : PyData) : Prop := Dp K H x d ∨ ∃ a xs ds, x = .ref a ∧ d = .list ds ∧ SqL K H a xs ∧ Dps K H xs ds
theorem Dl.reads (I : Inv X pins σ H s) {x : V} {d : PyData} {u : Value} (h : Dl X.K H x d) (r : RelV x u) : ∃ as, Reads s.heap u d as := by
  rcases h with h | ⟨a, xs, ds, rfl, rfl, h, t⟩
  · exact Dp.reads I h r
  · cases r
    obtain ⟨its, rv, ⟨o, n, e, c, _, dd⟩, _⟩ := I.list h
    obtain ⟨as, q⟩ := Dps.reads I t rv
    exact ⟨_, .list e c dd (by simpa using q)⟩

def rEqP (K : PySem.W.Frag) : R2 := fun x y H Q => ∃ d e, Dl K H x d ∧ Dl K H y e ∧ d.canLay0 = true ∧ e.canLay0 = true ∧ min d.depth e.depth ≤ 60 ∧ Q (.bl (d.eqv e)) H
def rNeP (K : PySem.W.Frag) : R2 := fun x y H Q => ∃ d e, Dl K H x d ∧ Dl K H y e ∧ d.canLay0 = true ∧ e.canLay0 = true ∧ min d.depth e.depth ≤ 60 ∧ Q (.bl (!d.eqv e)) H
theorem op_eqDl (hu : X.A.units + 64 < cLine) : OpR X (compareOp .Eq) (rEqP X.K) := by
  intro pins s σ H x y v u Q I rx ry h
  obtain ⟨d, e, h1, h2, c1, c2, dp, q⟩ := h
  obtain ⟨as, r1⟩ := h1.reads I rx
  obtain ⟨bs, r2⟩ := h2.reads I ry
  exact SeqAt.compareEq_reads r1 r2 c1 c2 (by omega) ⟨.bl _, H, I, rfl, q⟩
theorem op_neDl (hu : X.A.units + 64 < cLine) : OpR X (compareOp .NotEq) (rNeP X.K) := by
  intro pins s σ H x y v u Q I rx ry h
  obtain ⟨d, e, h1, h2, c1, c2, dp, q⟩ := h
  obtain ⟨as, r1⟩ := h1.reads I rx
  obtain ⟨bs, r2⟩ := h2.reads I ry
  exact SeqAt.compareNe_reads r1 r2 c1 c2 (by omega) ⟨.bl _, H, I, rfl, q⟩

end
theorem rEqP_refl {K : PySem.W.Frag} {x y : V} {H : Hp} {Q : VK} {d : PyData} (h1 : Dl K H x d) (h2 : Dl K H y d) (c : d.canLay0 = true) (dp : d.depth ≤ 60) (q : Q (.bl true) H) : rEqP K x y H Q :=
  ⟨d, d, h1, h2, c, c, by omega, by rw [SeqAt.eqv_refl d c]; exact q⟩
theorem rNeP_refl {K : PySem.W.Frag} {x y : V} {H : Hp} {Q : VK} {d : PyData} (h1 : Dl K H x d) (h2 : Dl K H y d) (c : d.canLay0 = true) (dp : d.depth ≤ 60) (q : Q (.bl false) H) : rNeP K x y H Q :=
  ⟨d, d, h1, h2, c, c, by omega, by rw [SeqAt.eqv_refl d c]; exact q⟩
end L2

set_option Elab.async false
set_option linter.all false
set_option maxRecDepth 100000
namespace L2
open PySem PySem.Spec PyProof.Rows
theorem same_upd {H : Hp} {l : Addr} {o : HO} (h : H l = none) : Same H (upd H l o) := fun b u e => by rw [upd_ne (ne_of_none e h)]; exact e

def But (d : Addr) (H H' : Hp) : Prop := ∀ b, b ≠ d → H' b = H b
theorem But.upd {d : Addr} {H : Hp} {o : HO} : But d H (L2.upd H d o) := fun b h => upd_ne h
theorem But.same {d : Addr} {B H H' : Hp} (e : But d H H') (s : Same B H) (h : B d = none) : Same B H' := fun b o hb => by rw [e b (ne_of_none hb h)]; exact s b o hb
theorem But.at {d b : Addr} {H H' : Hp} {o : Option HO} (e : But d H H') (n : b ≠ d) (h : H b = o) : H' b = o := by rw [e b n]; exact h
theorem But.of {d b : Addr} {H H' : Hp} {o u : HO} (e : But d H H') (hd : H d = some u) (h : H b = some o) (n : o ≠ u) : H' b = some o := e.at (ne_of h hd n) h
def nwT (xs : List V) (H : Hp) (Q : VK) : Prop := xs.length ≤ sizeLine ∧ ∀ p, H p = none → Q (.ref p) (upd H p (.tup xs))
def nwL (xs : List V) (H : Hp) (Q : VK) : Prop := xs.length ≤ sizeLine ∧ ∀ p, H p = none → Q (.ref p) (upd H p (.lst xs))
section
variable {D : Ends} {σ : St} {H : Hp} {Q : VK} {K : PySem.W.Frag}
theorem x_seq {t u : TS} (h : t { D with nx := u D } σ H) : tSeq t u D σ H := h
theorem x_seqA {te : TE} {g : TG} {u : TS} (h : te σ H fun x H1 => g x σ H1 (u D)) : tSeq (tAsg te g) u D σ H := h
theorem x_seqD {te : TE} {u : TS} (h : te σ H fun _ H1 => u D σ H1) : tSeq (tDrop te) u D σ H := h
theorem x_seqF {wi : TI} {g : TG} {tb u : TS} (h : tFor wi g tb { D with nx := u D } σ H) : tSeq (tFor wi g tb) u D σ H := h
theorem x_seqM {ta tv : TE} {f : Str} {u : TS} (h : sFld K ta tv f { D with nx := u D } σ H) : tSeq (sFld K ta tv f) u D σ H := h
theorem x_seqG {c : TT} {te : TE} {u : TS} (h : c σ H fun b H1 => if b = true then te σ H1 D.rt else u D σ H1) : tSeq (tIfS c (tRet te) tNext) u D σ H := h

theorem x_cut (I : St → Hp → Prop) {t u : TS} (h2 : ∀ σ' H', I σ' H' → u D σ' H') (h : ∀ N : St → Hp → Prop, (∀ σ' H', I σ' H' → N σ' H') → t { D with nx := N } σ H) : tSeq t u D σ H := h _ h2
theorem x_next (h : D.nx σ H) : tNext D σ H := h
theorem x_ret {te : TE} (h : te σ H D.rt) : tRet te D σ H := h
theorem x_drop {te : TE} (h : te σ H fun _ H1 => D.nx σ H1) : tDrop te D σ H := h
theorem x_asg {te : TE} {g : TG} (h : te σ H fun x H1 => g x σ H1 D.nx) : tAsg te g D σ H := h
theorem x_ifs {c : TT} {t u : TS} (h : c σ H fun b H1 => if b = true then t D σ H1 else u D σ H1) : tIfS c t u D σ H := h
theorem x_name {i : Nat} {v : V} {R : St → Hp → Prop} (h : R (σ.set i (some v)) H) : gName i v σ H R := h
theorem x_gnil {R : St → Hp → Prop} (h : R σ H) : gNil [] σ H R := ⟨rfl, h⟩
theorem x_gcons {t : TG} {u : TGs} {v : V} {r : List V} {R : St → Hp → Prop} (h : t v σ H fun σ' H' => u r σ' H' R) : gCons t u (v :: r) σ H R := ⟨v, r, rfl, h⟩
theorem x_gtup {n : Nat} {t : TGs} {a : Addr} {xs : List V} {R : St → Hp → Prop} (h1 : SqT K H a xs) (h2 : xs.length = n) (h : t xs σ H R) : gTup K n t (.ref a) σ H R := ⟨a, xs, rfl, h1, h2, h⟩
theorem x_var {i : Nat} {v : V} (h1 : σ[i]? = some (some v)) (h : Q v H) : tVar i σ H Q := ⟨v, h1, h⟩
theorem x_c {v : V} (h : Q v H) : tC v σ H Q := h
theorem x_op {r : R2} {ta tb : TE} (h : ta σ H fun x H1 => tb σ H1 fun y H2 => r x y H2 Q) : tOp r ta tb σ H Q := h
theorem x_un {r : V → Hp → VK → Prop} {ta : TE} (h : ta σ H fun x H1 => r x H1 Q) : tUn r ta σ H Q := h
theorem x_I0 {g : Int → Int → V} {i j : Int} (h : Q (g i j) H) : rI0 g (.int i) (.int j) H Q := ⟨i, j, rfl, rfl, h⟩
theorem x_I {C : Int → Int → Prop} {g : Int → Int → V} {i j : Int} (hc : C i j) (h : Q (g i j) H) : rI C g (.int i) (.int j) H Q := ⟨i, j, rfl, rfl, hc, h⟩
theorem x_U {g : Int → V} {i : Int} (h : Q (g i) H) : rU g (.int i) H Q := ⟨i, rfl, h⟩
theorem decI (i j : Int) : decide (V.int i = V.int j) = decide (i = j) := by
  by_cases h : i = j
  · subst h; rw [decide_eq_true rfl, decide_eq_true rfl]
  · rw [decide_eq_false h, decide_eq_false (fun e => h (V.int.inj e))]
theorem decS (i j : Str) : decide (V.str i = V.str j) = decide (i = j) := by
  by_cases h : i = j
  · subst h; rw [decide_eq_true rfl, decide_eq_true rfl]
  · rw [decide_eq_false h, decide_eq_false (fun e => h (V.str.inj e))]
theorem x_eqI {i j : Int} (h : Q (.bl (decide (i = j))) H) : rEq (.int i) (.int j) H Q := ⟨rfl, by rw [decI]; exact h⟩
theorem x_neI {i j : Int} (h : Q (.bl (!decide (i = j))) H) : rNe (.int i) (.int j) H Q := ⟨rfl, by rw [decI]; exact h⟩
theorem x_eqS {i j : Str} (h : Q (.bl (decide (i = j))) H) : rEq (.str i) (.str j) H Q := ⟨rfl, by rw [decS]; exact h⟩
theorem x_neS {i j : Str} (h : Q (.bl (!decide (i = j))) H) : rNe (.str i) (.str j) H Q := ⟨rfl, by rw [decS]; exact h⟩
theorem x_test {t : TE} {R : Bool → Hp → Prop} (h : t σ H fun x H' => ∃ k, x = .bl k ∧ R k H') : tTest t σ H R := h
theorem x_tru {t : TE} {R : Bool → Hp → Prop} (h : t σ H fun x H' => ∃ k, TruV K x H' k ∧ R k H') : tTru K t σ H R := h
theorem x_exbl {c : Bool} {P : Bool → Prop} (h : P c) : ∃ k, V.bl c = .bl k ∧ P k := ⟨c, rfl, h⟩
theorem x_extru {c : Bool} {P : Bool → Prop} (h : P c) : ∃ k, TruV K (.bl c) H k ∧ P k := ⟨c, rfl, h⟩
theorem x_and {t u : TT} {R : Bool → Hp → Prop} (h : t σ H fun c H1 => if c = true then u σ H1 R else R false H1) : tAnd t u σ H R := h
theorem x_or {t u : TT} {R : Bool → Hp → Prop} (h : t σ H fun c H1 => if c = true then R true H1 else u σ H1 R) : tOr t u σ H R := h
theorem x_not {t : TT} {R : Bool → Hp → Prop} (h : t σ H fun c H1 => R (!c) H1) : tNot t σ H R := h
theorem x_andV {ta tb : TE} (h : ta σ H fun x H1 => ∃ c, x = .bl c ∧ if c = true then tb σ H1 Q else Q (.bl false) H1) : tAndV ta tb σ H Q := h
theorem x_orV {ta tb : TE} (h : ta σ H fun x H1 => ∃ c, x = .bl c ∧ if c = true then Q (.bl true) H1 else tb σ H1 Q) : tOrV ta tb σ H Q := h
theorem x_notV {ta : TE} (h : ta σ H fun x H1 => ∃ c, x = .bl c ∧ Q (.bl (!c)) H1) : tNotV ta σ H Q := h
theorem x_ife {t : TT} {ta tb : TE} (h : t σ H fun c H1 => if c = true then ta σ H1 Q else tb σ H1 Q) : tIf t ta tb σ H Q := h
theorem x_nil {R : List V → Hp → Prop} (h : R [] H) : tNil σ H R := h
theorem x_cons {ta : TE} {tr : TA} {R : List V → Hp → Prop} (h : ta σ H fun x H1 => tr σ H1 fun xs H2 => R (x :: xs) H2) : tCons ta tr σ H R := h
theorem x_tup {t : TA} (h : t σ H fun xs H1 => nwT xs H1 Q) : tTup t σ H Q := h
theorem x_lst {t : TA} (h : t σ H fun xs H1 => nwL xs H1 Q) : tLst t σ H Q := h
theorem x_nwT {xs : List V} (hl : xs.length ≤ sizeLine) (h : ∀ p H', H p = none → Same H H' → H' p = some (.tup xs) → Q (.ref p) H') : nwT xs H Q := ⟨hl, fun p hp => h p _ hp (same_upd hp) upd_same⟩
theorem x_nwL {xs : List V} (hl : xs.length ≤ sizeLine) (h : ∀ p H', H p = none → Same H H' → H' p = some (.lst xs) → Q (.ref p) H') : nwL xs H Q := ⟨hl, fun p hp => h p _ hp (same_upd hp) upd_same⟩
theorem x_dnew (h : ∀ p H', H p = none → Same H H' → H' p = some (.dK (dI [])) → Q (.ref p) H') : tDNewK σ H Q := fun p hp => h p _ hp (same_upd hp) upd_same
theorem x_call {sp : Sp} {dvs : List V} {E : XK} {t : TA} (h : t σ H fun vs H1 => sp (vs ++ dvs) H1 Q E) : tCall sp dvs E t σ H Q := h
theorem x_cb {r : List V → Hp → VK → Prop} {t : TA} (h : t σ H fun vs H1 => r vs H1 Q) : tCB r t σ H Q := h
theorem x_sl {r : V → Option Int → Option Int → Hp → VK → Prop} {te : TE} {tl th : TO} (h : te σ H fun x H1 => tl σ H1 fun l H2 => th σ H2 fun u H3 => r x l u H3 Q) : tSl r te tl th σ H Q := h
theorem x_nopart {R : Option Int → Hp → Prop} (h : R none H) : tNoPart σ H R := h
theorem x_part {t : TE} {R : Option Int → Hp → Prop} (h : t σ H fun x H1 => ∃ i, x = .int i ∧ R (some i) H1) : tPart t σ H R := h
theorem x_exint {c : Int} {P : Int → Prop} (h : P c) : ∃ k, V.int c = .int k ∧ P k := ⟨c, rfl, h⟩
theorem x_slL {a : Addr} {xs : List V} {lo hi : Option Int} (h1 : SqL K H a xs) (h : ∀ p H', H p = none → Same H H' → H' p = some (.lst (cutV xs lo hi)) → Q (.ref p) H') : rSlL K (.ref a) lo hi H Q := ⟨a, xs, rfl, h1, fun p hp => h p _ hp (same_upd hp) upd_same⟩
theorem x_ixL {a : Addr} {xs : List V} {i : Int} {v : V} (h1 : SqL K H a xs) (h2 : atI xs i = some v) (h : Q v H) : rIxL K (.ref a) (.int i) H Q := ⟨a, xs, i, v, rfl, rfl, h1, h2, h⟩
theorem x_ixT {a : Addr} {xs : List V} {i : Int} {v : V} (h1 : SqT K H a xs) (h2 : atI xs i = some v) (h : Q v H) : rIxT K (.ref a) (.int i) H Q := ⟨a, xs, i, v, rfl, rfl, h1, h2, h⟩

theorem x_dget {td ty : TE} (h : td σ H fun x H1 => ty σ H1 fun y H2 => ∃ a v, x = .ref a ∧ DGet H2 a y (some v) ∧ Q v H2) : tDGet td ty σ H Q := h
theorem x_exdg {d : Addr} {m : List (Int × Int)} {k n : Int} {P : V → Prop} (hd : Rd H d (.dK (dI m))) (hk : lkI m k = some n) (h : P (.int n)) : ∃ a v, V.ref d = .ref a ∧ DGet H a (.int k) (some v) ∧ P v :=
  ⟨d, .int n, rfl, .inl ⟨_, Sum.inl k, hd, rfl, by rw [dI_val, hk]; rfl⟩, h⟩
theorem x_dget2 {td ty tx : TE} (h : td σ H fun x H1 => ∃ a, x = .ref a ∧ IsD H1 a ∧ ty σ H1 fun y H2 => tx σ H2 fun z H3 => ∃ o, DGet H3 a y o ∧ Q (o.getD z) H3) : tDGet2 td ty tx σ H Q := h
theorem x_din {td ty : TE} (h : ty σ H fun y H1 => td σ H1 fun x H2 => ∃ a o, x = .ref a ∧ DGet H2 a y o ∧ Q (.bl o.isSome) H2) : tDIn ty td σ H Q := h
theorem x_dput {td ty tv : TE} (h : tv σ H fun v H1 => td σ H1 fun x H2 => ty σ H2 fun y H3 => ∃ a H4, x = .ref a ∧ DPut H3 a y v H4 ∧ D.nx σ H4) : sDPut td ty tv D σ H := h
theorem x_exdput {d : Addr} {m : List (Int × Int)} {k n : Int} {P : Hp → Prop} (hd : H d = some (.dK (dI m))) (nd : (m.map (·.1)).Nodup) (hl : m.length < sizeLine) (h : ∀ H2, But d H H2 → H2 d = some (.dK (dI (putI m k n))) → P H2) : ∃ a H4, V.ref d = .ref a ∧ DPut H a (.int k) (.int n) H4 ∧ P H4 :=
  ⟨d, _, rfl, .inl ⟨_, Sum.inl k, hd, rfl, by rw [dI_len]; exact hl, rfl⟩, h _ .upd (by rw [upd_same, dI_put m k n nd])⟩
theorem x_for {wi : TI} {g : TG} {tb : TS} (h : wi σ H fun J H1 => ∃ W : Nat → Nat → St → Hp → Prop, (∃ m, W 0 m σ H1) ∧ ∀ i m σ H, W i m σ H →
  (J.stop i H ∧ D.nx σ H) ∨ (J.go i H ∧ ∃ N : St → Hp → Prop, (∀ σ' H', N σ' H' → ∃ m', m' < m ∧ W (i + 1) m' σ' H') ∧ ∀ x H', J.yld i H x H' → g x σ H' fun σ2 H2 => tb { D with nx := N, ct := N, bk := D.nx } σ2 H2)) : tFor wi g tb D σ H := h
theorem x_ilist {tl : TE} {R : It → Hp → Prop} (h : tl σ H fun x H1 => ∃ a, x = .ref a ∧ (∃ xs, SqL K H1 a xs) ∧ R (Itl K a) H1) : iList K tl σ H R := h
theorem x_exil {a : Addr} {xs : List V} {P : Addr → Prop} (hd : SqL K H a xs) (h : P a) : ∃ b, V.ref a = .ref b ∧ (∃ xs, SqL K H b xs) ∧ P b := ⟨a, rfl, ⟨xs, hd⟩, h⟩
theorem x_itup {tl : TE} {R : It → Hp → Prop} (h : tl σ H fun x H1 => ∃ a, x = .ref a ∧ (∃ xs, SqT K H1 a xs) ∧ R (Itt K a) H1) : iTup K tl σ H R := h
theorem x_exit {a : Addr} {xs : List V} {P : Addr → Prop} (hd : SqT K H a xs) (h : P a) : ∃ b, V.ref a = .ref b ∧ (∃ xs, SqT K H b xs) ∧ P b := ⟨a, rfl, ⟨xs, hd⟩, h⟩
theorem x_ir1 {ta : TA} {R : It → Hp → Prop} (h : ta σ H fun vs H1 => ∃ j : Int, vs = [.int j] ∧ -(2 ^ 62) ≤ j ∧ j < 2 ^ 62 ∧ R (Itr 0 j.toNat) H1) : iRng1 ta σ H R := h
theorem x_bm {T : String} {r : V → List V → Hp → VK → Prop} {to : TE} {t : TA} (h : to σ H fun x H1 => tyV K T x H1 ∧ t σ H1 fun xs H2 => r x xs H2 Q) : tBM K T r to t σ H Q := h
theorem x_tyl {a : Addr} {xs : List V} {P : Prop} (hd : H a = some (.lst xs)) (h : P) : tyV K "list" (.ref a) H ∧ P := ⟨.inl ⟨rfl, _, SqL.of hd⟩, h⟩
theorem x_append {a : Addr} {xs : List V} {y : V} (hd : H a = some (.lst xs)) (hl : xs.length < sizeLine) (h : ∀ H2, But a H H2 → H2 a = some (.lst (xs ++ [y])) → Q .non H2) : rAppend (.ref a) [y] H Q := ⟨a, xs, y, rfl, rfl, hd, hl, h _ .upd upd_same⟩
theorem x_comp {src : List (Option Nat)} {wi : TI} {g : TG} {tt : TT} {te : TE} (h : wi σ H fun J H1 => ∀ D, H1 D = none → ∃ W : Nat → Nat → St → Hp → Prop, (∃ m, W 0 m (blkSt src σ) (upd H1 D (.lst []))) ∧
  ∀ i m σ' H', W i m σ' H' → (J.stop i H' ∧ Q (.ref D) H') ∨ (J.go i H' ∧ ∃ N : St → Hp → Prop, (∀ σ2 H2, N σ2 H2 → ∃ m', m' < m ∧ W (i + 1) m' σ2 H2) ∧
    ∀ x H'', J.yld i H' x H'' → cTurn g tt te D N x σ' H'')) : tComp src wi g tt te σ H Q := h
end
theorem iteNT {A B : Prop} (h : B) : if (!true) = true then A else B := h
theorem iteNF {A B : Prop} (h : A) : if (!false) = true then A else B := h
end L2

set_option Elab.async false
set_option linter.all false
set_option maxRecDepth 100000
namespace L2
open PySem PySem.Spec PyProof.Rows
section
variable {X : Cx} {K : PySem.W.Frag}
theorem ix_tupK (hK : X.K = K) : IxR X (rIxT K) := by subst hK; exact ix_tup
theorem ix_listK (hK : X.K = K) : IxR X (rIxL K) := by subst hK; exact ix_list
theorem sl_listK (hK : X.K = K) : SlR X (rSlL K) := by subst hK; exact sl_list
theorem sl_tupK (hK : X.K = K) : SlR X (rSlT K) := by subst hK; exact sl_tup
theorem op_eqK (hK : X.K = K) (hu : X.A.units + 64 < cLine) : OpR X (compareOp .Eq) (rEqP K) := by subst hK; exact op_eqDl hu
theorem op_neK (hK : X.K = K) (hu : X.A.units + 64 < cLine) : OpR X (compareOp .NotEq) (rNeP K) := by subst hK; exact op_neDl hu
theorem op_catTK (hK : X.K = K) : OpR X (binaryOp .Add) (rCatT K) := by subst hK; exact op_catT
def rLen (K : PySem.W.Frag) : List V → Hp → VK → Prop := fun xs H Q => ∃ p ys, xs = [.ref p] ∧ (SqL K H p ys ∨ SqT K H p ys) ∧ Q (.int ys.length) H
theorem call_lenK (hK : X.K = K) : CallR X (.builtin "len") (rLen K) := by subst hK; exact call_len_seq
def rListOf (K : PySem.W.Frag) : List V → Hp → VK → Prop := fun xs H Q => ∃ p ys, xs = [.ref p] ∧ (SqL K H p ys ∨ SqT K H p ys) ∧ ∀ l, H l = none → Q (.ref l) (upd H l (.lst ys))
theorem call_listK (hK : X.K = K) : CallR X (.type "list") (rListOf K) := by subst hK; exact call_list_of
def rTupleOf (K : PySem.W.Frag) : List V → Hp → VK → Prop := fun xs H Q => ∃ p ys, xs = [.ref p] ∧ ((SqL K H p ys ∧ ∀ l, H l = none → Q (.ref l) (upd H l (.tup ys))) ∨ (SqT K H p ys ∧ Q (.ref p) H))
theorem call_tupleK (hK : X.K = K) : CallR X (.type "tuple") (rTupleOf K) := by subst hK; exact call_tuple_of
theorem pg_tupK {es : List Expr} {k : Nat} {t : TGs} {n : Nat} {pos : Pos} (hK : X.K = K) (hc : X.calm = true) (h : PGs X es t) (hn : (assignEach es X.env).length = n := by rfl) (hst : (assignEach es X.env).findIdx? (·.1) = none := by rfl) : PG X (.Tuple es k pos) (gTup K n t) := by subst hK; exact pg_tup hc h hn hst
theorem pi_listK {tg l : Expr} {tl : TE} (hK : X.K = K) (hl : PE X l tl) : PI X tg l (iList K tl) := by subst hK; exact pi_list hl
theorem pi_tupK {tg l : Expr} {tl : TE} (hK : X.K = K) (hl : PE X l tl) : PI X tg l (iTup K tl) := by subst hK; exact pi_tup hl
theorem pi_seqK {tg l : Expr} {tl : TE} (hK : X.K = K) (hl : PE X l tl) : PI X tg l (iSeq K tl) := by subst hK; exact pi_seq hl
theorem pt_nameK {x : Str} {pos : Pos} {t : TE} (hK : X.K = K) (h : PE X (.Name x pos) t) : PT X (.Name x pos) (tTru K t) := by
  subst hK
  exact pt_truth h fun _ => rfl
theorem pe_appendK {o e : Expr} {to : TE} {t : TA} {apos cpos : Pos} (hK : X.K = K) (h : PE X (.Call (.Attribute o "append" apos) [e] [] cpos) (tBM X.K "list" rAppend to t)) : PE X (.Call (.Attribute o "append" apos) [e] [] cpos) (tBM K "list" rAppend to t) := by subst hK; exact h
end
section
variable {σ : St} {H : Hp} {Q : VK} {K : PySem.W.Frag}
theorem x_rlistL {a : Addr} {xs : List V} (hd : SqL K H a xs) (h : ∀ p H', H p = none → Same H H' → H' p = some (.lst xs) → Q (.ref p) H') : rListOf K [.ref a] H Q := ⟨a, xs, rfl, .inl hd, fun p hp => h p _ hp (same_upd hp) upd_same⟩
theorem x_rtupL {a : Addr} {xs : List V} (hd : SqL K H a xs) (h : ∀ p H', H p = none → Same H H' → H' p = some (.tup xs) → Q (.ref p) H') : rTupleOf K [.ref a] H Q := ⟨a, xs, rfl, .inl ⟨hd, fun p hp => h p _ hp (same_upd hp) upd_same⟩⟩
end
end L2

set_option Elab.async false
set_option linter.all false
set_option maxRecDepth 100000
namespace L2
open PySem PySem.Spec PyProof.Rows
theorem cut_ints (ns : List Int) (lo hi : Option Int) : ∃ ms : List Int, cutV (ns.map V.int) lo hi = ms.map V.int ∧ ms.length ≤ ns.length := by
  refine ⟨(ns.drop (HT.sIx (ns.map V.int).length 0 lo)).take (HT.sIx (ns.map V.int).length (ns.map V.int).length hi - HT.sIx (ns.map V.int).length 0 lo), ?_, ?_⟩
  · unfold cutV
    rw [List.map_take, List.map_drop]
  · rw [List.length_take, List.length_drop]
    omega
theorem same_rd {H H' : Hp} {a : Addr} {u : HO} (s : Same H H') (h : Rd H a u) : Rd H' a u := by
  rcases h with h | ⟨o, h⟩
  · exact .inl (s _ _ h)
  · exact .inr ⟨o, s _ _ h⟩
theorem take_get {α : Type} {ls : List α} {i : Nat} {n : α} (h : ls[i]? = some n) : ls.take (i + 1) = ls.take i ++ [n] := by
  rw [List.take_succ, h]
  rfl
theorem int_get {ms : List Int} {i : Nat} {x : V} (h : (ms.map V.int)[i]? = some x) : ∃ n : Int, ms[i]? = some n ∧ x = .int n := by
  rw [List.getElem?_map] at h
  cases e : ms[i]? with
  | none => rw [e] at h; cases h
  | some n => rw [e] at h; exact ⟨n, rfl, (Option.some.inj h).symm⟩
theorem atI_int {α : Type} {xs : List α} {i : Int} {v : α} (h0 : 0 ≤ i) (h : xs[i.toNat]? = some v) : atI xs i = some v := by
  obtain ⟨n, rfl⟩ := Int.eq_ofNat_of_zero_le h0
  exact atI_nat h
def SmH (H H' : Hp) : Prop := ∀ a xs, H a = some (.tup xs) → H' a = some (.tup xs)
theorem SmH.refl (H : Hp) : SmH H H := fun _ _ h => h
theorem SmH.trans {H1 H2 H3 : Hp} (a : SmH H1 H2) (b : SmH H2 H3) : SmH H1 H3 := fun _ _ h => b _ _ (a _ _ h)
theorem SmH.same {H H' : Hp} (e : Same H H') : SmH H H' := fun _ _ h => e _ _ h
theorem SmH.but {H H' : Hp} {l : Addr} {o : HO} (e : But l H H') (h : H l = some o) (n : ∀ xs, o ≠ .tup xs) : SmH H H' := fun a xs z => e.of h z (Ne.symm (n xs))
section
variable {σ : St} {H : Hp} {Q : VK} {K : PySem.W.Frag} {X : Cx}
theorem x_rlenQ {a : Addr} {xs : List V} (hd : SqL K H a xs ∨ SqT K H a xs) (h : Q (.int xs.length) H) : rLen K [.ref a] H Q := ⟨a, xs, rfl, hd, h⟩
end
theorem x_nonand {P : Prop} (h : P) : V.non = V.non ∧ P := ⟨rfl, h⟩
end L2

set_option Elab.async false
set_option linter.all false
set_option maxRecDepth 100000
namespace L2
open PySem PySem.Spec PyProof.Rows
section
variable {X : Cx} {CX : CXT} {k : Nat} {f C : Addr} {fd : FuncData} {ps : List Str} {sp : Sp} {dvs : List V} {ds : List Value} {E : XK} {x m : Str} {p pos apos : Pos} {e o : Expr} {es : List Expr} {ta : TE} {t : TA}

structure ClsFn (K : PySem.W.Frag) (C : Addr) (m : Str) (f : Addr) : Prop where
  ga : PySem.W.specialIn K (.ref C) "__getattribute__" = some (some (.builtin "type.__getattribute__"))
  rd : PySem.W.readsIn K C (.type "type") = true
  at_ : PySem.W.findCls K (.ref C) (.type "type") m = some (.val (.ref f))
  hd : PySem.W.handedIn (.ref f) = true
  kp : PySem.W.keepIn K (.ref f) = true
theorem pe_clsfn {pl : Sem Bool} (hg : Gl X x) (hm : X.mg x = some (.ref C)) (c : ClsFn X.K C m f) (F : FnOk X.prog X.w X.K X.mg X.base CX0 k f fd ps sp) (hb : Binds X.K fd ps []) (hr : Room k X.A) (ha : PA X (e :: es) t)
    (hdb : (x == ("__debug__" : Str)) = false := by decide)
    (hst : starEach (e :: es) X.env = (false, eval e X.env) :: starEach es X.env := by rfl) (hpl : (backTo pos (starEach es X.env)).any (·.1) = false := by rfl)
    (ht : eval (.Call (.Attribute (.Name x p) m apos) (e :: es) [] pos) X.env = (do
      let ov ← eval (.Name x p) X.env
      standAt apos.atName
      let (f, first) ← holding [ov] (getMethod ov m pl)
      callWith pos f first (backTo pos (starEach (e :: es) X.env)) (backToKw pos (keywordEach [] X.env))) := by rfl) :
    PE X (.Call (.Attribute (.Name x p) m apos) (e :: es) [] pos) (tCall sp [] E0 t) := by
  intro pins s σ H Q I h
  refine PySem.W.methodCall_KW (pl := pl) (thn (pe_glob (v := .ref C) hg hm rfl hdb pins s σ H (fun v H1 => v = .ref C ∧ t σ H1 fun vs H2 => sp (vs ++ []) H2 Q E0) I ⟨rfl, h⟩) fun u s1 ⟨x, H1, I1, rx, ex, q⟩ => ?_) ht
  subst ex
  obtain rfl : u = Value.ref C := rx
  refine PySem.W.method_cls I1.kIn c.ga (PySem.W.cls_value I1.kIn c.rd c.at_ c.hd ?_)
  refine PySem.W.callWith_K (first := []) (h₀ := X.base) I.ok.mod.kin c.kp (thn (ha pos pins _ σ H1 _ (I1.tok _) q) fun us s2 ⟨vs, H2, I2, r, q2⟩ => ⟨I2.kIn, ?_⟩) hst hpl
  exact run_fn (us := us) (vs := vs) F hr hb .nil pass0 I2 r q2

def MOk (P : Program) (w : World) (K : PySem.W.Frag) (mg : Str → Option Value) (base : Heap) (k : Nat) (m : Str) (ms : List (Addr × Sp)) : Prop :=
  ∀ cs ∈ ms, ∃ f fd ps, Cls K cs.1 ∧ Meth K cs.1 m f ∧ FnOk P w K mg base CX0 k f fd ps cs.2 ∧ Binds K fd ps []
theorem MOk.nil {P : Program} {w : World} {K : PySem.W.Frag} {mg : Str → Option Value} {base : Heap} : MOk P w K mg base k m [] := fun _ h => nomatch h
theorem MOk.cons {P : Program} {w : World} {K : PySem.W.Frag} {mg : Str → Option Value} {base : Heap} {ms : List (Addr × Sp)} (c : Cls K C) (hm : Meth K C m f) (F : FnOk P w K mg base CX0 k f fd ps sp) (hb : Binds K fd ps []) (r : MOk P w K mg base k m ms) : MOk P w K mg base k m ((C, sp) :: ms) := by
  intro cs h
  rcases List.mem_cons.mp h with rfl | h
  · exact ⟨f, fd, ps, c, hm, F, hb⟩
  · exact r cs h
def mtS (ms : List (Addr × Sp)) (m : Str) (t : TA) (σ : St) (x : V) (H : Hp) (Q : VK) : Prop :=
  ∃ cs ∈ ms, ∃ a dx fs, x = .ref a ∧ H a = some (.ins cs.1 dx fs) ∧ fs.lookup m = none ∧ t σ H fun vs H2 => cs.2 (x :: (vs ++ [])) H2 Q E0
def tMethS (ms : List (Addr × Sp)) (m : Str) (ta : TE) (t : TA) : TE := fun σ H Q => ta σ H fun x H1 => mtS ms m t σ x H1 Q
theorem pe_methS {pl : Sem Bool} {ms : List (Addr × Sp)} (M : MOk X.prog X.w X.K X.mg X.base k m ms) (he : PE X o ta) (hr : Room k X.A) (ha : PA X (e :: es) t)
    (hst : starEach (e :: es) X.env = (false, eval e X.env) :: starEach es X.env := by rfl) (hpl : (backTo pos (starEach es X.env)).any (·.1) = false := by rfl)
    (ht : eval (.Call (.Attribute o m apos) (e :: es) [] pos) X.env = (do
      let ov ← eval o X.env
      standAt apos.atName
      let (f, first) ← holding [ov] (getMethod ov m pl)
      callWith pos f first (backTo pos (starEach (e :: es) X.env)) (backToKw pos (keywordEach [] X.env))) := by rfl) :
    PE X (.Call (.Attribute o m apos) (e :: es) [] pos) (tMethS ms m ta t) := by
  intro pins s σ H Q I h
  refine PySem.W.methodCall_KW (pl := pl) (thn (he pins s σ H _ I h) fun u s1 ⟨x, H1, I1, rx, cs, hcs, a, dx, fs, ex, ea, l, q⟩ => ?_) ht
  subst ex
  obtain rfl : u = Value.ref a := rx
  obtain ⟨f, fd, ps, c, hm, F, hb⟩ := M cs hcs
  refine getmeth_ok I1 ea c hm l ?_
  refine PySem.W.callWith_K (first := [.ref a]) (h₀ := X.base) I.ok.mod.kin hm.kp (thn (ha pos pins s1 σ H1 _ I1 q) fun us s2 ⟨vs, H2, I2, r, q2⟩ => ⟨I2.kIn, ?_⟩) hst hpl
  exact run_fn (us := .ref a :: us) (vs := .ref a :: vs) F hr hb .nil pass0 I2 (.cons rfl r) q2
theorem pe_methS0 {pl : Sem Bool} {ms : List (Addr × Sp)} (M : MOk X.prog X.w X.K X.mg X.base k m ms) (he : PE X o ta) (hr : Room k X.A)
    (ht : eval (.Call (.Attribute o m apos) [] [] pos) X.env = (do
      let ov ← eval o X.env
      standAt apos.atName
      let (f, first) ← holding [ov] (getMethod ov m pl)
      callWith pos f first (backTo pos (starEach [] X.env)) (backToKw pos (keywordEach [] X.env))) := by rfl) :
    PE X (.Call (.Attribute o m apos) [] [] pos) (tMethS ms m ta tNil) := by
  intro pins s σ H Q I h
  refine PySem.W.methodCall_KW (pl := pl) (thn (he pins s σ H _ I h) fun u s1 ⟨x, H1, I1, rx, cs, hcs, a, dx, fs, ex, ea, l, q⟩ => ?_) ht
  subst ex
  obtain rfl : u = Value.ref a := rx
  obtain ⟨f, fd, ps, c, hm, F, hb⟩ := M cs hcs
  refine getmeth_ok I1 ea c hm l ?_
  exact PySem.W.callWith_K0 (first := [.ref a]) I1.kIn hm.kp (run_fn (us := [.ref a]) (vs := [.ref a]) F hr hb .nil pass0 I1 (.cons rfl .nil) q)
end
section
variable {X : Cx} {K : PySem.W.Frag}
theorem pe_fldK {e : Expr} {ta : TE} {f : Str} {pos : Pos} (hK : X.K = K) (he : PE X e ta) (hb : attributeBase e f X.env (eval e X.env) = eval e X.env) : PE X (.Attribute e f pos) (tFld K ta f) := by subst hK; exact pe_fld he hb
theorem ps_fldK {o value : Expr} {ta tv : TE} {f : Str} {pos pos' : Pos} (hK : X.K = K) (ha : PE X o ta) (hv : PE X value tv) (hs : swapsWith value (some (.Attribute o f pos')) pos.line X.env = pure false) : PS X (.Assign [.Attribute o f pos'] value pos) (sFld K ta tv f) := by subst hK; exact ps_fld ha hv hs
end
section
variable {D : Ends} {σ : St} {H : Hp} {Q : VK} {K : PySem.W.Frag}
def fldK (K : PySem.W.Frag) (f : Str) (x : V) (H : Hp) (Q : VK) : Prop := ∃ a C dx fs v, x = .ref a ∧ H a = some (.ins C dx fs) ∧ Cls K C ∧ NoAttr K C f ∧ fs.lookup f = some v ∧ Q v H
theorem x_fld {ta : TE} {f : Str} (h : ta σ H fun x H1 => fldK K f x H1 Q) : tFld K ta f σ H Q := h
theorem x_fldk {f : Str} {a C dx : Addr} {fs : List (Str × V)} {v : V} (e : H a = some (.ins C dx fs)) (c : Cls K C) (n : NoAttr K C f) (l : fs.lookup f = some v) (h : Q v H) : fldK K f (.ref a) H Q := ⟨a, C, dx, fs, v, rfl, e, c, n, l, h⟩
def sfK (K : PySem.W.Frag) (f : Str) (y x : V) (H : Hp) (R : Hp → Prop) : Prop := ∃ a C dx fs, x = .ref a ∧ H a = some (.ins C dx fs) ∧ Cls K C ∧ NoAttr K C f ∧ fs.length < 1000 ∧ R (upd H a (.ins C dx (putF f y fs)))
theorem x_sfld {ta tv : TE} {f : Str} (h : tv σ H fun y H1 => ta σ H1 fun x H2 => sfK K f y x H2 fun H3 => D.nx σ H3) : sFld K ta tv f D σ H := h
theorem x_sfk {f : Str} {y : V} {a C dx : Addr} {fs : List (Str × V)} {R : Hp → Prop} (e : H a = some (.ins C dx fs)) (c : Cls K C) (n : NoAttr K C f) (hl : fs.length < 1000) (h : ∀ H2, But a H H2 → H2 a = some (.ins C dx (putF f y fs)) → R H2) : sfK K f y (.ref a) H R := ⟨a, C, dx, fs, rfl, e, c, n, hl, h _ .upd upd_same⟩
theorem x_methS {ms : List (Addr × Sp)} {m : Str} {ta : TE} {t : TA} (h : ta σ H fun x H1 => mtS ms m t σ x H1 Q) : tMethS ms m ta t σ H Q := h
theorem x_mtS0 {ms : List (Addr × Sp)} {m : Str} {t : TA} {C a dx : Addr} {sp : Sp} {fs : List (Str × V)} (e : H a = some (.ins C dx fs)) (l : fs.lookup m = none) (h : t σ H fun vs H2 => sp (.ref a :: (vs ++ [])) H2 Q E0) : mtS ((C, sp) :: ms) m t σ (.ref a) H Q :=
  ⟨(C, sp), List.mem_cons_self, a, dx, fs, rfl, e, l, h⟩
def mkK (C : Addr) (sp : Sp) (vs : List V) (H : Hp) (Q : VK) : Prop := ∀ x dx, H x = none → H dx = none → dx ≠ x → sp (.ref x :: (vs ++ [])) (upd (upd H dx (.own x)) x (.ins C dx [])) (fun v H2 => v = .non ∧ Q (.ref x) H2) E0
theorem x_make {C : Addr} {sp : Sp} {t : TA} (h : t σ H fun vs H1 => mkK C sp vs H1 Q) : tMake C sp [] E0 t σ H Q := h
theorem x_mk {C : Addr} {sp : Sp} {vs : List V} (h : ∀ x dx H', H x = none → Same H H' → H' x = some (.ins C dx []) → sp (.ref x :: (vs ++ [])) H' (fun v H2 => v = .non ∧ Q (.ref x) H2) E0) : mkK C sp vs H Q := by
  intro x dx nx ndx nex
  refine h x dx _ nx (fun b o e => ?_) upd_same
  rw [upd_ne (ne_of_none e nx), upd_ne (ne_of_none e ndx)]
  exact e
end
theorem x_nx {f b c : St → Hp → Prop} {r : VK} {σ : St} {H : Hp} (h : f σ H) : Ends.nx ⟨f, r, b, c⟩ σ H := h
theorem x_yes {σ : St} {H : Hp} {R : Bool → Hp → Prop} (h : R true H) : tYes σ H R := h
theorem x_turn {g : TG} {tt : TT} {te : TE} {D : Addr} {N : St → Hp → Prop} {x : V} {σ : St} {H : Hp} (h : g x σ H fun σ2 H2 => tt σ2 H2 fun b H3 => if b = true then te σ2 H3 fun y H4 => ∃ ys, H4 D = some (.lst ys) ∧ ys.length < sizeLine ∧ N σ2 (upd H4 D (.lst (ys ++ [y]))) else N σ2 H3) : cTurn g tt te D N x σ H := h
end L2

set_option Elab.async false
set_option linter.all false
set_option maxRecDepth 100000
namespace L2
open PySem PySem.Spec PyProof.Rows
theorem same_tup {K : PySem.W.Frag} {H H' : Hp} {a : Addr} {xs : List V} (e : Same H H') (h : SqT K H a xs) : SqT K H' a xs := by
  rcases h with (h | ⟨o, h⟩) | h
  · exact .inl (.inl (e _ _ h))
  · exact .inl (.inr ⟨o, e _ _ h⟩)
  · exact .inr h
structure Ck (m : List (Int × Int)) : Prop where
  nd : (m.map (·.1)).Nodup
  nn : ∀ p ∈ m, 0 ≤ p.2
  rg : ∀ p ∈ m, 0 ≤ p.1 ∧ p.1 < 63
def hs63 : List Int := (List.range 63).map fun (h : Nat) => (h : Int)
theorem mem_hs {k : Int} : k ∈ hs63 ↔ 0 ≤ k ∧ k < 63 := by
  unfold hs63
  rw [List.mem_map]
  constructor
  · rintro ⟨n, hn, rfl⟩
    have := List.mem_range.mp hn
    omega
  · rintro ⟨h0, h1⟩
    exact ⟨k.toNat, List.mem_range.mpr (by omega), by omega⟩
theorem nd_len {α : Type} [DecidableEq α] : ∀ {l m : List α}, l.Nodup → (∀ x ∈ l, x ∈ m) → l.length ≤ m.length
  | [], m, _, _ => Nat.zero_le _
  | x :: l, m, nd, sub => by
    rw [List.nodup_cons] at nd
    have hx := sub x List.mem_cons_self
    have pm := List.perm_cons_erase hx
    have := nd_len (l := l) (m := m.erase x) nd.2 fun y hy => (List.mem_erase_of_ne (show y ≠ x from fun z => nd.1 (z ▸ hy))).mpr (sub y (List.mem_cons_of_mem _ hy))
    have q := pm.length_eq
    rw [List.length_cons] at q ⊢
    omega
theorem hs_len {l : List Int} (nd : l.Nodup) (h : ∀ k ∈ l, 0 ≤ k ∧ k < 63) : l.length < 64 := by
  have := nd_len nd (m := hs63) fun k hk => mem_hs.mpr (h k hk)
  unfold hs63 at this
  rw [List.length_map, List.length_range] at this
  omega
theorem Ck.keys {m : List (Int × Int)} (c : Ck m) : ∀ k ∈ m.map (·.1), 0 ≤ k ∧ k < 63 := fun k hk => by
  obtain ⟨p, hp, e⟩ := List.mem_map.mp hk
  rw [← e]
  exact c.rg p hp
theorem Ck.len {m : List (Int × Int)} (c : Ck m) : m.length < 64 := by
  have := hs_len c.nd c.keys
  rw [List.length_map] at this
  exact this
theorem Ck.nil : Ck [] := ⟨List.nodup_nil, (fun p hp => nomatch hp), (fun p hp => nomatch hp)⟩
theorem Ck.ct {m : List (Int × Int)} (c : Ck m) (k : Int) : 0 ≤ ct m k := by
  unfold L2.ct
  cases e : lkI m k with
  | none => exact Int.le_refl _
  | some v => exact c.nn _ (lk_mem e)
theorem ct_out {m : List (Int × Int)} {k : Int} (h : k ∉ m.map (·.1)) : ct m k = 0 := by
  unfold ct
  rw [lk_none h]
  rfl
theorem ct_in {m : List (Int × Int)} {k : Int} (h : ct m k ≠ 0) : k ∈ m.map (·.1) := by
  by_cases z : k ∈ m.map (·.1)
  · exact z
  · exact absurd (ct_out z) h
theorem lk_ct {m : List (Int × Int)} {k : Int} (h : k ∈ m.map (·.1)) : lkI m k = some (ct m k) := by
  obtain ⟨v, e⟩ := lk_some h
  unfold ct
  rw [e]
  rfl
theorem ct_of {m : List (Int × Int)} (nd : (m.map (·.1)).Nodup) {p : Int × Int} (h : p ∈ m) : ct m p.1 = p.2 := by
  unfold ct
  rw [lk_of (k := p.1) (v := p.2) nd h]
  rfl
theorem Ck.put {m : List (Int × Int)} (c : Ck m) {k v : Int} (h0 : 0 ≤ k) (h1 : k < 63) (hv : 0 ≤ v) : Ck (putI m k v) :=
  ⟨put_nd m k v c.nd, fun p hp => by
    rcases put_vals m k v p hp with z | z
    · rw [z]; exact hv
    · exact c.nn p z, fun p hp => by
    rcases put_vals m k v p hp with z | z
    · rw [z]; exact ⟨h0, h1⟩
    · exact c.rg p z⟩
theorem ct_put (m : List (Int × Int)) (k v j : Int) : ct (putI m k v) j = if j = k then v else ct m j := by
  unfold ct
  rw [lk_put]
  split <;> rfl

def cov (m n : List (Int × Int)) : Bool := (List.range 63).all fun (h : Nat) => decide (ct n h ≤ ct m h)
theorem cov_iff {m n : List (Int × Int)} (cm : Ck m) (cn : Ck n) : cov m n = true ↔ ∀ k, ct n k ≤ ct m k := by
  unfold cov
  rw [List.all_eq_true]
  constructor
  · intro h k
    by_cases hk : 0 ≤ k ∧ k < 63
    · have := of_decide_eq_true (h k.toNat (List.mem_range.mpr (by omega)))
      rw [show ((k.toNat : Nat) : Int) = k by omega] at this
      exact this
    · rw [ct_out (fun z => hk (cn.keys k z))]
      exact cm.ct k
  · intro h n _
    exact decide_eq_true (h n)

def posI (ps : List (Int × Int)) : List (Int × Int) := ps.filter fun p => decide (0 < p.2)
theorem pos_yes {ps : List (Int × Int)} {p : Int × Int} (h : 0 < p.2) : posI (ps ++ [p]) = posI ps ++ [p] := by
  unfold posI
  rw [List.filter_append, List.filter_cons, decide_eq_true h]
  rfl
theorem pos_no {ps : List (Int × Int)} {p : Int × Int} (h : ¬ 0 < p.2) : posI (ps ++ [p]) = posI ps := by
  unfold posI
  rw [List.filter_append, List.filter_cons, decide_eq_false h]
  exact List.append_nil _
theorem pos_nd {ps : List (Int × Int)} (h : (ps.map (·.1)).Nodup) : ((posI ps).map (·.1)).Nodup := by
  unfold posI
  exact h.sublist ((List.filter_sublist).map _)
theorem pos_len (ps : List (Int × Int)) : (posI ps).length ≤ ps.length := List.length_filter_le _ _

theorem two {m n : List (Int × Int)} {k : Int} : (∃ x ∈ [m, n], k ∈ x.map (·.1)) ↔ k ∈ m.map (·.1) ∨ k ∈ n.map (·.1) := by simp

theorem ct_getD (m : List (Int × Int)) (h : Int) : ((valV (dI m) (Sum.inl h : Key)).getD (.int 0)) = V.int (ct m h) := by
  rw [dI_val]
  unfold ct
  cases lkI m h <;> rfl


def prD (p : Int × Int) : PyData := .tuple [.int p.1, .int p.2]
theorem Prs.dps {K : PySem.W.Frag} {H : Hp} : ∀ {xs : List V} {ps : List (Int × Int)}, Prs H xs ps → Dps K H xs (ps.map prD)
  | _, _, .nil => .nil
  | _, _, .cons r t => by
    obtain ⟨a, rfl, h⟩ := r
    exact .cons (.tup (SqT.of h) (.cons (.int _) (.cons (.int _) .nil))) (Prs.dps t)
theorem prs_lay : ∀ ps : List (Int × Int), PyData.canLayAll0 (ps.map prD) = true
  | [] => rfl
  | p :: ps => by rw [List.map_cons, PyData.canLayAll0.eq_2, prs_lay ps]; rfl
theorem prs_dep : ∀ ps : List (Int × Int), PyData.depthAll (ps.map prD) ≤ 1
  | [] => by rw [List.map_nil, PyData.depthAll.eq_1]; omega
  | p :: ps => by
    have e : PyData.depthAll ((p :: ps).map prD) = max (prD p).depth (PyData.depthAll (ps.map prD)) := rfl
    rw [e]
    have := prs_dep ps
    have : (prD p).depth = 1 := rfl
    omega
theorem x_cat {H : Hp} {Q : VK} {a b : Addr} {xs zs : List V} (h1 : H a = some (.lst xs)) (h2 : H b = some (.lst zs)) (hl : xs.length + zs.length ≤ 1000) (h : ∀ p H', H p = none → Same H H' → H' p = some (.lst (xs ++ zs)) → Q (.ref p) H') : rCat (.ref a) (.ref b) H Q := ⟨a, b, xs, zs, rfl, rfl, h1, h2, Nat.le_of_lt (small1000 hl), fun p hp => h p _ hp (same_upd hp) upd_same⟩

end L2

set_option Elab.async false
set_option linter.all false
set_option maxRecDepth 100000
namespace L2
open PySem PySem.Spec PyProof.Rows

def dG (m : List (Int × V)) : List (Key × V) := m.map fun p => (Sum.inl p.1, p.2)
theorem dG_len (m : List (Int × V)) : (dG m).length = m.length := List.length_map ..
def lkG : List (Int × V) → Int → Option V
  | [], _ => none
  | p :: m, k => if p.1 = k then some p.2 else lkG m k
theorem dG_val : ∀ (m : List (Int × V)) (k : Int), valV (dG m) (Sum.inl k : Key) = lkG m k
  | [], _ => rfl
  | p :: m, k => by
    show valV ((Sum.inl p.1, p.2) :: dG m) (Sum.inl k) = _
    unfold lkG
    by_cases e : p.1 = k
    · rw [if_pos e, valV_pos (by rw [e])]
    · rw [if_neg e, valV_neg (fun z => e (Sum.inl.inj z)), dG_val m k]
def putG : List (Int × V) → Int → V → List (Int × V)
  | [], k, v => [(k, v)]
  | p :: m, k, v => if p.1 = k then (p.1, v) :: m else p :: putG m k v
theorem lkg_put : ∀ (m : List (Int × V)) (k : Int) (v : V) (j : Int), lkG (putG m k v) j = if j = k then some v else lkG m j
  | [], k, v, j => by
    show (if k = j then some v else none) = _
    by_cases e : j = k
    · rw [if_pos e, if_pos e.symm]
    · rw [if_neg e, if_neg (fun z => e z.symm)]
      rfl
  | p :: m, k, v, j => by
    show lkG (if p.1 = k then (p.1, v) :: m else p :: putG m k v) j = if j = k then some v else (if p.1 = j then some p.2 else lkG m j)
    by_cases e : p.1 = k
    · rw [if_pos e]
      show (if p.1 = j then some v else lkG m j) = _
      by_cases e2 : j = k
      · rw [if_pos e2, if_pos (e.trans e2.symm)]
      · rw [if_neg e2, if_neg (fun z => e2 (z.symm.trans e)), if_neg (fun z => e2 (z.symm.trans e))]
    · rw [if_neg e]
      show (if p.1 = j then some p.2 else lkG (putG m k v) j) = _
      rw [lkg_put m k v j]
      by_cases e2 : j = k
      · rw [if_pos e2, if_neg (fun z => e (z.trans e2)), if_pos e2]
      · rw [if_neg e2, if_neg e2]
theorem putg_len : ∀ (m : List (Int × V)) (k : Int) (v : V), (putG m k v).length ≤ m.length + 1
  | [], _, _ => Nat.le_refl _
  | p :: m, k, v => by
    show (if p.1 = k then (p.1, v) :: m else p :: putG m k v).length ≤ m.length + 1 + 1
    split
    · exact Nat.le_succ _
    · exact Nat.succ_le_succ (putg_len m k v)
theorem putg_keys : ∀ (m : List (Int × V)) (k : Int) (v : V) (x : Int), x ∈ (putG m k v).map (·.1) ↔ x = k ∨ x ∈ m.map (·.1)
  | [], k, v, x => by simp [putG]
  | p :: m, k, v, x => by
    show x ∈ (if p.1 = k then (p.1, v) :: m else p :: putG m k v).map (·.1) ↔ _
    by_cases e : p.1 = k
    · rw [if_pos e]
      simp only [List.map_cons, List.mem_cons]
      constructor
      · exact fun h => .inr h
      · rintro (h | h)
        · exact .inl (h.trans e.symm)
        · exact h
    · rw [if_neg e]
      simp only [List.map_cons, List.mem_cons]
      have := putg_keys m k v x
      constructor
      · rintro (h | h)
        · exact .inr (.inl h)
        · rcases this.mp h with h | h
          · exact .inl h
          · exact .inr (.inr h)
      · rintro (h | h | h)
        · exact .inr (this.mpr (.inl h))
        · exact .inl h
        · exact .inr (this.mpr (.inr h))
theorem putg_nd : ∀ (m : List (Int × V)) (k : Int) (v : V), (m.map (·.1)).Nodup → ((putG m k v).map (·.1)).Nodup
  | [], k, v, _ => by simp [putG]
  | p :: m, k, v, h => by
    show ((if p.1 = k then (p.1, v) :: m else p :: putG m k v).map (·.1)).Nodup
    rw [List.map_cons, List.nodup_cons] at h
    by_cases e : p.1 = k
    · rw [if_pos e, List.map_cons, List.nodup_cons]
      exact h
    · rw [if_neg e, List.map_cons, List.nodup_cons]
      refine ⟨fun z => ?_, putg_nd m k v h.2⟩
      rcases (putg_keys m k v p.1).mp z with z | z
      · exact e z
      · exact h.1 z
theorem dG_any (k : Int) : ∀ m : List (Int × V), ((dG m).any fun kv => decide (kv.1 = (Sum.inl k : Key))) = m.any fun p => decide (p.1 = k)
  | [] => rfl
  | p :: m => by
    show (decide ((Sum.inl p.1 : Key) = Sum.inl k) || (dG m).any _) = (decide (p.1 = k) || m.any _)
    rw [dG_any k m]
    congr 1
    rw [decide_eq_decide]
    exact ⟨fun h => Sum.inl.inj h, fun h => congrArg _ h⟩
theorem putg_new : ∀ (m : List (Int × V)) (k : Int) (v : V), (m.any fun p => decide (p.1 = k)) = false → putG m k v = m ++ [(k, v)]
  | [], _, _, _ => rfl
  | p :: m, k, v, h => by
    rw [List.any_cons, Bool.or_eq_false_iff] at h
    show (if p.1 = k then (p.1, v) :: m else p :: putG m k v) = _
    rw [if_neg (of_decide_eq_false h.1), putg_new m k v h.2]
    rfl
theorem putg_old : ∀ (m : List (Int × V)) (k : Int) (v : V), (m.map (·.1)).Nodup → (m.any fun p => decide (p.1 = k)) = true → putG m k v = m.map fun p => if p.1 = k then (p.1, v) else p
  | [], _, _, _, h => by cases h
  | p :: m, k, v, nd, h => by
    rw [List.map_cons, List.nodup_cons] at nd
    show (if p.1 = k then (p.1, v) :: m else p :: putG m k v) = (if p.1 = k then (p.1, v) else p) :: m.map _
    by_cases e : p.1 = k
    · rw [if_pos e, if_pos e]
      congr 1
      have : m.map (fun p => if p.1 = k then (p.1, v) else p) = m.map id := List.map_congr_left fun q hq => by
        rw [if_neg (fun z => nd.1 (by rw [e, ← z]; exact List.mem_map_of_mem hq))]
        rfl
      rw [this, List.map_id]
    · rw [if_neg e, if_neg e, putg_old m k v nd.2 (by
        rw [List.any_cons, decide_eq_false e, Bool.false_or] at h
        exact h)]
theorem dG_put (m : List (Int × V)) (k : Int) (v : V) (nd : (m.map (·.1)).Nodup) : putK (dG m) (Sum.inl k : Key) (v) = dG (putG m k v) := by
  unfold putK
  rw [dG_any]
  cases e : m.any fun p => decide (p.1 = k) with
  | false =>
    rw [putg_new m k v e]
    unfold dG
    rw [List.map_append]
    rfl
  | true =>
    rw [putg_old m k v nd e]
    unfold dG
    rw [List.map_map, if_pos rfl, List.map_map]
    apply List.map_congr_left
    intro p _
    show (if (Sum.inl p.1 : Key) = Sum.inl k then ((Sum.inl p.1 : Key), v) else (Sum.inl p.1, p.2)) = ((Sum.inl (if p.1 = k then (p.1, v) else p).1 : Key), (if p.1 = k then (p.1, v) else p).2)
    by_cases z : p.1 = k
    · rw [if_pos (congrArg _ z), if_pos z]
    · rw [if_neg (fun q => z (Sum.inl.inj q)), if_neg z]
section
variable {X : Cx}
end
section
variable {D : Ends} {σ : St} {H : Hp} {Q : VK}
theorem x_gisd {d : Addr} {kvs : List (Key × V)} {P : Addr → Prop} (hd : Rd H d (.dK kvs)) (h : P d) : ∃ a, V.ref d = .ref a ∧ IsD H a ∧ P a := ⟨d, rfl, .inl ⟨_, hd⟩, h⟩
theorem x_gdo {d : Addr} {m : List (Int × V)} {k : Int} {P : Option V → Prop} (hd : Rd H d (.dK (dG m))) (h : P (lkG m k)) : ∃ o, DGet H d (.int k) o ∧ P o := ⟨_, .inl ⟨_, Sum.inl k, hd, rfl, (dG_val m k).symm⟩, h⟩
theorem x_gdin {d : Addr} {m : List (Int × V)} {k : Int} {P : Option V → Prop} (hd : Rd H d (.dK (dG m))) (h : P (lkG m k)) : ∃ a o, V.ref d = .ref a ∧ DGet H a (.int k) o ∧ P o := ⟨d, _, rfl, .inl ⟨_, Sum.inl k, hd, rfl, (dG_val m k).symm⟩, h⟩
end
end L2

set_option Elab.async false
set_option linter.all false
set_option maxRecDepth 100000
namespace L2
open PySem PySem.Spec PyProof.Rows
theorem and_test {n h : Int} (h0 : 0 ≤ n) (h1 : 0 ≤ h) : (!decide (V.int (Builtin.bitAnd n (2 ^ h.toNat)) = V.int 0)) = n.toNat.testBit h.toNat := by
  have e1 : (0 : Int) ≤ 2 ^ h.toNat := two_pow_nn _
  have e2 : ((2 : Int) ^ h.toNat).toNat = 2 ^ h.toNat := by
    have : ((2 : Int) ^ h.toNat) = ((2 ^ h.toNat : Nat) : Int) := by push_cast; rfl
    rw [this, Int.toNat_natCast]
  rw [PyProof.Rows.bitAnd_pp h0 e1, e2]
  cases q : n.toNat.testBit h.toNat with
  | false =>
    rw [(GB.and_pow _ _).mpr q]
    rfl
  | true =>
    have z : ¬ (n.toNat &&& 2 ^ h.toNat = 0) := fun z => by rw [(GB.and_pow _ _).mp z] at q; cases q
    have z' : ¬ V.int ((n.toNat &&& 2 ^ h.toNat : Nat) : Int) = V.int 0 := fun e => z (by injection e with e; omega)
    rw [decide_eq_false z']
    rfl

end L2

set_option Elab.async false
set_option linter.all false
set_option maxRecDepth 100000
namespace L2
open PySem PySem.Spec PyProof.Rows

section
variable {X : Cx}
end
theorem x_sl3 {r : V → Option Int → Option Int → Option Int → Hp → VK → Prop} {te : TE} {tl th tk : TO} {σ : St} {H : Hp} {Q : VK} (h : te σ H fun x H1 => tl σ H1 fun l H2 => th σ H2 fun u H3 => tk σ H3 fun k H4 => r x l u k H4 Q) : tSl3 r te tl th tk σ H Q := h

section
variable {X : Cx}
def rInsert : V → List V → Hp → VK → Prop := fun x vs H Q => ∃ l xs i y, x = .ref l ∧ vs = [.int i, y] ∧ H l = some (.lst xs) ∧ 0 ≤ i ∧ i ≤ 1000 ∧ xs.length < 1000 ∧ Q .non (upd H l (.lst (xs.take (min i.toNat xs.length) ++ [y] ++ xs.drop (min i.toNat xs.length))))
theorem mt_insert : MtM X "list.insert" rInsert := by
  intro pins s σ H x vs v us Q I rx rv h
  obtain ⟨l, xs, i, y, rfl, rfl, hH, h0, h1, hz, q⟩ := h
  cases rx
  obtain ⟨u0, u, rfl, r0, ru⟩ := vals2 rv
  obtain ⟨t0, rfl⟩ := r0
  obtain ⟨z, its, n, r, hl, e⟩ := I.lstM hH
  have fits : ¬ (!Builtin.List.listFitsIndex i) = true := by
    unfold Builtin.List.listFitsIndex
    simp
    omega
  refine call_meets F.slot_list_insert ⟨_, e, rfl⟩ F.entry_list_insert (F.args_list_insert_3 _ _ _) (PySem.AutoSeq1.list_insert_list_int_val_1 l its.toArray n i t0 u fits (by rw [List.size_toArray]; omega)) ⟨e, ?_⟩
  have hlen := r.length
  have ek : (if i < 0 then (i + (its.toArray.size : Nat)).toNat else min i.toNat its.toArray.size) = min i.toNat xs.length := by rw [if_neg (by omega), List.size_toArray, hlen]
  refine ⟨.non, _, I.lset (its' := its.take (min i.toNat xs.length) ++ [u] ++ its.drop (min i.toNat xs.length)) hH e ?_ (((r.take _).append (.cons ru .nil)).append (r.drop _)) ?_, rfl, q⟩
  · simp only [ek]
    simp
    exact List.take_of_length_le (by rw [List.length_drop]; omega)
  · simp only [List.length_append, List.length_take, List.length_drop, List.length_singleton]
    have := sizeLine_eq
    omega
end
end L2

set_option Elab.async false
set_option linter.all false
set_option maxRecDepth 100000
namespace L2
open PySem PySem.Spec PyProof.Rows
section
variable {X : Cx}

theorem x_tyd {K : PySem.W.Frag} {H : Hp} {a : Addr} {kvs : List (Key × V)} {P : Prop} (hd : H a = some (.dK kvs)) (h : P) : tyV K "dict" (.ref a) H ∧ P := ⟨.inr (.inr (.inl ⟨rfl, .inl ⟨kvs, hd⟩⟩)), h⟩
end
end L2

set_option Elab.async false
set_option linter.all false
set_option maxRecDepth 100000
namespace L2
open PySem PySem.Spec PyProof.Rows
section
variable {X : Cx}

def rSetd : V → List V → Hp → VK → Prop := fun x vs H Q => ∃ d m i y, x = .ref d ∧ vs = [.int i, y] ∧ H d = some (.dK (dG m)) ∧ m.length < 1000 ∧ (∀ v, lkG m i = some v → Q v H) ∧ (lkG m i = none → Q y (upd H d (.dK (putK (dG m) (Sum.inl i) y))))
theorem mt_dsetdef : MtR X "dict.setdefault" rSetd := by
  intro pins s σ H x xs v us Q I rx rv h
  obtain ⟨d, m, i, y, rfl, rfl, hd, hl, q1, q2⟩ := h
  cases rx
  obtain ⟨u1, u2, rfl, r1, r2⟩ := rv.two
  obtain ⟨t, rfl⟩ := r1
  obtain ⟨z, hS, vs, rel, dd⟩ := dk_of I.hok hd
  obtain ⟨h1, h2⟩ := tyV_is (T := "dict") I (x := .ref d) rfl (.inr (.inr (.inl ⟨rfl, .inl ⟨_, hd⟩⟩)))
  have l1 : vs.length = m.length := by rw [← KV.length rel, dG_len]
  have hv := rel.val (Sum.inl i : Key)
  rw [dG_val] at hv
  have hk := mixKind_int X.prog X.w i t
  refine call_meetsIn PySem.F.slot_dict_setdefault h1 PySem.F.entry_dict_setdefault (PySem.F.args_dict_setdefault_3 _ _ _) (kt_meets_setdefault (mixKind X.prog X.w) d hk hS u2) ⟨vs, dd, by rw [l1]; exact Nat.le_of_lt (small1000 (by omega)), fun v e => ?_, fun e h' g1 sb => ?_⟩
  · cases w : lkG m i with
    | none =>
      rw [w] at hv
      rw [RelO.none_of hv] at e
      cases e
    | some v0 =>
      rw [w] at hv
      obtain ⟨u, hu, ru⟩ := RelO.some_of hv
      rw [hu] at e
      cases e
      exact ⟨v0, H, I.tok _, ru, q1 v0 w⟩
  · have w : lkG m i = none := by
      cases w : lkG m i with
      | none => rfl
      | some v0 =>
        rw [w] at hv
        obtain ⟨u, hu, ru⟩ := RelO.some_of hv
        rw [hu] at e
        cases e
    obtain ⟨o, es, ep, ho, rr⟩ := id g1
    have lp : (putK (dG m) (Sum.inl i) y).length ≤ 1000 := by
      have := length_putK (dG m) (Sum.inl i : Key) y
      rw [dG_len] at this
      omega
    exact ⟨y, _, I.write (t' := s.toks + 1) (x := d) (e := d) (o := .dK (putK (dG m) (Sum.inl i) y)) (by rw [hd]; trivial) (.inl rfl) (fun b ob n e => (sb.2 b n).trans e) ⟨o, ho⟩ (dk_new (Nat.le_of_lt (small1000 lp)) hS (KV.put rel (Sum.inl i : Key) r2) g1), r2, q2 w⟩
end
theorem x_setd {H : Hp} {Q : VK} {d : Addr} {m : List (Int × V)} {i : Int} {y : V} (hd : H d = some (.dK (dG m))) (nd : (m.map (·.1)).Nodup) (hl : m.length < 1000) (h : ∀ v H', (lkG m i = some v ∧ H' = H) ∨ (lkG m i = none ∧ v = y ∧ H' = upd H d (.dK (dG (putG m i y)))) → Q v H') : rSetd (.ref d) [.int i, y] H Q :=
  ⟨d, m, i, y, rfl, rfl, hd, hl, fun v e => h v H (.inl ⟨e, rfl⟩), fun e => h y _ (.inr ⟨e, rfl, by rw [dG_put m i y nd]⟩)⟩
end L2

set_option Elab.async false
set_option linter.all false
set_option maxRecDepth 100000
namespace GX
open PySem
section
variable {prog : Program} {w : World} {A : Around} {E : Value → Shared → Prop} {s : Shared} {K : Type} [DecidableEq K] {knd : KeyKind prog w K}

end
end GX
namespace L2
open PySem PySem.Spec PyProof.Rows
section
variable {X : Cx}
end
end L2

set_option Elab.async false
set_option linter.all false
set_option maxRecDepth 100000
namespace GX
open PySem PyProof.Rows
end GX
namespace L2
open PySem PySem.Spec PyProof.Rows

section
variable {X : Cx}
end
end L2

set_option Elab.async false
set_option linter.all false
set_option maxRecDepth 100000
namespace HT
open PySem PyProof.Rows
section
open PySem.SeqAt
open PySem.AutoSeq1 (wpAny_loadPart')
open PySem.MeetsSeq PySem.MeetsSeq2 PySem.MeetsSeq3
end
section
variable {prog : Program} {w : World} {A : Around} {E : Value → Shared → Prop} {s : Shared}
end
end HT
namespace L2
open PySem PySem.Spec PyProof.Rows
section
variable {X : Cx}

end

section
variable {me hd ba ye vo re ag v : V}
end

end L2

set_option Elab.async false
set_option linter.all false
set_option maxRecDepth 100000
namespace GX
open PySem PyProof.Rows
section
variable {prog : Program} {w : World} {A : Around} {R : Result → Shared → Prop} {I d : Addr} {fp wr : List Addr} {n : Nat} {P : Nat → Value → Prop} {St : Nat → Heap → Prop} {K : Type} [DecidableEq K] {knd : KeyKind prog w K}

end
section
variable {prog : Program} {w : World} {A : Around} {E : Value → Shared → Prop} {s : Shared} {K : Type} [DecidableEq K] {knd : KeyKind prog w K}

end
end GX
namespace L2
open PySem PySem.Spec PyProof.Rows

section
variable {X : Cx}
end
end L2

set_option Elab.async false
set_option linter.all false
set_option maxRecDepth 100000
namespace L2
open PySem PySem.Spec PyProof.Rows

section
variable {X : Cx} {pins : List (Addr × Obj)} {σ : St} {H : Hp} {s : Shared}
end
section
variable {X : Cx} {pins : List (Addr × Obj)} {σ : St} {l f : Addr} {xs : List V} {its : List Value} {ks : List (List Int)} {k : Nat} {fd : FuncData} {ps : List Str} {sp : Sp}
end
section
variable {X : Cx}
end
end L2

set_option Elab.async false
set_option linter.all false
set_option maxRecDepth 100000
namespace L2
open PySem PySem.Spec PyProof.Rows
section
variable {prog : Program} {w : World} {A : Around} {E : Value → Shared → Prop} {s : Shared}

end
end L2

set_option Elab.async false
set_option linter.all false
set_option maxRecDepth 100000
namespace L2
open PySem PySem.Spec PyProof.Rows

section
variable {n : Nat} (hn : 0 < n)
include hn
end
section
variable {prog : Program} {w : World} {A : Around} {E : Value → Shared → Prop} {s : Shared}

end
section
variable {X : Cx}

end
end L2

set_option Elab.async false
set_option linter.all false
set_option maxRecDepth 100000
namespace L2
open PySem PySem.Spec PyProof.Rows
section
variable {X : Cx} {pins : List (Addr × Obj)} {σ : St} {H H0 : Hp} {s : Shared} {h' : Heap}

end
section
variable {X : Cx} {pins : List (Addr × Obj)} {σ : St} {H : Hp} {s : Shared} {D f : Addr} {xs : List V} {its : List Value} {ks : List (List Int)} {k : Nat} {fd : FuncData} {ps : List Str} {sp : Sp}

end
end L2

set_option Elab.async false
set_option linter.all false
set_option maxRecDepth 100000
namespace L2
open PySem PySem.Spec PyProof.Rows

section
variable {X : Cx}
end
end L2

set_option Elab.async false
set_option linter.all false
set_option maxRecDepth 100000
namespace L2
open PySem PySem.Spec PyProof.Rows
section
variable {X : Cx}

end
end L2

set_option Elab.async false
set_option linter.all false
set_option maxRecDepth 100000
namespace L2
open PySem PySem.Spec PyProof.Rows
section
variable {X : Cx}
end

end L2

set_option Elab.async false
set_option linter.all false
set_option maxRecDepth 100000
namespace L2
open PySem PySem.Spec PyProof.Rows
section
variable {X : Cx} {K : PySem.W.Frag}

theorem pe_popK {o e : Expr} {to : TE} {t : TA} {apos cpos : Pos} (hK : X.K = K) (h : PE X (.Call (.Attribute o "pop" apos) [e] [] cpos) (tBM X.K "list" rPopAt to t)) : PE X (.Call (.Attribute o "pop" apos) [e] [] cpos) (tBM K "list" rPopAt to t) := by subst hK; exact h
end
end L2

set_option Elab.async false
set_option linter.all false
set_option maxRecDepth 100000
namespace GX
open PySem PySem.Spec PyProof.Rows

section
variable {prog : Program} {w : World} {A : Around} {s : Shared} {E : Value → Shared → Prop} {it l : Addr}
end
end GX

set_option Elab.async false
set_option linter.all false
set_option maxRecDepth 100000
namespace GX
open PySem PySem.Spec PyProof.Rows

section
variable {prog : Program} {w : World} {A : Around} {s : Shared} {E : Value → Shared → Prop} {it v d : Addr} {es : Array DictEntry} {i ep : Nat}
end
end GX

set_option Elab.async false
set_option linter.all false
set_option maxRecDepth 100000
namespace GX
open PySem PySem.Spec PyProof.Rows
section
variable {prog : Program} {w : World} {K : Type} [DecidableEq K] {knd : HeapKind prog w K} {d a : Addr} {xs : List (K × Addr × Value)} {k : K} {j : Nat} {p : Addr × Value}
end
end GX

set_option Elab.async false
set_option linter.all false
set_option maxRecDepth 100000
namespace L2
open PySem PySem.Spec PyProof.Rows

section
variable {X : Cx} {tg : Expr}
end
end L2

set_option Elab.async false
set_option linter.all false
set_option maxRecDepth 100000
namespace L2
open PySem PySem.Spec PyProof.Rows

section
variable {X : Cx}
end

section
variable {X : Cx}
end
end L2

set_option Elab.async false
set_option linter.all false
set_option maxRecDepth 100000
namespace L2
open PySem PySem.Spec PyProof.Rows
section
variable {X : Cx}
end
end L2

set_option Elab.async false
set_option linter.all false
set_option maxRecDepth 100000
namespace L2
open PySem PySem.Spec PyProof.Rows

section
variable (ky : Nat → Int)
variable {ky} {n : Nat} (hn : 0 < n)
end
section
variable {prog : Program} {w : World} {A : Around} {E : Value → Shared → Prop} {s : Shared}
end
section
variable {X : Cx} {pins : List (Addr × Obj)} {σ : St} {H : Hp} {s : Shared} {D f : Addr} {xs : List V} {its : List Value} {ks : List (List Int)} {k : Nat} {fd : FuncData} {ps : List Str} {sp : Sp}

end

section
variable {X : Cx}
end
end L2

set_option Elab.async false
set_option linter.all false
set_option maxRecDepth 100000
namespace L2
open PySem PySem.Spec PyProof.Rows
section
variable {X : Cx}

end
end L2

set_option Elab.async false
set_option linter.all false
set_option maxRecDepth 100000
namespace L2
open PySem PySem.Spec PyProof.Rows

section
variable {P : Program} {w : World} {H H' : Hp} {h h' : Heap} {cs fs : List Addr}
end

section
variable {CX : CXT} {P : Program} {w : World} {K : PySem.W.Frag} {mg : Str → Option Value} {base : Heap} {N ps : List Str} {qual : Str} {scope : Scope} {f : Addr} {cd : Value} {cl : List (Str × Addr)} {A : Around} {outer : List Env} {s : Shared} {H : Hp} {E : XK} {us : List Value} {vs vals : List V}

end
end L2

set_option Elab.async false
set_option linter.all false
set_option maxRecDepth 100000
namespace L2
open PySem PySem.Spec PyProof.Rows

section
variable {X : Cx}
end
end L2

set_option Elab.async false
set_option linter.all false
set_option maxRecDepth 100000
namespace L2
open PySem PySem.Spec PyProof.Rows

section
variable {X : Cx}
end
end L2

set_option Elab.async false
set_option linter.all false
set_option maxRecDepth 100000
namespace L2
open PySem PySem.Spec PyProof.Rows

end L2

set_option Elab.async false
set_option linter.all false
set_option maxRecDepth 100000
namespace L2
open PySem PySem.Spec PyProof.Rows

section
variable {P : Program} {w : World} {K : PySem.W.Frag} {mg : Str → Option Value} {base : Heap}
end

end L2

set_option Elab.async false
set_option linter.all false
set_option maxRecDepth 100000
namespace L2
open PySem PySem.Spec PyProof.Rows

section
variable {X : Cx}
end
section
variable {P : Program} {w : World} {K : PySem.W.Frag} {mg : Str → Option Value} {base : Heap}

end
section
variable {X : Cx}

end
section
variable {me hd ba ye vo re ag : V}
end
end L2

set_option Elab.async false
set_option linter.all false
set_option maxRecDepth 100000
namespace L2
open PySem PySem.Spec PyProof.Rows

section
variable {X : Cx} {k : Nat} {m : Str} {pos apos : Pos} {e o : Expr} {es : List Expr} {ta : TE} {t : TA} {ix : List Nat} {cl : List (Str × Addr)}
end
section
variable {σ : St} {H : Hp} {Q : VK} {ix : List Nat} {cl : List (Str × Addr)}
end

section
variable {X : Cx} {pins : List (Addr × Obj)} {σ : St} {H : Hp} {s : Shared}
theorem Dls.reads (I : Inv X pins σ H s) : ∀ {xs : List V} {ds : List PyData} {us : List Value}, Paired (Dl X.K H) xs ds → Vals xs us → ∃ as, ReadsAll s.heap us ds as
  | _, _, _, .nil, r => by cases r; exact ⟨_, .nil⟩
  | _, _, _, .cons h t, r => by
    cases r with
    | cons r1 r2 =>
      obtain ⟨as, q⟩ := Dl.reads I h r1
      obtain ⟨bs, q2⟩ := Dls.reads I t r2
      exact ⟨_, .cons q q2⟩
end
end L2

set_option Elab.async false
set_option linter.all false
set_option maxRecDepth 100000
namespace L2
open PySem PySem.Spec PyProof.Rows

section
variable {CX : CXT} {P : Program} {w : World} {K : PySem.W.Frag} {mg : Str → Option Value} {base : Heap} {N ps : List Str} {qual : Str} {scope : Scope} {f : Addr} {cd : Value} {cl : List (Str × Addr)} {A : Around} {outer : List Env} {s : Shared} {H : Hp} {E : XK} {us : List Value} {vs vals : List V}
end
section
variable {P : Program} {w : World} {K : PySem.W.Frag} {mg : Str → Option Value} {base : Heap}

end
section
variable {X : Cx} {K : PySem.W.Frag}
end
end L2

set_option Elab.async false
set_option linter.all false
set_option maxRecDepth 100000
namespace L2
open PySem PySem.Spec PyProof.Rows

section
variable {P : Program} {w : World} {K : PySem.W.Frag} {mg : Str → Option Value} {base : Heap} {N : List Str} {qual : Str} {scope : Scope} {f : Addr} {cd : Value} {A : Around} {outer : List Env} {s : Shared} {H : Hp} {E : XK}

end
end L2

set_option Elab.async false
set_option linter.all false
set_option maxRecDepth 100000
namespace L2
open PySem PySem.Spec PyProof.Rows

section
variable {X : Cx} {pins : List (Addr × Obj)} {σ : St} {H H' : Hp} {s s' : Shared} {B h2 : Heap} {ea C : Addr} {a0 : Value}

end

section
variable {X : Cx} {pins : List (Addr × Obj)} {σ : St} {H : Hp} {s : Shared}

end
section
variable {M : Model} {A : Around} {E : Value → Shared → Prop}

end
end L2

set_option Elab.async false
set_option linter.all false
set_option maxRecDepth 100000
namespace L2
open PySem PySem.Spec PyProof.Rows

section
variable {X : Cx} {pins pins' : List (Addr × Obj)} {σ : St} {H : Hp} {s s' : Shared} {EE : St → XK}
end

end L2

set_option Elab.async false
set_option linter.all false
set_option maxRecDepth 100000
namespace L2
open PySem PySem.Spec PyProof.Rows PySem.W

section
variable {prog : Program} {w : World} {A : Around} {E : Value → Shared → Prop} {K : PySem.W.Frag} {x C : Addr}

end

end L2

set_option Elab.async false
set_option linter.all false
set_option maxRecDepth 100000
namespace L2
open PySem PySem.Spec PyProof.Rows
section
variable {P : Program} {w : World} {K : PySem.W.Frag} {mg : Str → Option Value} {base : Heap}

end

section
variable {X : Cx} {k : Nat} {f : Addr} {fd : FuncData} {ps : List Str} {sp : Sp} {x : Str} {e : Expr} {es : List Expr} {t : TA} {p pos : Pos}
end
section
variable {D : Ends} {σ : St} {H : Hp} {Q : VK}
end
end L2

set_option Elab.async false
set_option linter.all false
set_option maxRecDepth 100000
namespace L2
open PySem PySem.Spec PyProof.Rows

section
variable {X : Cx} {tg : Expr}
end
end L2

set_option Elab.async false
set_option linter.all false
set_option maxRecDepth 100000
namespace L2
open PySem PySem.Spec PyProof.Rows PySem.W
section
variable {prog : Program} {w : World} {A : Around} {E : Value → Shared → Prop} {K : PySem.W.Frag} {x C : Addr} {name : Str} {v : Value} {s : Shared}

end
section
variable {prog : Program} {w : World} {A : Around} {E : Value → Shared → Prop} {K : PySem.W.Frag} {x C : Addr} {name : Str} {v : Value} {s : Shared} {vs : Array Value} {sl : Array (Option Value)}

end

section
variable {X : Cx} {pins : List (Addr × Obj)} {σ : St} {H : Hp} {s : Shared} {e C dx : Addr} {f : Str} {y : V} {u : Value}

end
section
variable {prog : Program} {w : World} {A : Around} {K : PySem.W.Frag} {C fI : Addr} {h : Heap} {g : Array GenState} {d : Drawn} {t : Nat} {os : OsState} {B newId initId : String} {bmB : List Value}

end

section
variable {X : Cx} {k : Nat} {f C : Addr} {fd : FuncData} {ps : List Str} {sp : Sp} {B newId initId : String} {bmB : List Value}
end

section
variable {prog : Program} {w : World} {A : Around} {E : Value → Shared → Prop} {s : Shared} {env : Env}
end
section
variable {P : Program} {w : World} {K : PySem.W.Frag} {mg : Str → Option Value} {base : Heap} {N : List Str} {qual : Str} {scope : Scope} {f : Addr} {cd : Value} {A : Around} {outer : List Env} {s : Shared} {H : Hp} {E : XK}
end
end L2

set_option Elab.async false
set_option linter.all false
set_option maxRecDepth 100000
namespace L2
open PySem PySem.Spec PyProof.Rows

section
variable {P : Program} {w : World} {K : PySem.W.Frag} {mg : Str → Option Value} {base : Heap} {x qual : Str} {st : Stmt} {f : Addr} {fd : FuncData} {ds ds' : List Value}
end

section
variable {X : Cx} {k : Nat} {f C : Addr} {fd : FuncData} {ps : List Str} {sp : Sp} {m : Str} {e o : Expr} {es : List Expr} {ta : TE} {t : TA} {p pos apos : Pos}
end
section
variable {D : Ends} {σ : St} {H : Hp} {Q : VK}
end
end L2

set_option Elab.async false
set_option linter.all false
set_option maxRecDepth 100000
namespace L2
open PySem PySem.Spec PyProof.Rows

section
variable {me nu ha ro ma dn tk kp od tb ab v : V}
end
end L2

set_option Elab.async false
set_option linter.all false
set_option maxRecDepth 100000
namespace GX
open PySem PySem.Spec PyProof.Rows

end GX

set_option Elab.async false
set_option linter.all false
set_option maxRecDepth 100000
namespace GX
open PySem PySem.Spec PyProof.Rows
section
variable {prog : Program} {w : World} {A : Around} {s : Shared} {E : Value → Shared → Prop} {it v d : Addr} {es : Array DictEntry} {i ep : Nat} {ok ov : Value}
end
end GX

set_option Elab.async false
set_option linter.all false
set_option maxRecDepth 100000
namespace L2
open PySem PySem.Spec PyProof.Rows

section
variable {X : Cx}
end

end L2

set_option Elab.async false
set_option linter.all false
set_option maxRecDepth 100000
namespace L2
open PySem PySem.Spec PyProof.Rows

section
variable {prog : Program} {w : World} {A : Around} {E : Value → Shared → Prop} {s : Shared}

end

theorem Inv.turnLays {X : Cx} {pins : List (Addr × Obj)} {σ : St} {H : Hp} {s : Shared} {h' : Heap} {ch : List Addr} {a : Addr} {o : HO} (I : Inv X pins σ H s) (k : ∀ b o, b ∉ ch → s.heap.get? b = some o → h'.get? b = some o) (hf : ∀ b ∈ ch, FpOk X pins H b) (ha : s.heap.objs.size ≤ a)
    (new : ObjOk X.prog X.w (upd H a o) h' a o) : Inv X pins σ (upd H a o) { s with heap := h' } := by
  have hn : H a = none := I.hok.fresh ha
  have nea : ∀ b ob, s.heap.get? b = some ob → b ≠ a := fun b ob e z => by
    have := Heap.lt_size e
    rw [z] at this
    exact absurd (Nat.lt_of_lt_of_le this ha) (Nat.lt_irrefl _)
  have nch : ∀ b u, H b = some u → b ∉ ch := fun b u e z => by rw [(hf b z).1] at e; cases e
  have nl : X.env.locals ∉ ch := fun z => (hf _ z).2.1 rfl
  refine I.step (g' := s.gens) (d' := s.drawn) (t' := s.toks) (ch := ch) (fun b hb => ?_) (fun b o _ _ hc e _ => k b o hc e) (fun b o _ _ hc e _ => ⟨o.slots, k b o hc e⟩) (fun b ob _ e n => by rw [upd_ne (nea b ob e)]; exact n)
    (fun b o hc e => ⟨o, k b o hc e⟩) (fun b xs e => by rw [upd_ne (ne_of_none e hn)]; exact e) (fun b o u e => by rw [upd_ne (ne_of_none e hn)]; exact e) (fun b ps e => ⟨#[], by rw [upd_ne (ne_of_none e hn), e]; simp⟩) (fun m hm => ?_) (fun b u e => ?_) I.bare
  · obtain ⟨f0, f1, f2, f3, f4, f5⟩ := hf b hb
    exact ⟨f3, f1, f4, f5⟩
  · obtain ⟨ob, es, ep, ho, r⟩ := hm
    exact ⟨ob, es, ep, k _ ob nl ho, r⟩
  · by_cases hb : b = a
    · subst hb
      rw [upd_same] at e
      cases e
      exact new
    · rw [upd_ne hb] at e
      refine (I.hok b u e).stay (fun c v hc q => k c v ?_ q) (fun c q => by rw [upd_ne (ne_of_none q hn)]; exact q) fun c xs q => by rw [upd_ne (ne_of_none q hn)]; exact q
      rcases hc with z | z
      · rw [z]; exact nch b u e
      · exact nch c _ z
section
variable {X : Cx} {elts : List Expr} {x1 : Nat} {tp : Pos}
end
end L2

set_option Elab.async false
set_option linter.all false
set_option maxRecDepth 100000
namespace L2
open PySem PySem.Spec PyProof.Rows
section
variable {X : Cx}

end
end L2

set_option Elab.async false
set_option linter.all false
set_option maxRecDepth 100000
namespace L2
open PySem PySem.Spec PyProof.Rows

section
variable {prog : Program} {w : World} {A : Around} {E : Value → Shared → Prop} {s : Shared}
end
section
variable {X : Cx}

end
end L2

set_option Elab.async false
set_option linter.all false
set_option maxRecDepth 100000
namespace GX
open PySem PyProof.Rows

end GX

set_option Elab.async false
set_option linter.all false
set_option maxRecDepth 100000
namespace GX
open PySem PyProof.Rows
section
variable {prog : Program} {w : World} {K : Type} [DecidableEq K] {knd : KeyKind prog w K} {A : Around} {E : Value → Shared → Prop} {s : Shared}

end
end GX

set_option Elab.async false
set_option linter.all false
set_option maxRecDepth 100000
namespace GX
open PySem PyProof.Rows
section
variable {prog : Program} {w : World} {K : Type} [DecidableEq K] {knd : KeyKind prog w K} {A : Around} {E : Value → Shared → Prop} {s : Shared}

end
end GX
namespace L2
open PySem PySem.Spec PyProof.Rows

section
variable {X : Cx}
end

end L2

set_option Elab.async false
set_option linter.all false
set_option maxRecDepth 100000
namespace GX
open PySem PySem.Spec PyProof.Rows
section
variable {prog : Program} {w : World} {K : Type} [DecidableEq K] {knd : HeapKind prog w K} {d a : Addr} {xs : List (K × Addr × Value)} {k : K} {dflt : Value}
set_option maxHeartbeats 1000000 in
theorem mSetd (hS : (d == sysModules) = false) (hz : xs.length ≤ sizeLine) :
    MeetsIn prog w (Builtin.«dict.setdefault» ⟨[.ref d, .ref a, dflt], []⟩) (fun A R s => knd.room A.in1 ∧ knd.is s.heap k a ∧ s.heap.DictOfH knd d xs ∧ (∀ v tk, (atKey xs k).map (·.2) = some v → R (.ok (.ret v)) { s with toks := tk }) ∧
      (atKey xs k = none → ∀ g tk, g.DictOfH knd d (storedH xs k a dflt) → Heap.SameBut d s.heap g → R (.ok (.ret dflt)) { s with heap := g, toks := tk })) :=
  .of_wp fun A R s ⟨hu, hk, dd, q1, q2⟩ => by
    obtain ⟨o, es, ep, ho, hc, hd, he, his, hn⟩ := id dd
    unfold Builtin.«dict.setdefault»
    refine wpAny_bind ?_
    unfold Builtin.Dict.keyAndDefault
    refine wpAny_bind (wpAny_notOrdered_dict ⟨o, ho, hc.1⟩ ?_)
    show wpAny _ _ (pure (d, Value.ref a, some dflt)) _ _ s
    refine wpAny_pure ?_
    show wpAny _ _ (if (d == sysModules) = true then _ else (dictSetDefault d (.ref a) dflt >>= _)) _ _ s
    rw [if_neg (by rw [hS]; exact Bool.false_ne_true)]
    refine wpAny_bind ?_
    unfold dictSetDefault
    refine wpAny_holding (wpAny_bind (knd.pyHash hu hk ?_))
    refine wpAny_bind (wpAny_dictFind_heap (s := { s with toks := s.toks + knd.draws k }) hu hk ho hd he his hn ?_ ?_)
    · intro no
      have n0 := atKey_none_of_get no
      refine wpAny_bind (wpAny_rule (wpAny_bind ?_))
      refine wpAny_updateDictKeys (hz := by have e := size_of_entries he; omega) (s := { s with toks := s.toks + knd.draws k }) ho hd (wpAny_pure (wpAny_pure ⟨_, rfl, ?_⟩))
      refine q2 n0 _ _ ⟨_, _, ep + 1, Heap.get?_update_self _ ho (Obj.isFreed_of_dict (Obj.data_mapDictKeys hd _)), hc.mapDictKeys _, Obj.data_mapDictKeys hd _, ?_, ?_, ?_⟩ (Heap.SameBut.update ..)
      · rw [storedH_new n0]
        simp [he, entryOfKey]
      · rw [storedH_new n0]
        intro x hx
        rcases List.mem_append.mp hx with z | z
        · exact knd.keeps (his x z) ho hd (Heap.SameBut.update ..)
        · cases List.mem_singleton.mp z
          exact knd.keeps hk ho hd (Heap.SameBut.update ..)
      · rw [storedH_new n0, List.map_append, List.nodup_append]
        refine ⟨hn, by simp, fun x hx y hy e => ?_⟩
        cases List.mem_singleton.mp hy
        have e : x = k := e
        exact not_mem_keys_of_get no (by rw [← e]; exact hx)
    · intro j p hj
      refine wpAny_bind (wpAny_dictEntries (s := { s with toks := s.toks + knd.draws k }) ho hd ?_)
      rw [entry_at he j, hj]
      refine wpAny_bind (wpAny_rule (wpAny_pure (wpAny_pure ⟨_, rfl, ?_⟩)))
      exact q1 _ _ (by rw [atKey_of_get hn hj]; rfl)
theorem setd_heap {A : Around} {s : Shared} {E : Value → Shared → Prop} {Q : Value → Shared → Prop} (hu : knd.room A.in1) (hk : knd.is s.heap k a) (dd : s.heap.DictOfH knd d xs) (hS : (d == sysModules) = false) (hz : xs.length ≤ sizeLine)
    (q1 : ∀ v tk, (atKey xs k).map (·.2) = some v → Q v { s with toks := tk }) (q2 : atKey xs k = none → ∀ g tk, g.DictOfH knd d (storedH xs k a dflt) → Heap.SameBut d s.heap g → Q dflt { s with heap := g, toks := tk }) :
    wpAny (model prog w) A (call (.builtin "dict.setdefault") [.ref d, .ref a, dflt]) Q E s := by
  obtain ⟨o, es, ep, ho, hc, _⟩ := id dd
  exact call_meetsIn F.slot_dict_setdefault ⟨o, ho, hc.1⟩ F.entry_dict_setdefault (F.args_dict_setdefault_3 _ _ _) (mSetd hS hz) ⟨hu, hk, dd, fun v tk e => q1 v tk e, fun n g tk dg sb => q2 n g tk dg sb⟩
end
end GX
namespace L2
open PySem PySem.Spec PyProof.Rows

def rSetT : V → List V → Hp → VK → Prop := fun x vs H Q => ∃ (d t : Addr) (kvs : List (List Key × V)) (k : List Key) (y : V), x = .ref d ∧ vs = [.ref t, y] ∧ H d = some (.dT kvs) ∧ H t = some (.tup (k.map kV)) ∧ kvs.length < 1000 ∧ (∀ v, valV kvs k = some v → Q v H) ∧ (valV kvs k = none → Q y (upd H d (.dT (putK kvs k y))))
section
variable {X : Cx}
theorem mt_dsetT (hu : X.A.units + 1 < cLine) : MtR X "dict.setdefault" rSetT := by
  intro pins s σ H x xs v us Q I rx rv h
  obtain ⟨d, t, kvs, k, y, rfl, rfl, hd, ht, hl, q1, q2⟩ := h
  cases rx
  obtain ⟨u1, u2, rfl, r1, r2⟩ := rv.two
  cases r1
  obtain ⟨z, hS, es, kt, dd⟩ := dt_of I.hok hd
  have hv := kt.val k
  refine GX.setd_heap (A := X.A) (knd := tupleKind (mixKind X.prog X.w)) (tupleKind_room_in1 hu) (key_of I.hok ht) dd hS (by rw [← Paired.length kt]; exact z) (fun v tk e => ?_) fun n g tk dd' sb => ?_
  · cases w : valV kvs k with
    | none =>
      rw [w] at hv
      rw [RelO.none_of hv] at e
      cases e
    | some v0 =>
      rw [w] at hv
      obtain ⟨u, hu, ru⟩ := RelO.some_of hv
      rw [hu] at e
      cases e
      exact ⟨v0, H, I.tok _, ru, q1 v0 w⟩
  · have w : valV kvs k = none := by
      cases w : valV kvs k with
      | none => rfl
      | some v0 =>
        rw [w] at hv
        obtain ⟨u, hu, ru⟩ := RelO.some_of hv
        rw [n] at hu
        cases hu
    have lp : (putK kvs k y).length ≤ 1000 := by
      have := length_putK kvs k y
      omega
    have up : ∀ c ys, H c = some (.tup ys) → upd H d (.dT (putK kvs k y)) c = some (.tup ys) := fun c ys ec => by
      rw [upd_ne (ne_of ec hd (fun z => nomatch z))]
      exact ec
    obtain ⟨o, fs, ep, ho, h2, h3, h4, _, h5⟩ := dd'
    exact ⟨y, _, d_write (ob := .dT (putK kvs k y)) I (by rw [hd]; exact True.intro) sb ⟨o, ho⟩ ⟨Nat.le_of_lt (small1000 lp), hS, _, (kt.put k ht r2).keeps up, o, fs, ep, ho, h2, h3, h4, h5⟩, r2, q2 w⟩
end

def Ite (K : PySem.W.Frag) (a : Addr) : It :=
  ⟨fun i H => ∃ xs x, SqL K H a xs ∧ xs[i]? = some x, fun i H v H' => ∃ x t, (∀ xs, SqL K H a xs → xs[i]? = some x) ∧ H t = none ∧ v = .ref t ∧ H' = upd H t (.tup [.int i, x]), fun i H => ∃ xs, SqL K H a xs ∧ xs.length ≤ i⟩
theorem turn_enum {P : Program} {w : World} {K : PySem.W.Frag} {elts : List Expr} {x1 : Nat} {tp : Pos} {a e it : Addr} (ne : e ≠ it) :
    Turn P w K (.Tuple elts x1 tp) (Ite K a) [e, it] e (fun i h => (∃ old, IsEnum h e it i old) ∧ h.IsListIter it a i) where
  mem := by simp
  obj := fun i h st c hc => by
    obtain ⟨⟨old, he⟩, o, e1, c1, d1⟩ := st
    simp only [List.mem_cons, List.not_mem_nil, or_false] at hc
    rcases hc with rfl | rfl
    · exact ⟨_, he, fun v z => by have z' : Data.fields _ = Data.cell v := z; cases z'⟩
    · exact ⟨o, e1, fun v z => by rw [d1] at z; cases z⟩
  keep := fun i h h' st k => by
    obtain ⟨⟨old, he⟩, h1⟩ := st
    exact ⟨⟨old, k _ (by simp) _ he⟩, h1.at fun o q => k _ (by simp) o q⟩
  item := by
    intro X hP hw hK hc i pins s σ H E I hf st hg
    subst hP hw hK
    obtain ⟨⟨old, he⟩, h1⟩ := st
    obtain ⟨xs, x, qa, hx⟩ := hg
    obtain ⟨its, rv, pl, hz⟩ := I.list qa
    obtain ⟨u, hu, ru⟩ := rv.get hx
    refine wpAny_pyNext_enum_item he h1 pl.isList (x := u) (by simpa using hu) ne fun h' c1 c2 c3 _ kp => ?_
    have sne : ∀ c o, s.heap.get? c = some o → s.heap.objs.size ≠ c := fun c o q z => by
      have := Heap.lt_size q
      rw [← z] at this
      exact Nat.lt_irrefl _ this
    obtain ⟨o1, e1, _⟩ := id h1
    have I1 : Inv X pins σ (upd H s.heap.objs.size (.tup [.int i, x])) { s with heap := h' } :=
      I.turnLays (ch := [e, it]) (fun b o nb q => kp b o (fun z => nb (by simp [z])) (fun z => nb (by simp [z])) q) hf (Nat.le_refl _) ⟨by show 2 ≤ sizeLine; decide, [.int i s.toks, u], .cons ⟨_, rfl⟩ (.cons ru .nil), _, c3, rfl, 0, rfl, rfl, rfl⟩
    have fn : ∀ c ∈ [e, it], (upd H s.heap.objs.size (.tup [.int i, x])) c = none := fun c hc => by
      rw [upd_ne]
      · exact (hf c hc).1
      · simp only [List.mem_cons, List.not_mem_nil, or_false] at hc
        rcases hc with rfl | rfl
        · exact (sne _ _ he).symm
        · exact (sne _ _ e1).symm
    refine ⟨_, rfl, wpAny_letOwnedTupleGo_enum c1 fun h2 d1 sb => ?_⟩
    obtain ⟨f0, f1, f2, f3, f4, f5⟩ := hf e (by simp)
    have I2 : Inv X pins σ (upd H s.heap.objs.size (.tup [.int i, x])) { s with heap := h2, toks := s.toks + 1 } := I1.turned (t' := s.toks + 1) (fun b o hb q => (sb.2 b hb).trans q) (fn e (by simp)) f1 f3 f4 f5
    refine ⟨.ref s.heap.objs.size, _, I2, rfl, ⟨x, _, fun ys h => by rw [I.list_inj h qa]; exact hx, I.hok.fresh (Nat.le_refl _), rfl, rfl⟩, ⟨⟨u, ?_⟩, c2.at fun o q => (sb.2 _ (Ne.symm ne)).trans q⟩, fn⟩
    simpa using d1
  done := by
    intro X hP hw hK hc i pins s σ H E I hf st hg
    subst hP hw hK
    obtain ⟨⟨old, he⟩, h1⟩ := st
    obtain ⟨xs, qa, hl⟩ := hg
    obtain ⟨its, rv, pl, hz⟩ := I.list qa
    have ln := rv.length
    obtain ⟨f0, f1, f2, f3, f4, f5⟩ := hf it (by simp)
    exact wpAny_pyNext_enum_end (I.ok.hd hc) he h1 pl.isList (by simp; omega) fun h' eb => ⟨rfl, I.turned (t' := s.toks) (fun b o hb q => eb b o hb q) f0 f1 f3 f4 f5⟩
  self := fun _ _ _ _ _ st h => by
    obtain ⟨⟨old, he⟩, _⟩ := st
    exact wpAny_pyIter_enum he h
section
variable {X : Cx} {elts : List Expr} {x1 : Nat} {tp : Pos}
def iEnum (K : PySem.W.Frag) (ta : TA) : TI := fun σ H R => ta σ H fun vs H1 => ∃ a xs, vs = [.ref a] ∧ SqL K H1 a xs ∧ R (Ite K a) H1
theorem pi_enum {a : Expr} {ta : TA} {p pos : Pos} (hg : Gl X "enumerate") (hm : X.mg "enumerate" = none) (ha : PA X [a] ta) (hs : starEach [a] X.env = [(false, eval a X.env)] := by rfl) :
    PI X (.Tuple elts x1 tp) (.Call (.Name "enumerate" p) [a] [] pos) (iEnum X.K ta) := by
  intro pins s σ H R I h
  refine Call_ (ld_blt I hg hm boot_enumerate (PyProof.Rows.callWith_type1 (thn (ha pos pins s σ H _ I h) fun us s1 ⟨vs, H1, I1, r1, q1⟩ => ?_) hs (by rfl)))
  obtain ⟨l, xs, rfl, ql, R1⟩ := q1
  obtain ⟨u, rfl, ru⟩ := vals1 r1
  cases ru
  obtain ⟨its, rv, pl, hz⟩ := I1.list ql
  refine call_enumerate_list pl.isList fun h' c1 c2 c3 k => wpAny_pyIter_enum c1 ?_
  refine ⟨_, _, _, _, H1, rfl, I1.kept (t' := s1.toks) k, turn_enum (e := s1.heap.objs.size + 1) (it := s1.heap.objs.size) (Nat.succ_ne_self _), ⟨⟨_, c1⟩, c2⟩, fun c hc => ?_, R1⟩
  have hc' : s1.heap.objs.size ≤ c := by
    simp only [List.mem_cons, List.not_mem_nil, or_false] at hc
    rcases hc with rfl | rfl
    · exact Nat.le_succ _
    · exact Nat.le_refl _
  exact I1.fpOk hc' (I1.hok.fresh hc')
end
theorem for_enum {K : PySem.W.Frag} {a : Addr} {xs : List V} {g : TG} {tb : TS} {D : Ends} {σ : St} {H : Hp} (Pv : Nat → St → Hp → Prop) (h0 : Pv 0 σ H) (hl : ∀ i σ H, i ≤ xs.length → Pv i σ H → SqL K H a xs)
    (hs : ∀ i x t σ H, xs[i]? = some x → H t = none → Pv i σ H → g (.ref t) σ (upd H t (.tup [.int i, x])) fun σ2 H2 => tb { D with nx := Pv (i + 1), ct := Pv (i + 1), bk := D.nx } σ2 H2) (hd : ∀ σ H, Pv xs.length σ H → D.nx σ H) :
    ∃ W : Nat → Nat → St → Hp → Prop, (∃ m, W 0 m σ H) ∧ ∀ i m σ H, W i m σ H → ((Ite K a).stop i H ∧ D.nx σ H) ∨ ((Ite K a).go i H ∧ ∃ N : St → Hp → Prop, (∀ σ' H', N σ' H' → ∃ m', m' < m ∧ W (i + 1) m' σ' H') ∧ ∀ x H', (Ite K a).yld i H x H' → g x σ H' fun σ2 H2 => tb { D with nx := N, ct := N, bk := D.nx } σ2 H2) := by
  refine ⟨fun i m σ H => m = xs.length - i ∧ i ≤ xs.length ∧ Pv i σ H, ⟨xs.length, rfl, Nat.zero_le _, h0⟩, fun i m σ H hW => ?_⟩
  obtain ⟨rfl, hi, p⟩ := hW
  have q := hl i σ H hi p
  rcases Nat.lt_or_ge i xs.length with k | k
  · refine .inr ⟨⟨xs, xs[i], q, List.getElem?_eq_getElem k⟩, Pv (i + 1), fun σ' H' p' => ⟨xs.length - (i + 1), by omega, rfl, k, p'⟩, fun v H' y => ?_⟩
    obtain ⟨x, t, h1, ht, rfl, rfl⟩ := y
    exact hs i x t σ H (h1 xs q) ht p
  · have e : i = xs.length := by omega
    subst e
    exact .inl ⟨⟨xs, q, k⟩, hd σ H p⟩

def CalV (X : Cx) (f : Addr) (sp : Sp) : Prop := ∃ k fd ps, FnOk X.prog X.w X.K X.mg X.base CX0 k f fd ps sp ∧ Room k X.A ∧ PySem.W.keepIn X.K (.ref f) = true ∧ Binds X.K fd ps []
def tCallV (te : TE) (tbl : List (Addr × Sp)) (t : TA) : TE := fun σ H Q => te σ H fun v H0 => ∃ f sp, v = .ref f ∧ (f, sp) ∈ tbl ∧ t σ H0 fun vs H1 => sp vs H1 Q E0
theorem CalV.of {X : Cx} {k : Nat} {f : Addr} {fd : FuncData} {ps : List Str} {sp : Sp} {x : Str} (F : FnOk X.prog X.w X.K X.mg X.base CX0 k f fd ps sp) (c : Cal X.K X.mg x f fd ps) (hr : Room k X.A) : CalV X f sp := ⟨k, fd, ps, F, hr, c.kp, c.bd⟩
theorem pcall_v {X : Cx} {x : Str} {e : Expr} {es : List Expr} {te : TE} {t : TA} {p pos : Pos} (tbl : List (Addr × Sp)) (hF : ∀ f sp, (f, sp) ∈ tbl → CalV X f sp) (hf : PE X (.Name x p) te) (ha : PA X (e :: es) t)
    (he : starEach (e :: es) X.env = (false, eval e X.env) :: starEach es X.env := by rfl) (hpl : (backTo pos (starEach es X.env)).any (·.1) = false := by rfl) :
    PE X (.Call (.Name x p) (e :: es) [] pos) (tCallV te tbl t) := by
  intro pins s σ H Q I h
  refine wpAny_Call_Name_kw (thn (hf pins s σ H _ I h) fun u s0 ⟨v, H0, I0, r0, q0⟩ => ?_)
  obtain ⟨f, sp, rfl, hm, q⟩ := q0
  cases r0
  obtain ⟨k, fd, ps, F, hr, hk, hb⟩ := hF f sp hm
  refine PySem.W.callWith_K (h₀ := X.base) I0.ok.mod.kin hk (thn (ha pos pins s0 σ H0 _ I0 q) fun us s1 ⟨vs, H1, I1, r, q⟩ => ⟨I1.kIn, ?_⟩) he hpl
  exact run_fn F hr hb .nil pass0 I1 r (by rw [List.append_nil]; exact q)
end L2

set_option Elab.async false
set_option linter.all false
set_option maxRecDepth 100000
namespace L2
open PySem PySem.Spec PyProof.Rows

def rcf (a b c d : V) : List (Str × V) := [("told_lists", a), ("told_calls", b), ("met_ones", c), ("gone_counts", d)]
structure TRecord (K : PySem.W.Frag) (C : Addr) : Prop where
  cl : Cls K C
  n1 : NoAttr K C "told_lists"
  n2 : NoAttr K C "told_calls"
  n3 : NoAttr K C "met_ones"
  n4 : NoAttr K C "gone_counts"

def wkf (h r n e c o : V) : List (Str × V) := [("hand", h), ("record", r), ("number", n), ("newest", e), ("counts", c), ("ones", o)]
structure TWalk (K : PySem.W.Frag) (C : Addr) : Prop where
  cl : Cls K C
  n1 : NoAttr K C "hand"
  n2 : NoAttr K C "record"
  n3 : NoAttr K C "number"
  n4 : NoAttr K C "newest"
  n5 : NoAttr K C "counts"
  n6 : NoAttr K C "ones"
section
variable {a b c d h r n e o v : V}
theorem chf_rput : putF "gone_counts" d (putF "met_ones" c (putF "told_calls" b (putF "told_lists" a []))) = rcf a b c d := by kernel_rfl
theorem chf_wput : putF "ones" o (putF "counts" c (putF "newest" e (putF "number" n (putF "record" r (putF "hand" h []))))) = wkf h r n e c o := by kernel_rfl
theorem chf_told_lists : (rcf a b c d).lookup ("told_lists" : Str) = some a := by kernel_rfl
theorem chf_told_calls : (rcf a b c d).lookup ("told_calls" : Str) = some b := by kernel_rfl
theorem chf_met_ones : (rcf a b c d).lookup ("met_ones" : Str) = some c := by kernel_rfl
theorem chf_gone_counts : (rcf a b c d).lookup ("gone_counts" : Str) = some d := by kernel_rfl
theorem chf_w_hand : (wkf h r n e c o).lookup ("hand" : Str) = some h := by kernel_rfl
theorem chf_w_record : (wkf h r n e c o).lookup ("record" : Str) = some r := by kernel_rfl
theorem chf_w_number : (wkf h r n e c o).lookup ("number" : Str) = some n := by kernel_rfl
theorem chf_p_number : putF "number" v (wkf h r n e c o) = wkf h r v e c o := by kernel_rfl
theorem chf_w_newest : (wkf h r n e c o).lookup ("newest" : Str) = some e := by kernel_rfl
theorem chf_p_newest : putF "newest" v (wkf h r n e c o) = wkf h r n v c o := by kernel_rfl
theorem chf_w_counts : (wkf h r n e c o).lookup ("counts" : Str) = some c := by kernel_rfl
theorem chf_p_counts : putF "counts" v (wkf h r n e c o) = wkf h r n e v o := by kernel_rfl
theorem chf_w_ones : (wkf h r n e c o).lookup ("ones" : Str) = some o := by kernel_rfl
theorem chf_p_ones : putF "ones" v (wkf h r n e c o) = wkf h r n e c v := by kernel_rfl
theorem chf_w_goes_on : (wkf h r n e c o).lookup ("goes_on" : Str) = none := by kernel_rfl
theorem chf_w_takes_one : (wkf h r n e c o).lookup ("takes_one" : Str) = none := by kernel_rfl
theorem chf_w_ones_on_record : (wkf h r n e c o).lookup ("ones_on_record" : Str) = none := by kernel_rfl
theorem chf_w_go_over : (wkf h r n e c o).lookup ("go_over" : Str) = none := by kernel_rfl
theorem chf_w_go_over_list : (wkf h r n e c o).lookup ("go_over_list" : Str) = none := by kernel_rfl
theorem chf_w_go_over_take : (wkf h r n e c o).lookup ("go_over_take" : Str) = none := by kernel_rfl
theorem chf_wlen : (wkf h r n e c o).length < 1000 := by show 6 < 1000; decide
end
end L2

set_option Elab.async false
set_option linter.all false
set_option maxRecDepth 100000
namespace L2
open PySem PySem.Spec PyProof.Rows

def oIs : Option Key → Value → Bool
  | none, .none => true
  | none, _ => false
  | some k, v => keyIs k v
theorem oIs_none {v : Value} (h : oIs none v = true) : v = .none := by
  cases v <;> first | rfl | (simp [oIs] at h)
theorem keyIs_non {k : Key} : keyIs k .none = false := by
  cases z : keyIs k .none with
  | false => rfl
  | true => rcases keyIs_shape z with ⟨i, t, _, e⟩ | ⟨x, t, _, e⟩ <;> cases e
def oKind (prog : Program) (w : World) : KeyKind prog w (Option Key) where
  is := oIs
  hash := fun o => match o with
    | none => reduceHash 0xFCA86420
    | some k => (mixKind prog w).hash k
  inj := fun v a b ha hb => by
    cases a with
    | none =>
      cases b with
      | none => rfl
      | some b => rw [oIs_none ha] at hb; rw [show oIs (some b) .none = keyIs b .none from rfl, keyIs_non] at hb; cases hb
    | some a =>
      cases b with
      | none => rw [oIs_none hb] at ha; rw [show oIs (some a) .none = keyIs a .none from rfl, keyIs_non] at ha; cases ha
      | some b => exact congrArg some ((mixKind prog w).inj v a b ha hb)
  byValue := fun k v h => by
    cases k with
    | none => rw [oIs_none h]; rfl
    | some k => exact (mixKind prog w).byValue k v h
  pyHash := fun {A E s k v Q} hv h => by
    cases k with
    | none =>
      rw [oIs_none hv]
      show wpAny _ _ (pyHashByItsType .none) _ _ _
      exact PySem.W.pyHash_slot (T := "NoneType") rfl F.slot_NoneType_hash F.entry_NoneType_hash (F.args_NoneType_hash_1 _) (beq_builtin_none _) (.inl rfl) (wpAny_bind (wpAny_pure (wpAny_bind (wpAny_mkInt (wpAny_pure ⟨_, _, rfl, h⟩)))))
    | some k => exact (mixKind prog w).pyHash hv h
  eqBool := fun {A E s a b u v Q} hu hv h => by
    cases a with
    | none =>
      rw [oIs_none hu]
      cases b with
      | none => rw [oIs_none hv]; exact SeqAt.EqAt.same _ _ _ _ _ h
      | some b =>
        rcases keyIs_shape (show keyIs b v = true from hv) with ⟨i, t, rfl, rfl⟩ | ⟨x, t, rfl, rfl⟩
        · exact SeqAt.EqAt.none_int i t _ _ _ _ h
        · exact SeqAt.EqAt.none_str x t _ _ _ _ h
    | some a =>
      cases b with
      | none =>
        rw [oIs_none hv]
        rcases keyIs_shape (show keyIs a u = true from hu) with ⟨i, t, rfl, rfl⟩ | ⟨x, t, rfl, rfl⟩
        · exact SeqAt.EqAt.int_none i t _ _ _ _ h
        · exact SeqAt.EqAt.str_none x t _ _ _ _ h
      | some b => exact (mixKind prog w).eqBool hu hv (by rw [show decide (a = b) = decide (some a = some b) by simp]; exact h)
  «strs» := fun k x t v h => by
    cases k with
    | none => have := oIs_none h; cases this
    | some k => exact (mixKind prog w).strs k x t v h

def tDGetN (td ty tx : TE) : TE := fun σ H Q => td σ H fun x H1 => ∃ a, x = .ref a ∧ IsD H1 a ∧ ty σ H1 fun y H2 => tx σ H2 fun z H3 => (y = .non ∧ (∃ kvs, Rd H3 a (.dK kvs)) ∧ Q z H3) ∨ ∃ o, DGet H3 a y o ∧ Q (o.getD z) H3
theorem map_opt {prog : Program} {w : World} {h : Heap} {a : Addr} {f : Key → Option Value} (m : h.MapOf (mixKind prog w) a f) : ∃ g, h.MapOf (oKind prog w) a g ∧ g none = none := by
  obtain ⟨o, es, ep, h1, h2, h3, h4, h5⟩ := m
  refine ⟨findBy oIs es, ⟨o, es, ep, h1, h2, h3, fun e he => ?_, fun _ => rfl⟩, ?_⟩
  · obtain ⟨k, k1, k2⟩ := h4 e he
    exact ⟨some k, k1, k2⟩
  · unfold findBy
    have : es.find? (fun e => oIs none e.key) = none := by
      rw [Array.find?_eq_none]
      intro e he z
      obtain ⟨k, k1, k2⟩ := h4 e he
      rw [oIs_none z] at k1
      rw [show (mixKind prog w).is k .none = keyIs k .none from rfl, keyIs_non] at k1
      cases k1
    rw [this]
    rfl
section
variable {X : Cx} {o e f : Expr} {apos cpos : Pos} {td ty tx : TE}
theorem pe_dgetN (hu : X.A.units + 1 < cLine) (ho : PE X o td) (he : PE X e ty) (hf : PE X f tx) (m : M2 X o "get" apos e f cpos) : PE X (.Call (.Attribute o "get" apos) [e, f] [] cpos) (tDGetN td ty tx) := by
  intro pins s σ H Q I h
  refine wpAny_Call_method m.base m.few m.line PySem.F.plainAttrs_dict PySem.F.slot_dict_get PySem.F.type_dict_get (thn (ho pins s σ H _ I h) fun u s1 ⟨x, H1, I1, rx, a, ex, d, q1⟩ => ?_)
  subst ex
  obtain rfl : u = Value.ref a := rx
  obtain ⟨t1, t2, _⟩ := isD_at I1 d
  refine ⟨t1, t2, ?_⟩
  rw [m.trees]
  refine Calls.callWith_builtin rfl (Calls.evalArgs_plain (Calls.spliced_cons (thn (he pins s1 σ H1 _ I1 q1) fun iv s2 ⟨y, H2, I2, ry, q2⟩ =>
    Calls.spliced_cons (thn (hf pins s2 σ H2 _ I2 q2) fun fv s3 ⟨z, H3, I3, rz, g⟩ => Calls.spliced_nil ?_))))
  rcases g with ⟨rfl, ⟨kvs, rd⟩, q3⟩ | ⟨ov, g, q3⟩
  · cases ry
    obtain ⟨_, hd, vs, rel, dd⟩ := dk_rd I3.hok rd
    obtain ⟨g, mg, g0⟩ := map_opt dd.mapOf
    refine call_meetsIn PySem.F.slot_dict_get dd.typeIs PySem.F.entry_dict_get (PySem.F.args_dict_get_3 _ _ _) (meets_dict_get_default (oKind X.prog X.w) (k := none) a rfl hd _) ⟨_, mg, z, H3, I3.tok _, ?_, q3⟩
    rw [g0]
    exact rz
  · exact d_get2 hu I3 g ry rz fun w' s4 I4 rw' => ⟨_, H3, I4, rw', q3⟩
end
end L2

set_option Elab.async false
set_option linter.all false
set_option maxRecDepth 100000
namespace L2
open PySem PySem.Spec PyProof.Rows

def DtL (K : PySem.W.Frag) (H : Hp) (x : V) (d : PyData) : Prop := ∃ a xs ds, x = .ref a ∧ d = .tuple ds ∧ SqT K H a xs ∧ Paired (Dl K H) xs ds
def Dlt (K : PySem.W.Frag) (H : Hp) (x : V) (d : PyData) : Prop := ∃ a xs ds, x = .ref a ∧ d = .list ds ∧ SqL K H a xs ∧ Paired (DtL K H) xs ds
section
variable {X : Cx} {pins : List (Addr × Obj)} {σ : St} {H : Hp} {s : Shared}
theorem DtL.reads (I : Inv X pins σ H s) {x : V} {d : PyData} {u : Value} (h : DtL X.K H x d) (r : RelV x u) : ∃ as, Reads s.heap u d as := by
  obtain ⟨a, xs, ds, rfl, rfl, h, t⟩ := h
  cases r
  obtain ⟨its, rv, ⟨o, e, c, n, dd⟩, _⟩ := I.tuple h
  obtain ⟨as, q⟩ := Dls.reads I t rv
  exact ⟨_, .tuple e c dd (by simpa using q)⟩
theorem Dts.reads (I : Inv X pins σ H s) : ∀ {xs : List V} {ds : List PyData} {us : List Value}, Paired (DtL X.K H) xs ds → Vals xs us → ∃ as, ReadsAll s.heap us ds as := by
  intro xs ds us h
  induction h generalizing us with
  | nil => intro r; cases r; exact ⟨_, .nil⟩
  | cons h t ih =>
    intro r
    cases r with
    | cons r1 r2 =>
      obtain ⟨as, q⟩ := DtL.reads I h r1
      obtain ⟨bs, q2⟩ := ih r2
      exact ⟨_, .cons q q2⟩
theorem Dlt.reads (I : Inv X pins σ H s) {x : V} {d : PyData} {u : Value} (h : Dlt X.K H x d) (r : RelV x u) : ∃ as, Reads s.heap u d as := by
  obtain ⟨a, xs, ds, rfl, rfl, h, t⟩ := h
  cases r
  obtain ⟨its, rv, ⟨o, n, e, c, _, dd⟩, _⟩ := I.list h
  obtain ⟨as, q⟩ := Dts.reads I t rv
  exact ⟨_, .list e c dd (by simpa using q)⟩
def rNeLT (K : PySem.W.Frag) : R2 := fun x y H Q => ∃ d, Dlt K H x d ∧ Dlt K H y d ∧ d.canLay0 = true ∧ d.depth ≤ 60 ∧ Q (.bl false) H
theorem op_neLT {K : PySem.W.Frag} (hK : X.K = K) (hu : X.A.units + 64 < cLine) : OpR X (compareOp .NotEq) (rNeLT K) := by
  subst hK
  intro pins s σ H x y v u Q I rx ry h
  obtain ⟨d, h1, h2, c1, dp, q⟩ := h
  obtain ⟨as, r1⟩ := h1.reads I rx
  obtain ⟨bs, r2⟩ := h2.reads I ry
  refine SeqAt.compareNe_reads r1 r2 c1 c1 (by omega) ⟨.bl _, H, I, rfl, ?_⟩
  rw [SeqAt.eqv_refl d c1]
  exact q
end
end L2

set_option Elab.async false
set_option linter.all false
set_option maxRecDepth 100000
namespace L2
open PySem PySem.Spec PyProof.Rows
abbrev nI (K : PySem.W.Frag) (x : Str) (f : Addr) : Prop := PySem.W.nsIn K mainGlobals x = some (some (.ref f))
def qa : List Str → (List Value → Prop) → Prop
  | [], p => p []
  | _ :: r, p => ∀ v, qa r fun us => p (v :: us)
theorem qa_of : ∀ {ps : List Str} {p : List Value → Prop}, qa ps p → ∀ us : List Value, us.length = ps.length → p us
  | [], _, h, [], _ => h
  | _ :: _, _, h, v :: us, e => qa_of (h v) us (Nat.succ.inj e)
section
variable {P : Program} {w : World} {K : PySem.W.Frag} {mg : Str → Option Value} {base h : Heap} {x qual : Str} {st : Stmt} {f : Addr} {fd : FuncData} {N ps : List Str} {k : Nat} {sp : Sp}
theorem Fun.bq (F : Fun K x qual st f fd) (h : ∀ (kV doc pm : Value) (an : Option Addr) (cdv ct : Value), qa ps fun us => bindArgs (PySem.W.fnOf x qual (defArgs st) (defBody st) (defScope st) .none kV doc pm an cdv ct) ⟨us, []⟩ = pure (ps.zip us) := by (repeat refine fun _ => ?_); rfl) : Binds K fd ps [] := F.binds fun a b c d e g us hl => qa_of (h a b c d e g) us hl
theorem Fun.cal (F : Fun K x qual st f fd) (X : K.In h) (G : h.Ns mainGlobals mg) (a : nI K x f) (q : ∀ (kV doc pm : Value) (an : Option Addr) (cdv ct : Value), qa ps fun us => bindArgs (PySem.W.fnOf x qual (defArgs st) (defBody st) (defScope st) .none kV doc pm an cdv ct) ⟨us, []⟩ = pure (ps.zip us) := by (repeat refine fun _ => ?_); rfl) : Cal K mg x f fd ps := ⟨PySem.W.mg_of X G a, F.kp, F.bq q⟩
end
end L2

local macro_rules | `(tactic| sizeOf_list_dec) => `(tactic| first | assumption | decide | exact ⟨by decide, by decide⟩ | exact ⟨by decide, by decide, by decide⟩ | exact Nat.le_of_ble_eq_true rfl | exact L2.small1000 (by omega) | exact L2.pow18p | exact L2.pow60p | omega | fail)
local macro_rules | `(tactic| decreasing_trivial_pre_omega) => `(tactic| first | assumption | (apply L2.SqL.of; assumption) | (apply L2.SqT.of; assumption) | (refine Or.inl ?_; assumption) | (refine Or.inl ?_; apply L2.SqL.of; assumption) | (refine Or.inr ?_; apply L2.SqT.of; assumption))
local macro_rules | `(tactic| bv_omega) => `(tactic| first | assumption | exact L2.atI_nat (j := 0) rfl | exact L2.atI_nat (j := 1) rfl | exact L2.atI_nat (j := 2) rfl | exact L2.atI_nat (j := 3) rfl | exact L2.atI_nat (j := 4) rfl | exact L2.atI_nat (j := 5) rfl)
local macro_rules | `(tactic| array_get_dec) => `(tactic| array_mem_dec)
local macro_rules | `(tactic| array_get_dec) => `(tactic| with_reducible first
  | refine L2.x_seqA ?_ | refine L2.x_seqD ?_ | refine L2.x_seqP ?_ | refine L2.x_seqF ?_ | refine L2.x_seqW ?_ | refine L2.x_seqM ?_ | refine L2.x_seqG ?_ | refine L2.x_asg ?_ | refine L2.x_op ?_ | refine L2.x_c ?_ | refine L2.x_ret ?_ | refine L2.x_ifs ?_ | refine L2.x_name ?_
  | refine L2.x_cons ?_ | refine L2.x_nil ?_ | refine L2.x_call ?_ | refine L2.x_cb ?_ | refine L2.x_I0 ?_ | refine L2.x_test ?_ | refine L2.x_tru ?_ | refine L2.x_b ?_ | refine L2.x_exbl ?_ | refine L2.x_extru ?_
  | refine L2.x_and ?_ | refine L2.x_or ?_ | refine L2.x_not ?_ | refine L2.x_andV ?_ | refine L2.x_orV ?_ | refine L2.x_notV ?_ | refine L2.x_ife ?_
  | refine L2.x_next ?_ | refine L2.x_drop ?_ | refine L2.x_un ?_ | refine L2.x_U ?_ | refine L2.x_eqI ?_ | refine L2.x_neI ?_ | refine L2.x_eqS ?_ | refine L2.x_neS ?_ | refine L2.x_eqB ?_ | refine L2.x_neB ?_
  | refine L2.x_tup ?_ | refine L2.x_lst ?_ | refine L2.x_dnew ?_ | refine L2.x_sl ?_ | refine L2.x_nopart ?_ | refine L2.x_part ?_ | refine L2.x_exint ?_
  | refine L2.x_dget ?_ | refine L2.x_dget2 ?_ | refine L2.x_din ?_ | refine L2.x_dnotin ?_ | refine L2.x_dput ?_ | refine L2.x_for ?_ | refine L2.x_ilist ?_ | refine L2.x_itup ?_ | refine L2.x_ir1 ?_ | refine L2.x_bm ?_ | refine L2.x_bm0 ?_ | refine L2.x_comp ?_
  | refine L2.x_gcons ?_ | refine L2.x_gnil ?_ | refine L2.x_retN ?_ | refine L2.x_brk ?_ | refine L2.x_cont ?_ | refine L2.iteT ?_ | refine L2.iteF ?_ | refine L2.iteNT ?_ | refine L2.iteNF ?_)
local macro_rules | `(tactic| array_mem_dec) => `(tactic| ((with_reducible apply L2.x_gtup); (focus decreasing_trivial_pre_omega); (focus rfl)))
local macro_rules | `(tactic| array_mem_dec) => `(tactic| ((with_reducible apply L2.x_var); (focus exact rfl)))
local macro_rules | `(tactic| array_mem_dec) => `(tactic| ((with_reducible apply L2.x_I); (focus sizeOf_list_dec)))
local macro_rules | `(tactic| array_mem_dec) => `(tactic| ((with_reducible apply L2.x_ixT); (focus decreasing_trivial_pre_omega); (focus bv_omega)))
local macro_rules | `(tactic| array_mem_dec) => `(tactic| ((with_reducible apply L2.x_ixL); (focus decreasing_trivial_pre_omega); (focus bv_omega)))
local macro_rules | `(tactic| array_mem_dec) => `(tactic| ((with_reducible apply L2.x_slL); (focus decreasing_trivial_pre_omega)))
local macro_rules | `(tactic| array_mem_dec) => `(tactic| ((with_reducible apply L2.x_exisd); (focus decreasing_trivial_pre_omega)))
local macro_rules | `(tactic| array_mem_dec) => `(tactic| ((with_reducible apply L2.x_exil); (focus decreasing_trivial_pre_omega)))
local macro_rules | `(tactic| array_mem_dec) => `(tactic| ((with_reducible apply L2.x_exit); (focus decreasing_trivial_pre_omega)))
local macro_rules | `(tactic| array_mem_dec) => `(tactic| ((with_reducible apply L2.x_exdo); (focus decreasing_trivial_pre_omega); (first | rw [L2.getDmap] | rw [L2.isSomemap] | skip)))
local macro_rules | `(tactic| array_mem_dec) => `(tactic| ((with_reducible apply L2.x_exdin); (focus decreasing_trivial_pre_omega); (first | rw [L2.getDmap] | rw [L2.isSomemap] | skip)))
local macro_rules | `(tactic| array_mem_dec) => `(tactic| ((with_reducible apply L2.x_exdg); (focus decreasing_trivial_pre_omega); (focus decreasing_trivial_pre_omega)))
local macro_rules | `(tactic| array_mem_dec) => `(tactic| ((with_reducible apply L2.x_tyl); (focus decreasing_trivial_pre_omega)))
local macro_rules | `(tactic| array_mem_dec) => `(tactic| ((with_reducible apply L2.x_lenL); (focus decreasing_trivial_pre_omega)))
local macro_rules | `(tactic| array_mem_dec) => `(tactic| ((with_reducible apply L2.x_lenT); (focus decreasing_trivial_pre_omega)))
local macro_rules | `(tactic| array_mem_dec) => `(tactic| ((with_reducible apply L2.x_lenD); (focus decreasing_trivial_pre_omega)))
local macro_rules | `(tactic| array_mem_dec) => `(tactic| ((with_reducible apply L2.x_nwT); (focus sizeOf_list_dec)))
local macro_rules | `(tactic| array_mem_dec) => `(tactic| ((with_reducible apply L2.x_nwL); (focus sizeOf_list_dec)))
local macro_rules | `(tactic| array_mem_dec) => `(tactic| ((with_reducible apply L2.x_append); (focus assumption); (focus sizeOf_list_dec)))
local macro_rules | `(tactic| array_mem_dec) => `(tactic| ((with_reducible apply L2.x_exdput); (focus assumption); (focus assumption); (focus sizeOf_list_dec)))
local macro_rules | `(tactic| clean_wf) => `(tactic| repeat' (first | array_get_dec | fail))
local macro_rules | `(tactic| array_mem_dec) => `(tactic| ((with_reducible apply L2.x_rlenL); (focus decreasing_trivial_pre_omega)))
local macro_rules | `(tactic| array_mem_dec) => `(tactic| ((with_reducible apply L2.x_rlenT); (focus decreasing_trivial_pre_omega)))
local macro_rules | `(tactic| array_mem_dec) => `(tactic| ((with_reducible apply L2.x_rlistL); (focus decreasing_trivial_pre_omega)))
local macro_rules | `(tactic| array_mem_dec) => `(tactic| ((with_reducible apply L2.x_rlistT); (focus decreasing_trivial_pre_omega)))
local macro_rules | `(tactic| array_mem_dec) => `(tactic| ((with_reducible apply L2.x_rtupL); (focus decreasing_trivial_pre_omega)))
local macro_rules | `(tactic| array_mem_dec) => `(tactic| ((with_reducible apply L2.x_rdict); (focus decreasing_trivial_pre_omega)))
local macro_rules | `(tactic| array_mem_dec) => `(tactic| (with_reducible refine L2.x_nonand ?_))
local macro_rules | `(tactic| array_mem_dec) => `(tactic| ((with_reducible apply L2.x_rlenQ); (focus decreasing_trivial_pre_omega)))
local macro_rules | `(tactic| array_mem_dec) => `(tactic| ((with_reducible apply L2.x_ixQ); (focus decreasing_trivial_pre_omega); (focus bv_omega)))
local macro_rules | `(tactic| array_mem_dec) => `(tactic| (with_reducible first | refine L2.x_nx ?_ | refine L2.x_yes ?_ | refine L2.x_turn ?_ | refine L2.x_seqN ?_ | refine L2.x_fld ?_ | refine L2.x_sfld ?_ | refine L2.x_methS ?_ | refine L2.x_make ?_ | refine L2.x_mk ?_))
local macro_rules | `(tactic| array_mem_dec) => `(tactic| ((with_reducible refine L2.x_mtS1 ?_); (with_reducible refine L2.x_mtS1 ?_); (with_reducible apply L2.x_mtS0); (focus assumption); (focus sizeOf_list_dec)))
local macro_rules | `(tactic| array_mem_dec) => `(tactic| ((with_reducible refine L2.x_mtS1 ?_); (with_reducible apply L2.x_mtS0); (focus assumption); (focus sizeOf_list_dec)))
local macro_rules | `(tactic| array_mem_dec) => `(tactic| ((with_reducible apply L2.x_mtS0); (focus assumption); (focus sizeOf_list_dec)))
local macro_rules | `(tactic| array_mem_dec) => `(tactic| ((with_reducible apply L2.x_fldk); (focus assumption); (focus sizeOf_list_dec); (focus sizeOf_list_dec); (focus sizeOf_list_dec)))
local macro_rules | `(tactic| array_mem_dec) => `(tactic| ((with_reducible apply L2.x_sfk); (focus assumption); (focus sizeOf_list_dec); (focus sizeOf_list_dec); (focus sizeOf_list_dec)))
local macro_rules | `(tactic| sizeOf_list_dec) => `(tactic| with_reducible first | exact L2.cfl_number | exact L2.cfl_caller | exact L2.cfl_count | exact L2.cfl_word | exact L2.cfl_causes | exact L2.cfl_free | exact L2.cfl_in_turn | exact L2.cfl_asks_place | exact L2.cfl_kind | exact L2.cfl_name | exact L2.cfl_rank | exact L2.cfl_told | exact L2.cfl_shown | fail)
local macro_rules | `(tactic| array_mem_dec) => `(tactic| ((with_reducible apply L2.x_gisd); (focus decreasing_trivial_pre_omega)))
local macro_rules | `(tactic| array_mem_dec) => `(tactic| ((with_reducible apply L2.x_gdg); (focus decreasing_trivial_pre_omega); (focus assumption)))
local macro_rules | `(tactic| array_mem_dec) => `(tactic| ((with_reducible apply L2.x_gdo); (focus decreasing_trivial_pre_omega)))
local macro_rules | `(tactic| array_mem_dec) => `(tactic| ((with_reducible apply L2.x_gdin); (focus decreasing_trivial_pre_omega)))
local macro_rules | `(tactic| array_mem_dec) => `(tactic| ((with_reducible apply L2.x_gdput); (focus assumption); (focus assumption); (focus sizeOf_list_dec)))
local macro_rules | `(tactic| sizeOf_list_dec) => `(tactic| with_reducible first | exact L2.kf_learnt | exact L2.kf_learn | exact L2.kf_row_of | exact L2.kf_floor | exact L2.kf_reach | exact L2.kf_sure | fail)
local macro_rules | `(tactic| array_mem_dec) => `(tactic| ((with_reducible apply L2.x_rdictG); (focus decreasing_trivial_pre_omega)))
local macro_rules | `(tactic| array_mem_dec) => `(tactic| (with_reducible first | refine L2.x_ivals ?_ | refine L2.x_ikeys ?_ | refine L2.x_iseq ?_ | refine L2.x_sl3 ?_))
local macro_rules | `(tactic| array_mem_dec) => `(tactic| ((with_reducible apply L2.x_tyd); (focus assumption)))
local macro_rules | `(tactic| array_mem_dec) => `(tactic| (with_reducible first | refine L2.x_iitems ?_))
local macro_rules | `(tactic| array_mem_dec) => `(tactic| ((with_reducible apply L2.x_neE); (focus decreasing_trivial_pre_omega); (focus decreasing_trivial_pre_omega)))
local macro_rules | `(tactic| sizeOf_list_dec) => `(tactic| with_reducible first | exact L2.kf_listed | exact L2.kf_merge | fail)
local macro_rules | `(tactic| array_mem_dec) => `(tactic| (with_reducible first | refine L2.x_gsub ?_))
local macro_rules | `(tactic| array_mem_dec) => `(tactic| (with_reducible first | refine L2.x_maxl ?_))
local macro_rules | `(tactic| sizeOf_list_dec) => `(tactic| with_reducible first | exact L2.chf_me | exact L2.chf_hands | exact L2.chf_ballot | exact L2.chf_yes | exact L2.chf_votes | exact L2.chf_reports | exact L2.chf_agreed | exact L2.chf_begin | exact L2.chf_message | exact L2.chf_receive | exact L2.chf_see_ballot | exact L2.chf_see_yes | exact L2.chf_see_votes | exact L2.chf_gathers | exact L2.chf_settled | exact L2.chf_len | fail)
local macro_rules | `(tactic| array_mem_dec) => `(tactic| (with_reducible first | refine L2.x_mink ?_))
local macro_rules | `(tactic| array_mem_dec) => `(tactic| (with_reducible first | refine L2.x_sortk ?_))
local macro_rules | `(tactic| array_mem_dec) => `(tactic| (with_reducible refine L2.x_irev ?_))
local macro_rules | `(tactic| array_mem_dec) => `(tactic| (with_reducible refine L2.x_ivalsT ?_))
local macro_rules | `(tactic| array_mem_dec) => `(tactic| (with_reducible first | refine L2.x_sorto ?_))
local macro_rules | `(tactic| array_mem_dec) => `(tactic| (with_reducible first | refine L2.x_callL ?_ | refine L2.x_callM ?_))
local macro_rules | `(tactic| sizeOf_list_dec) => `(tactic| with_reducible first | exact L2.chf_has_enough | exact L2.chf_made_by | exact L2.chf_propose | fail)
local macro_rules | `(tactic| array_mem_dec) => `(tactic| (with_reducible refine L2.x_methL ?_))
local macro_rules | `(tactic| array_mem_dec) => `(tactic| ((with_reducible apply L2.x_mtL); (focus assumption); (focus sizeOf_list_dec)))
local macro_rules | `(tactic| sizeOf_list_dec) => `(tactic| with_reducible first | exact L2.pfl_me | exact L2.pfl_number | exact L2.pfl_hands | exact L2.pfl_room | exact L2.pfl_made | exact L2.pfl_done | exact L2.pfl_took | exact L2.pfl_keeps | exact L2.pfl_order | exact L2.pfl_taken_by | exact L2.pfl_able_by | exact L2.pfl_check_room | exact L2.pfl_keep | exact L2.pfl_kept_calls | exact L2.pfl_utter | exact L2.pfl_step | exact L2.pfl_take | exact L2.pfl_let_go | exact L2.pfl_piece | exact L2.pfl_listen | exact L2.pfl_keep_new | exact L2.pfl_report | exact L2.pfl_finish | exact L2.pfl_rows | exact L2.pfl_taken | exact L2.pfl_kept | exact L2.pfl_places | exact L2.pfl_len | fail)
local macro_rules | `(tactic| array_mem_dec) => `(tactic| (with_reducible first | refine L2.x_iitemsT ?_ | refine L2.x_ikeysT ?_))
local macro_rules | `(tactic| array_mem_dec) => `(tactic| (with_reducible refine L2.x_izip ?_))
local macro_rules | `(tactic| sizeOf_list_dec) => `(tactic| with_reducible first | exact L2.chf_told_lists | exact L2.chf_told_calls | exact L2.chf_met_ones | exact L2.chf_gone_counts | exact L2.chf_w_hand | exact L2.chf_w_record | exact L2.chf_w_number | exact L2.chf_w_newest | exact L2.chf_w_counts | exact L2.chf_w_ones | exact L2.chf_w_goes_on | exact L2.chf_w_takes_one | exact L2.chf_w_ones_on_record | exact L2.chf_w_go_over | exact L2.chf_w_go_over_list | exact L2.chf_w_go_over_take | exact L2.chf_rlen | exact L2.chf_wlen | fail)
namespace K80
open PySem L2
def top (i : Nat) : Stmt := PySem.Challenge.pw_groupcall_k80_right_histories.main.body.getD i (.Pass ⟨0, 0, 0, 0⟩)
section
variable {P : Program} {w : World} {K : PySem.W.Frag} {mg : Str → Option Value} {base : Heap}

structure Kal where
  n : Int
  c : Int
  k : Int
  kd : Str
  wd : Int
  cs : List (Int × Int)
abbrev Nm3 := Int × Int × Int
abbrev Prt := Str × Int × List (Int × Int)
def Kal.nm (x : Kal) : Nm3 := (x.n, x.c, x.k)
def Kal.pt (x : Kal) : Prt := (x.kd, x.wd, x.cs)
def isO (x : Kal) : Bool := decide (x.kd = "one")
def cnt (l : List Kal) (h : Int) : Nat := (l.filter fun x => decide (x.c = h)).length

structure Ok (n : Int) (O : List Kal) : Prop where
  nn : ∀ x ∈ O, x.n = n
  row : ∀ (i : Nat) x, O[i]? = some x → x.k = (cnt (O.take i) x.c : Nat) + 1
  cau : ∀ (i : Nat) x, O[i]? = some x → x.kd ≠ "own" → ∀ p ∈ x.cs, p.2 ≤ (cnt (O.take i) p.1 : Nat)
  rg : ∀ x ∈ O, (0 ≤ x.c ∧ x.c < 63) ∧ Ck (posI x.cs)
theorem cnt_app (l m : List Kal) (h : Int) : cnt (l ++ m) h = cnt l h + cnt m h := by
  unfold cnt
  rw [List.filter_append, List.length_append]
theorem cnt_le {l : List Kal} {i j : Nat} (h : i ≤ j) (k : Int) : cnt (l.take i) k ≤ cnt (l.take j) k := by
  have : l.take j = l.take i ++ (l.take j).drop i := by
    have e := (List.take_append_drop i (l.take j)).symm
    rw [List.take_take, Nat.min_eq_left h] at e
    exact e
  rw [this, cnt_app]
  omega
theorem cnt_one (x : Kal) (h : Int) : cnt [x] h = if x.c = h then 1 else 0 := by
  unfold cnt
  by_cases z : x.c = h
  · rw [if_pos z, List.filter_cons, if_pos (decide_eq_true z)]; rfl
  · rw [if_neg z, List.filter_cons, if_neg (by rw [decide_eq_false z]; exact Bool.false_ne_true)]; rfl

theorem Ok.one {n : Int} {O : List Kal} (o : Ok n O) {x y : Kal} (hx : x ∈ O) (hy : y ∈ O) (e : x.nm = y.nm) : x = y := by
  obtain ⟨i, hi⟩ := List.getElem?_of_mem hx
  obtain ⟨j, hj⟩ := List.getElem?_of_mem hy
  have ec : x.c = y.c := congrArg (fun z : Nm3 => z.2.1) e
  have ek : x.k = y.k := congrArg (fun z : Nm3 => z.2.2) e
  have key : ∀ {i j : Nat} {x y : Kal}, O[i]? = some x → O[j]? = some y → x.c = y.c → i < j → x.k < y.k := fun {i j x y} hi hj ec lt => by
    rw [o.row i x hi, o.row j y hj, ← ec]
    have h1 := cnt_le (l := O) (show i + 1 ≤ j from lt) x.c
    have h2 : cnt (O.take (i + 1)) x.c = cnt (O.take i) x.c + 1 := by
      rw [take_get hi, cnt_app, cnt_one, if_pos rfl]
    omega
  rcases Nat.lt_trichotomy i j with h | h | h
  · have := key hi hj ec h; omega
  · rw [h, hj] at hi; exact (Option.some.inj hi).symm
  · have := key hj hi ec.symm h; omega

inductive Ev
  | L (n : Int) (s : Int × Int × Int)
  | T (x : Kal) (why : Str)
  | O (n : Int)

structure Ctx where
  L : Nat
  num : Int
  R : Nat → List Kal
  S : Nat → Int × Int × Int
structure Rc where
  tl : Int → Option (Int × Int × Int)
  tc : Nm3 → Option Prt
  mo : Int → Option (List Nm3)
  gc : Int → Option (List (Int × Int))

structure Wk where
  num : Option Int
  new : Option Int
  cs : List (Int × Int)
  ones : Nat
def hasB (n h : Int) : Bool := n.toNat.testBit h.toNat
def goesOn (w : Wk) : Ev → Bool
  | .L _ _ => w.num.isSome
  | _ => false
def takesOne : Ev → Bool
  | .T x _ => isO x
  | _ => false
def met (w : Wk) (r : Rc) : List Nm3 := match w.num with
  | none => []
  | some n => (r.mo n).getD []
def bNum (w : Wk) : Ev → Bool
  | .L n _ => (match w.new with
    | none => false
    | some v => decide (n ≤ v)) || (match w.num with
    | none => false
    | some v => decide (n ≠ v + 1))
  | .T x _ => match w.num with
    | none => true
    | some v => decide (x.n ≠ v)
  | .O n => match w.num with
    | none => true
    | some v => decide (n ≠ v)
def bHands (hand : Int) (w : Wk) : Ev → Bool
  | .L _ s => !hasB s.1 hand || !hasB (if w.num.isSome = true then s.2.1 else s.2.2) hand
  | _ => false
def bRow (w : Wk) : Ev → Bool
  | .T x _ => decide (x.k ≠ ct w.cs x.c + 1)
  | _ => false
def bCau (w : Wk) : Ev → Bool
  | .T x _ => decide (x.kd ≠ "own") && !cov w.cs (posI x.cs)
  | _ => false
def bLst (r : Rc) : Ev → Bool
  | .L n s => match r.tl n with
    | none => false
    | some t => decide (t ≠ s)
  | _ => false
def bCal (r : Rc) : Ev → Bool
  | .T x _ => match r.tc x.nm with
    | none => false
    | some t => decide (t ≠ x.pt)
  | _ => false
def bOne (w : Wk) (r : Rc) (e : Ev) : Bool :=
  if goesOn w e = true then decide (w.ones ≠ (met w r).length)
  else match e with
    | .T x _ => if isO x = true then (if w.ones < (met w r).length then decide ((met w r)[w.ones]? ≠ some x.nm) else match w.num with
      | none => false
      | some n => (r.gc n).isSome) else false
    | _ => false

def sameC (m n : List (Int × Int)) : Prop := m.length = n.length ∧ ∀ p ∈ m, lkI n p.1 = some p.2
def gUpd {α β : Type} [DecidableEq α] (f : α → Option β) (a : α) (b : β) : α → Option β := fun x => if x = a then some b else f x

def gDef {α β : Type} [DecidableEq α] (f : α → Option β) (a : α) (b : β) : α → Option β := fun x => if x = a then some ((f a).getD b) else f x

def goR (w : Wk) (r : Rc) : Ev → Rc
  | .L n s => { r with tl := gDef r.tl n s, gc := match w.num with
    | none => r.gc
    | some m => gDef r.gc m w.cs }
  | .T x _ => { r with tc := gDef r.tc x.nm x.pt, mo := if isO x = true ∧ w.ones = (met w r).length then (match w.num with
    | none => r.mo
    | some n => gUpd r.mo n (met w r ++ [x.nm])) else r.mo }
  | .O _ => r
def goW (w : Wk) : Ev → Wk
  | .L n _ => ⟨some n, some n, [], 0⟩
  | .T x _ => ⟨w.num, w.new, putI w.cs x.c x.k, if isO x = true then w.ones + 1 else w.ones⟩
  | .O _ => ⟨none, w.new, w.cs, w.ones⟩

inductive Pst
  | idle (k : Nat)
  | inn (k j : Nat)

inductive Pth (C : Ctx) (O : Nat → List Kal) (hand : Int) : Pst → List Ev → Prop
  | nil {s : Pst} : Pth C O hand s []
  | come {k0 k : Nat} {es : List Ev} : k0 ≤ k → k < C.L → hasB (C.S k).1 hand = true → hasB (C.S k).2.2 hand = true → Pth C O hand (.inn k 0) es → Pth C O hand (.idle k0) (.L (C.num + k) (C.S k) :: es)
  | take {k j : Nat} {x : Kal} {why : Str} {es : List Ev} : (O k)[j]? = some x → Pth C O hand (.inn k (j + 1)) es → Pth C O hand (.inn k j) (.T x why :: es)
  | on {k : Nat} {es : List Ev} : k + 1 < C.L → hasB (C.S (k + 1)).1 hand = true → hasB (C.S (k + 1)).2.1 hand = true → Pth C O hand (.inn (k + 1) 0) es → Pth C O hand (.inn k (O k).length) (.L (C.num + (k + 1 : Nat)) (C.S (k + 1)) :: es)
  | out {k j : Nat} {es : List Ev} : Pth C O hand (.idle (k + 1)) es → Pth C O hand (.inn k j) (.O (C.num + k) :: es)
theorem Pth.take_pre {C : Ctx} {O : Nat → List Kal} {hand : Int} {s : Pst} {es : List Ev} (p : Pth C O hand s es) (n : Nat) : Pth C O hand s (es.take n) := by
  induction p generalizing n with
  | nil => rw [List.take_nil]; exact .nil
  | come a b c d _ ih => cases n with
    | zero => exact .nil
    | succ n => exact .come a b c d (ih n)
  | take a _ ih => cases n with
    | zero => exact .nil
    | succ n => exact .take a (ih n)
  | on a b c _ ih => cases n with
    | zero => exact .nil
    | succ n => exact .on a b c (ih n)
  | out _ ih => cases n with
    | zero => exact .nil
    | succ n => exact .out (ih n)

structure Ords (C : Ctx) (O : Nat → List Kal) : Prop where
  ok : ∀ k, k < C.L → K80.Ok (C.num + k) (O k)
  pm : ∀ k, k < C.L → (O k).Perm (C.R k)
  on : ∀ k, k < C.L → (O k).filter isO = (C.R k).filter isO
def onesOf (C : Ctx) (k : Nat) : List Nm3 := ((C.R k).filter isO).map Kal.nm

structure RI (C : Ctx) (r : Rc) : Prop where
  tl : ∀ n t, r.tl n = some t → ∃ k : Nat, k < C.L ∧ n = C.num + k ∧ t = C.S k
  tc : ∀ nm t, r.tc nm = some t → ∃ k : Nat, k < C.L ∧ ∃ x ∈ C.R k, nm = x.nm ∧ t = x.pt
  mo : ∀ n l, r.mo n = some l → ∃ k j : Nat, k < C.L ∧ n = C.num + k ∧ l = (onesOf C k).take j
  gc : ∀ n m, r.gc n = some m → ∃ k : Nat, k < C.L ∧ n = C.num + k ∧ (Ck m ∧ ∀ p ∈ m, 0 < p.2) ∧ (∀ h, ct m h = (cnt (C.R k) h : Nat)) ∧ (r.mo n).getD [] = onesOf C k

def WI (C : Ctx) (O : Nat → List Kal) (w : Wk) (r : Rc) : Pst → Prop
  | .idle k0 => w.num = none ∧ ∀ v, w.new = some v → v < C.num + k0
  | .inn k j => k < C.L ∧ j ≤ (O k).length ∧ w.num = some (C.num + k) ∧ w.new = some (C.num + k) ∧ (Ck w.cs ∧ ∀ p ∈ w.cs, 0 < p.2) ∧ (∀ h, ct w.cs h = (cnt ((O k).take j) h : Nat)) ∧ w.ones = (((O k).take j).filter isO).length ∧ w.ones ≤ ((r.mo (C.num + k)).getD []).length

structure NoB (hand : Int) (w : Wk) (r : Rc) (e : Ev) : Prop where
  b1 : bNum w e = false
  b2 : bHands hand w e = false
  b3 : bRow w e = false
  b4 : bCau w e = false
  b5 : bLst r e = false
  b6 : bCal r e = false
  b7 : bOne w r e = false
  b8 : goesOn w e = true → ∀ n m, w.num = some n → r.gc n = some m → sameC m w.cs
end
end K80


namespace K80
open PySem L2
section
variable {P : Program} {w : World} {K : PySem.W.Frag} {mg : Str → Option Value} {base : Heap}
theorem gdef_some {α β : Type} [DecidableEq α] {f : α → Option β} {a x : α} {b y : β} (h : gDef f a b x = some y) : f x = some y ∨ (x = a ∧ y = b) := by
  unfold gDef at h
  by_cases e : x = a
  · rw [if_pos e] at h
    cases z : f a with
    | none => rw [z] at h; exact Or.inr ⟨e, (Option.some.inj h).symm⟩
    | some v => rw [z] at h; rw [e, z]; exact Or.inl h
  · rw [if_neg e] at h; exact Or.inl h
theorem put_pos {m : List (Int × Int)} (h : ∀ p ∈ m, 0 < p.2) (k : Int) {v : Int} (hv : 0 < v) : ∀ p ∈ putI m k v, 0 < p.2 := by
  induction m with
  | nil => intro p hp; rw [List.mem_singleton.mp hp]; exact hv
  | cons q m ih =>
    obtain ⟨a, b⟩ := q
    intro p hp
    unfold putI at hp
    split at hp
    · rcases List.mem_cons.mp hp with e | e
      · rw [e]; exact hv
      · exact h p (List.mem_cons_of_mem _ e)
    · rcases List.mem_cons.mp hp with e | e
      · rw [e]; exact h _ (List.mem_cons_self ..)
      · exact ih (fun q hq => h q (List.mem_cons_of_mem _ hq)) p e
theorem same_of {m n : List (Int × Int)} (cm : Ck m) (cn : Ck n) (pm : ∀ p ∈ m, 0 < p.2) (pn : ∀ p ∈ n, 0 < p.2) (h : ∀ k, ct m k = ct n k) : sameC m n := by
  have key : ∀ {m n : List (Int × Int)}, Ck m → (∀ p ∈ m, 0 < p.2) → (∀ k, ct m k = ct n k) → ∀ k ∈ m.map (·.1), k ∈ n.map (·.1) := fun {m n} cm pm h k hk => by
    obtain ⟨p, hp, e⟩ := List.mem_map.mp hk
    refine ct_in ?_
    rw [← h k, ← e, ct_of cm.nd hp]
    exact Int.ne_of_gt (pm p hp)
  have pq : (m.map (·.1)).Perm (n.map (·.1)) := (List.perm_ext_iff_of_nodup cm.nd cn.nd).mpr fun k => ⟨key cm pm h k, key cn pn (fun k => (h k).symm) k⟩
  refine ⟨?_, fun p hp => ?_⟩
  · have := pq.length_eq
    rw [List.length_map, List.length_map] at this
    exact this
  · have e := h p.1
    rw [ct_of cm.nd hp] at e
    have q := pm p hp
    unfold ct at e
    cases z : lkI n p.1 with
    | none => rw [z] at e; rw [show p.2 = 0 from e] at q; exact absurd q (Int.lt_irrefl 0)
    | some v => rw [z] at e; rw [e]; rfl
theorem cnt_perm {l m : List Kal} (h : l.Perm m) (k : Int) : cnt l k = cnt m k := (h.filter _).length_eq
theorem fil_at {O : List Kal} {j : Nat} {x : Kal} (h : O[j]? = some x) (o : isO x = true) : (O.filter isO)[((O.take j).filter isO).length]? = some x := by
  have e : O = O.take j ++ x :: O.drop (j + 1) := by
    have := (List.take_append_drop (j + 1) O).symm
    rw [take_get h, List.append_assoc] at this
    exact this
  have e2 : O.filter isO = (O.take j).filter isO ++ x :: (O.drop (j + 1)).filter isO := by
    conv => lhs; rw [e]
    rw [List.filter_append, List.filter_cons, if_pos o]
  rw [e2, List.getElem?_append_right (Nat.le_refl _), Nat.sub_self]
  rfl
theorem RI.mo' {C : Ctx} {r : Rc} (ri : RI C r) {k : Nat} (hk : k < C.L) : ∃ j, (r.mo (C.num + k)).getD [] = (onesOf C k).take j := by
  cases z : r.mo (C.num + k) with
  | none => exact ⟨0, rfl⟩
  | some l =>
    obtain ⟨k', j, _, e, el⟩ := ri.mo _ _ z
    have : k' = k := by omega
    rw [this] at el
    exact ⟨j, el⟩
theorem RI.gc' {C : Ctx} {r : Rc} (ri : RI C r) {k : Nat} {m : List (Int × Int)} (h : r.gc (C.num + k) = some m) : (Ck m ∧ ∀ p ∈ m, 0 < p.2) ∧ (∀ h, ct m h = (cnt (C.R k) h : Nat)) ∧ (r.mo (C.num + k)).getD [] = onesOf C k := by
  obtain ⟨k', _, e, a, b, c⟩ := ri.gc _ _ h
  have : k' = k := by omega
  rw [this] at b c
  exact ⟨a, b, c⟩
theorem ri_tl {C : Ctx} {r : Rc} (ri : RI C r) {k : Nat} (h : k < C.L) : ∀ n t, gDef r.tl (C.num + k) (C.S k) n = some t → ∃ k : Nat, k < C.L ∧ n = C.num + k ∧ t = C.S k := fun n t z => by
  rcases gdef_some z with z | z
  · exact ri.tl n t z
  · exact ⟨k, h, z.1, z.2⟩
theorem ri_bl {C : Ctx} {r : Rc} (ri : RI C r) (k : Nat) : bLst r (.L (C.num + k) (C.S k)) = false := by
  show (match r.tl (C.num + k) with
    | none => false
    | some t => decide (t ≠ C.S k)) = false
  cases z : r.tl (C.num + k) with
  | none => rfl
  | some t =>
    obtain ⟨k', _, e, et⟩ := ri.tl _ _ z
    have : k' = k := by omega
    rw [this] at et
    exact decide_eq_false (fun ne => ne et)
theorem inn0 {C : Ctx} {O : Nat → List Kal} {k : Nat} (h : k < C.L) (r : Rc) : WI C O ⟨some (C.num + k), some (C.num + k), [], 0⟩ r (.inn k 0) :=
  ⟨h, Nat.zero_le _, rfl, rfl, ⟨Ck.nil, fun p hp => nomatch hp⟩, fun _ => rfl, rfl, Nat.zero_le _⟩
theorem step {C : Ctx} {O : Nat → List Kal} {hand : Int} {s : Pst} {e : Ev} {es : List Ev} {w : Wk} {r : Rc} (hO : Ords C O) (ri : RI C r) (wi : WI C O w r s) (p : Pth C O hand s (e :: es)) :
    NoB hand w r e ∧ RI C (goR w r e) ∧ ∃ s', Pth C O hand s' es ∧ WI C O (goW w e) (goR w r e) s' := by
  cases p with
  | @come k0 k _ a b c d q =>
    obtain ⟨w1, w2⟩ := wi
    have g : goesOn w (.L (C.num + k) (C.S k)) = false := by unfold goesOn; rw [w1]; rfl
    refine ⟨⟨?_, ?_, rfl, rfl, ri_bl ri k, rfl, ?_, ?_⟩, ?_, _, q, inn0 b _⟩
    · unfold bNum
      rw [w1]
      cases z : w.new with
      | none => rfl
      | some v => have := w2 v z; simp; omega
    · unfold bHands
      simp [w1, c, d]
    · unfold bOne
      rw [g]
      rfl
    · intro h; rw [g] at h; cases h
    · refine ⟨ri_tl ri b, ri.tc, ri.mo, ?_⟩
      show ∀ n m, (match w.num with
        | none => r.gc
        | some m => gDef r.gc m w.cs) n = some m → _
      rw [w1]
      exact ri.gc
  | @take k j x why _ hx q =>
    obtain ⟨w1, w2, w3, w4, ⟨w5, w5'⟩, w6, w7, w8⟩ := wi
    have mx : x ∈ O k := List.mem_of_getElem? hx
    have ok := hO.ok k w1
    have jl : j < (O k).length := (List.getElem?_eq_some_iff.mp hx).1
    have en := ok.nn x mx
    have em : met w r = (r.mo (C.num + k)).getD [] := by unfold met; rw [w3]
    obtain ⟨jj, ej⟩ := ri.mo' w1
    have eo : onesOf C k = ((O k).filter isO).map Kal.nm := by unfold onesOf; rw [hO.on k w1]
    have at1 : isO x = true → (onesOf C k)[w.ones]? = some x.nm := fun o => by
      rw [eo, List.getElem?_map, w7, fil_at hx o]; rfl
    have ngc : isO x = true → w.ones = (met w r).length → r.gc (C.num + k) = none := fun o el => by
      cases z : r.gc (C.num + k) with
      | none => rfl
      | some m =>
        have := (ri.gc' z).2.2
        rw [em, this] at el
        have h := at1 o
        rw [el, List.getElem?_eq_none (Nat.le_refl _)] at h
        cases h
    have ow : goesOn w (.T x why) = false := rfl
    refine ⟨⟨?_, rfl, ?_, ?_, rfl, ?_, ?_, fun h => by cases h⟩, ?_, _, q, w1, jl, w3, w4, ⟨w5.put (ok.rg x mx).1.1 (ok.rg x mx).1.2 ?_, put_pos w5' _ ?_⟩, ?_, ?_, ?_⟩
    · unfold bNum
      simp only [w3]
      exact decide_eq_false fun ne => ne en
    · exact decide_eq_false fun ne => ne (by rw [w6]; exact ok.row j x hx)
    · show (decide (x.kd ≠ "own") && !cov w.cs (posI x.cs)) = false
      by_cases kd : x.kd = "own"
      · rw [decide_eq_false (fun ne => ne kd)]; rfl
      · have : cov w.cs (posI x.cs) = true := (cov_iff w5 (ok.rg x mx).2).mpr fun h => by
          rw [w6]
          by_cases z : ct (posI x.cs) h = 0
          · omega
          · obtain ⟨pr, hp, e⟩ := List.mem_map.mp (ct_in z)
            rw [← e, ct_of (ok.rg x mx).2.nd hp]
            exact ok.cau j x hx kd pr (List.mem_filter.mp hp).1
        rw [this, Bool.not_true, Bool.and_false]
    · show (match r.tc x.nm with
        | none => false
        | some t => decide (t ≠ x.pt)) = false
      cases z : r.tc x.nm with
      | none => rfl
      | some t =>
        obtain ⟨k', h1, y, hy, e1, e2⟩ := ri.tc _ _ z
        have ok' := hO.ok k' h1
        have my := (hO.pm k' h1).mem_iff.mpr hy
        have e3 : x.n = y.n := congrArg (fun z : Nm3 => z.1) e1
        have e4 := ok'.nn y my
        have : k' = k := by omega
        rw [this] at my
        rw [e2, ok.one mx my e1]
        exact decide_eq_false fun ne => ne rfl
    · unfold bOne
      rw [ow, if_neg Bool.false_ne_true]
      show (if isO x = true then _ else false) = false
      by_cases o : isO x = true
      · rw [if_pos o]
        by_cases l : w.ones < (met w r).length
        · rw [if_pos l]
          refine decide_eq_false fun ne => ne ?_
          have h := at1 o
          rw [em, ej] at l ⊢
          rw [List.getElem?_take, if_pos (by rw [List.length_take] at l; omega)]
          exact h
        · rw [if_neg l]
          have el : w.ones = (met w r).length := by rw [em] at l ⊢; omega
          simp only [w3]
          rw [ngc o el]; rfl
      · rw [if_neg o]
    · have tcs : ∀ nm t, gDef r.tc x.nm x.pt nm = some t → ∃ k : Nat, k < C.L ∧ ∃ x ∈ C.R k, nm = x.nm ∧ t = x.pt := fun nm t z => by
        rcases gdef_some z with z | z
        · exact ri.tc nm t z
        · exact ⟨k, w1, x, (hO.pm k w1).mem_iff.mp mx, z.1, z.2⟩
      by_cases o : isO x = true ∧ w.ones = (met w r).length
      · refine ⟨ri.tl, tcs, ?_, ?_⟩
        · show ∀ n l, (if isO x = true ∧ w.ones = (met w r).length then (match w.num with
            | none => r.mo
            | some n => gUpd r.mo n (met w r ++ [x.nm])) else r.mo) n = some l → _
          rw [if_pos o, w3]
          intro n l z
          replace z : (if n = C.num + k then some (met w r ++ [x.nm]) else r.mo n) = some l := z
          by_cases e : n = C.num + k
          · rw [if_pos e] at z
            refine ⟨k, w.ones + 1, w1, e, ?_⟩
            rw [take_get (at1 o.1), ← Option.some.inj z]
            refine congrArg (· ++ [x.nm]) ?_
            have h := o.2
            rw [em, ej] at h ⊢
            rw [h, List.length_take, List.take_eq_take_iff]
            omega
          · rw [if_neg e] at z; exact ri.mo n l z
        · show ∀ n m, r.gc n = some m → ∃ k : Nat, k < C.L ∧ n = C.num + k ∧ (Ck m ∧ ∀ p ∈ m, 0 < p.2) ∧ (∀ h, ct m h = (cnt (C.R k) h : Nat)) ∧ ((if isO x = true ∧ w.ones = (met w r).length then (match w.num with
            | none => r.mo
            | some n => gUpd r.mo n (met w r ++ [x.nm])) else r.mo) n).getD [] = onesOf C k
          rw [if_pos o, w3]
          intro n m z
          have ne : n ≠ C.num + k := fun e => by
            rw [e, ngc o.1 o.2] at z; cases z
          have : gUpd r.mo (C.num + k) (met w r ++ [x.nm]) n = r.mo n := if_neg ne
          show ∃ k' : Nat, k' < C.L ∧ n = C.num + k' ∧ (Ck m ∧ ∀ p ∈ m, 0 < p.2) ∧ (∀ h, ct m h = (cnt (C.R k') h : Nat)) ∧ (gUpd r.mo (C.num + k) (met w r ++ [x.nm]) n).getD [] = onesOf C k'
          rw [this]
          exact ri.gc n m z
      · refine ⟨ri.tl, tcs, ?_, ?_⟩
        · show ∀ n l, (if isO x = true ∧ w.ones = (met w r).length then _ else r.mo) n = some l → _
          rw [if_neg o]
          exact ri.mo
        · show ∀ n m, r.gc n = some m → ∃ k : Nat, k < C.L ∧ n = C.num + k ∧ (Ck m ∧ ∀ p ∈ m, 0 < p.2) ∧ (∀ h, ct m h = (cnt (C.R k) h : Nat)) ∧ ((if isO x = true ∧ w.ones = (met w r).length then _ else r.mo) n).getD [] = onesOf C k
          rw [if_neg o]
          exact ri.gc
    · rw [ok.row j x hx]; omega
    · rw [ok.row j x hx]; omega
    · intro h
      show ct (putI w.cs x.c x.k) h = _
      rw [ct_put, take_get hx, cnt_app, cnt_one, w6]
      by_cases e : h = x.c
      · rw [if_pos e, if_pos e.symm, ok.row j x hx, e]; omega
      · rw [if_neg e, if_neg (fun z => e z.symm)]; omega
    · show (if isO x = true then w.ones + 1 else w.ones) = _
      rw [take_get hx, List.filter_append, List.length_append, w7]
      by_cases o : isO x = true
      · rw [if_pos o, List.filter_cons, if_pos o]; rfl
      · rw [if_neg o, List.filter_cons, if_neg o]; rfl
    · show (if isO x = true then w.ones + 1 else w.ones) ≤ (((if isO x = true ∧ w.ones = (met w r).length then (match w.num with
            | none => r.mo
            | some n => gUpd r.mo n (met w r ++ [x.nm])) else r.mo) (C.num + k)).getD []).length
      by_cases o : isO x = true
      · rw [if_pos o]
        by_cases l : w.ones = (met w r).length
        · rw [if_pos ⟨o, l⟩, w3]
          have : gUpd r.mo (C.num + k) (met w r ++ [x.nm]) (C.num + k) = some (met w r ++ [x.nm]) := if_pos rfl
          show _ ≤ ((gUpd r.mo (C.num + k) (met w r ++ [x.nm]) (C.num + k)).getD []).length
          rw [this, Option.getD_some, List.length_append]
          exact Nat.le_of_eq (by rw [← l]; rfl)
        · rw [if_neg (fun z => l z.2)]
          rw [em] at l
          omega
      · rw [if_neg o, if_neg (fun z => o z.1)]
        exact w8
  | @on k _ a b c q =>
    obtain ⟨w1, w2, w3, w4, ⟨w5, w5'⟩, w6, w7, w8⟩ := wi
    have g : goesOn w (.L (C.num + (k + 1 : Nat)) (C.S (k + 1))) = true := by unfold goesOn; rw [w3]; rfl
    have em : met w r = (r.mo (C.num + k)).getD [] := by unfold met; rw [w3]
    obtain ⟨jj, ej⟩ := ri.mo' w1
    have eo : onesOf C k = ((O k).filter isO).map Kal.nm := by unfold onesOf; rw [hO.on k w1]
    rw [List.take_length] at w7
    have lo : w.ones = (onesOf C k).length := by rw [eo, List.length_map]; exact w7
    have ml : met w r = onesOf C k := by
      rw [em, ej]
      rw [ej, List.length_take] at w8
      exact List.take_of_length_le (by omega)
    have c6 : ∀ h, ct w.cs h = (cnt (C.R k) h : Nat) := fun h => by rw [w6, List.take_length, cnt_perm (hO.pm k w1)]
    refine ⟨⟨?_, ?_, rfl, rfl, ri_bl ri (k + 1), rfl, ?_, ?_⟩, ?_, _, q, inn0 a _⟩
    · unfold bNum
      simp only [w3, w4]
      simp
      omega
    · unfold bHands
      simp [w3, b, c]
    · unfold bOne
      rw [if_pos g]
      exact decide_eq_false fun ne => ne (by rw [ml]; exact lo)
    · intro _ n m e1 e2
      rw [w3] at e1
      rw [← Option.some.inj e1] at e2
      have z := ri.gc' e2
      exact same_of z.1.1 w5 z.1.2 w5' fun h => by rw [z.2.1, c6]
    · refine ⟨ri_tl ri a, ri.tc, ri.mo, ?_⟩
      show ∀ n m, (match w.num with
        | none => r.gc
        | some m => gDef r.gc m w.cs) n = some m → _
      rw [w3]
      intro n m z
      rcases gdef_some z with z | z
      · exact ri.gc n m z
      · refine ⟨k, w1, z.1, ?_, ?_, ?_⟩
        · rw [z.2]; exact ⟨w5, w5'⟩
        · rw [z.2]; exact c6
        · show (r.mo n).getD [] = _
          rw [z.1, ← em, ml]
  | @out k j _ q =>
    obtain ⟨w1, w2, w3, w4, w5, w6, w7, w8⟩ := wi
    refine ⟨⟨?_, rfl, rfl, rfl, rfl, rfl, rfl, fun h => by cases h⟩, ri, _, q, rfl, fun v hv => ?_⟩
    · unfold bNum
      simp only [w3]
      exact decide_eq_false fun ne => ne rfl
    · have : some v = some (C.num + k) := hv.symm.trans w4
      have := Option.some.inj this
      omega
end
end K80


namespace K80
open PySem L2
abbrev s_count_of : Stmt := top 1
abbrev s_hands_among : Stmt := top 2
abbrev s_covers : Stmt := top 3
abbrev s_unpacked : Stmt := top 4
abbrev s_bit_of : Stmt := top 6
abbrev s_has : Stmt := top 7
abbrev s_Record___init__ : Stmt := inClass (top 9) 0
abbrev s_Walk___init__ : Stmt := inClass (top 10) 0
section
variable {P : Program} {w : World} {K : PySem.W.Frag} {mg : Str → Option Value} {base : Heap}
def sp_count_of (K : PySem.W.Frag) : Sp := fun vs H Q _ => ∃ (d : Addr) (m : List (Int × Int)) (h : Int), vs = [.ref d, .int h] ∧ Rd H d (.dK (dI m)) ∧ Q (.int (ct m h)) H
theorem sc_count_of : FnScope ["counts", "hand"] ["counts", "hand"] (defScope s_count_of) := ⟨rfl, rfl, rfl, by decide +kernel, rfl, by decide +kernel, by decide +kernel⟩
theorem ok_count_of {f  : Addr} {fd  : FuncData} (F : Fun K "count_of" "count_of" s_count_of f fd) : FnOk P w K mg base CX0 1 f fd ["counts", "hand"] (sp_count_of K) := by
  refine F.ok sc_count_of (fun vs H Q E h => ?_) (fun cdv A outer s H vs Q E hr h => ?_)
  · obtain ⟨d, m, h, rfl, _⟩ := h
    rfl
  obtain ⟨d, m, h, rfl, h⟩ := h
  have hu64 := hr.units
  have hu0 := hr.units0
  have hu := hu_of hr
  refine ⟨_, (pss_one (ps_ret (pe_dget2 hu (pv 0) (pv 1) pe_int ⟨rfl, rfl, rfl, rfl⟩))), ?_⟩
  obtain ⟨hd, k⟩ := h
  refine ⟨_, rfl, d, rfl, .inl ⟨_, hd⟩, _, rfl, _, .inl ⟨_, Sum.inl h, hd, rfl, rfl⟩, ?_⟩
  show Q ((valV (dI m) (Sum.inl h : Key)).getD (.int 0)) H
  rw [ct_getD]
  exact k
def sp_hands_among (K : PySem.W.Frag) : Sp := fun vs H Q _ => ∃ (a : Addr) (xs : List V) (ms : List (List (Int × Int))), vs = [.ref a] ∧ SqL K H a xs ∧ Dcs H xs ms ∧ (∀ m ∈ ms, Ck m) ∧ ms.length ≤ 10 ∧
  ∀ (H' : Hp) (l : Addr) (S : List Int), Same H H' → H' l = some (.lst (S.map V.int)) → S.Nodup → (∀ k, k ∈ S ↔ ∃ m ∈ ms, k ∈ m.map (·.1)) → Q (.ref l) H'
theorem sc_hands_among : FnScope ["some", "hands", "counts"] ["some"] (defScope s_hands_among) := ⟨rfl, rfl, rfl, by decide +kernel, rfl, by decide +kernel, by decide +kernel⟩
set_option maxHeartbeats 1000000 in
theorem ok_hands_among {f  : Addr} {fd  : FuncData} (F : Fun K "hands_among" "hands_among" s_hands_among f fd) (h_list : mg "list" = none) (h_set : mg "set" = none) (h_sorted : mg "sorted" = none) : FnOk P w K mg base CX0 1 f fd ["some"] (sp_hands_among K) := by
  refine F.ok sc_hands_among (fun vs H Q E h => ?_) (fun cdv A outer s H vs Q E hr h => ?_)
  · obtain ⟨a, xs, ms, rfl, _⟩ := h
    rfl
  obtain ⟨a, xs, ms, rfl, h⟩ := h
  have hu64 := hr.units
  have hu0 := hr.units0
  have hu := hu_of hr
  refine ⟨_, (pss_cons (ps_set (i := 1) sc_hands_among.nd rfl (Or.inl rfl) (pe_lst pa_nil))
      (pss_cons (ps_for PassesOwn.never rfl (pi_listK (K := K) rfl (pv 0)) (pg_name (i := 2) sc_hands_among.nd rfl (Or.inl rfl))
      (pss_one (ps_expr (pe_bm PySem.F.plainAttrs_list PySem.F.slot_list_extend PySem.F.type_list_extend mt_extend (pv 1) (pa_cons (pe_callTy (call_listD rfl) (by rfl) h_list PyProof.Rows.boot_list (pa_cons (pv 2) pa_nil)) pa_nil)))))
      (pss_one (ps_ret (pe_callB (call_sortedS rfl) (by rfl) h_sorted PyProof.Rows.boot_sorted (pa_cons (pe_callTy (call_setI rfl) (by rfl) h_set (show bootBuiltins "set" = some (.type "set") by decide +kernel) (pa_cons (pv 1) pa_nil)) pa_nil)))))), ?_⟩
  obtain ⟨hS, dc, ck, l10, k⟩ := h
  refine ⟨Nat.zero_le _, fun hl hhl => ?_⟩
  have lx : xs.length = ms.length := Paired.length dc
  refine ⟨_, rfl, a, rfl, ⟨_, (same_upd hhl).seq hS⟩, for_list (K := K) (a := a) (xs := xs) (fun i σ H' => ∃ v ns, σ = [some (.ref a), some (.ref hl), v] ∧ Same H H' ∧ H' hl = some (.lst (ns.map V.int)) ∧ ns.length ≤ 63 * i ∧ ∀ k, k ∈ ns ↔ ∃ m ∈ ms.take i, k ∈ m.map (·.1))
    ⟨none, [], rfl, same_upd hhl, upd_same, Nat.zero_le _, fun k => by simp⟩ (fun i σ H' _ ⟨_, _, _, sm, _⟩ => sm.seq hS) ?_ ?_⟩
  · rintro i x σ H' hx ⟨v, ns, rfl, sm, hH, hlen, hm⟩
    obtain ⟨m, hmi, d, rfl, hd⟩ := Dcs.get dc hx
    have hi := (List.getElem?_eq_some_iff.mp hmi).1
    have cm := ck m (List.mem_of_getElem? hmi)
    have lm := cm.len
    refine ⟨_, rfl, .inl ⟨rfl, _, SqL.of hH⟩, _, rfl, d, m, rfl, same_rd sm hd, by omega, fun l hl2 => ?_⟩
    have nl : hl ≠ l := ne_of_none hH hl2
    refine ⟨hl, l, _, _, rfl, rfl, by rw [upd_ne nl]; exact hH, upd_same, ?_, some (.ref d), ns ++ m.map (·.1), rfl, fun b o e => ?_, ?_, ?_, fun k => ?_⟩
    · rw [List.length_map, List.length_map, List.length_map]
      exact Nat.le_of_lt (small1000 (by omega))
    · rw [upd_ne (ne_of_none e hhl), upd_ne (ne_of_none (sm b o e) hl2)]
      exact sm b o e
    · rw [upd_same, List.map_append]
    · rw [List.length_append, List.length_map]
      omega
    · rw [take_get hmi, List.mem_append, hm k]
      constructor
      · rintro (⟨m', q1, q2⟩ | q)
        · exact ⟨m', List.mem_append_left _ q1, q2⟩
        · exact ⟨m, List.mem_append_right _ (by simp), q⟩
      · rintro ⟨m', q1, q2⟩
        rcases List.mem_append.mp q1 with z | z
        · exact .inl ⟨m', z, q2⟩
        · rw [List.mem_singleton.mp z] at q2
          exact .inr q2
  rintro σ H' ⟨v, ns, rfl, sm, hH, hlen, hm⟩
  rw [lx, List.take_length] at hm
  refine ⟨_, rfl, hl, ns, rfl, SqL.of hH, by omega, fun q ks hq nd mem => ?_⟩
  have rg : ∀ k ∈ ks, 0 ≤ k ∧ k < 63 := fun k hk => by
    obtain ⟨m, h1, h2⟩ := (hm k).mp ((mem k).mp hk)
    exact (ck m h1).keys k h2
  refine ⟨q, ks, rfl, upd_same, nd, hs_len nd rg, fun l S hl3 pm so => ?_⟩
  refine k _ l S (sm.trans ((same_upd hq).trans (same_upd hl3))) upd_same (pm.nodup_iff.mpr nd) fun j => ?_
  rw [pm.mem_iff, mem j, hm j]
def sp_covers (K : PySem.W.Frag) : Sp := fun vs H Q _ => ∃ (d e : Addr) (m n : List (Int × Int)), vs = [.ref d, .ref e] ∧ Rd H d (.dK (dI m)) ∧ Rd H e (.dK (dI n)) ∧ Ck m ∧ Ck n ∧ ∀ H', Same H H' → Q (.bl (cov m n)) H'
theorem sc_covers : FnScope ["one", "other"] ["one", "other"] (defScope s_covers) := ⟨rfl, rfl, rfl, by decide +kernel, rfl, by decide +kernel, by decide +kernel⟩
set_option maxHeartbeats 1000000 in
theorem ok_covers {f f_count_of f_hands_among : Addr} {fd fd_count_of fd_hands_among : FuncData} (F : Fun K "covers" "covers" s_covers f fd)
    (G_count_of : FnOk P w K mg base CX0 1 f_count_of fd_count_of ["counts", "hand"] (sp_count_of K)) (C_count_of : Cal K mg "count_of" f_count_of fd_count_of ["counts", "hand"])
    (G_hands_among : FnOk P w K mg base CX0 1 f_hands_among fd_hands_among ["some"] (sp_hands_among K)) (C_hands_among : Cal K mg "hands_among" f_hands_among fd_hands_among ["some"]) (h_all : mg "all" = none) : FnOk P w K mg base CX0 2 f fd ["one", "other"] (sp_covers K) := by
  refine F.ok sc_covers (fun vs H Q E h => ?_) (fun cdv A outer s H vs Q E hr h => ?_)
  · obtain ⟨d, e, m, n, rfl, _⟩ := h
    rfl
  obtain ⟨d, e, m, n, rfl, h⟩ := h
  have hu64 := hr.units
  have hu0 := hr.units0
  have hu := hu_of hr
  refine ⟨_, (pss_one (ps_ret (pe_callB (call_all rfl) (by rfl) h_all PyProof.Rows.boot_all (pa_cons (pe_comp ["one", "other", "hand"] [some 0, some 1, none] rfl rfl (by kernel_rfl) (pi_listK (K := K) rfl (pcall G_hands_among C_hands_among hr (pa_cons (pe_lst (pa_cons (pv 0) (pa_cons (pv 1) pa_nil))) pa_nil))) (fun _ _ _ _ _ nd => pg_name (i := 2) nd rfl (Or.inl rfl)) (fun _ _ _ _ _ => pif_nil) (fun _ _ _ _ _ => (pe_cmpR op_ge (pcall G_count_of C_count_of hr (pa_cons (pv 0) (pa_cons (pv 2) pa_nil))) (pcall G_count_of C_count_of hr (pa_cons (pv 1) (pa_cons (pv 2) pa_nil))) (nomark _)))) pa_nil)))), ?_⟩
  obtain ⟨hd, he, cm, cn, k⟩ := h
  refine ⟨_, rfl, _, rfl, by show 2 ≤ sizeLine; decide, fun l0 hl0 => ?_⟩
  have s0 := same_upd (o := .lst [V.ref d, .ref e]) hl0
  refine ⟨l0, _, [m, n], rfl, SqL.of upd_same, .cons ⟨d, rfl, same_rd s0 hd⟩ (.cons ⟨e, rfl, same_rd s0 he⟩ .nil), fun x hx => ?_, by show 2 ≤ 10; decide, fun H1 l S sm hl nd mem => ?_⟩
  · rcases List.mem_cons.mp hx with z | z
    · rw [z]; exact cm
    · rw [List.mem_singleton.mp z]; exact cn
  have s1 := s0.trans sm
  have rg : ∀ j ∈ S, 0 ≤ j ∧ j < 63 := fun j hj => by
    rcases two.mp ((mem j).mp hj) with z | z
    · exact cm.keys j z
    · exact cn.keys j z
  have lS := hs_len nd rg
  refine ⟨l, rfl, ⟨_, SqL.of hl⟩, fun D hD => ?_⟩
  refine comp_list (K := K) (a := l) (xs := S.map V.int) (fun i σ H' => ∃ v, σ = [some (.ref d), some (.ref e), v] ∧ Same H1 H' ∧ H' D = some (.lst (((S.take i).map fun j => decide (ct n j ≤ ct m j)).map V.bl))) ⟨none, rfl, same_upd hD, upd_same⟩ ?_ ?_ ?_
  · rintro i σ H' _ ⟨_, _, q, _⟩
    exact SqL.of (q _ _ hl)
  · rintro i x σ H' hx ⟨v, rfl, q, hDx⟩
    obtain ⟨j, hj, rfl⟩ := int_get hx
    have hil := (List.getElem?_eq_some_iff.mp hj).1
    have s2 := s1.trans q
    refine cT_yes ⟨_, rfl, _, rfl, d, m, j, rfl, same_rd s2 hd, _, rfl, _, rfl, e, n, j, rfl, same_rd s2 he, _, _, rfl, rfl, _, hDx, ?_, some (.int j), rfl, fun b o z => ?_, ?_⟩
    · rw [List.length_map, List.length_map, List.length_take]
      exact small1000 (by omega)
    · rw [upd_ne (ne_of_none z hD)]
      exact q b o z
    · rw [upd_same, take_get hj, List.map_append, List.map_append]
      rfl
  rintro σ H' ⟨v, rfl, q, hDx⟩
  rw [show S.take (S.map V.int).length = S by rw [List.length_map, List.take_length]] at hDx
  refine ⟨D, _, rfl, SqL.of hDx, ?_⟩
  have ev : ((S.map fun j => decide (ct n j ≤ ct m j)).all fun b => b) = cov m n := by
    rw [Bool.eq_iff_iff, cov_iff cm cn, List.all_eq_true]
    constructor
    · intro h j
      by_cases hj : j ∈ S
      · exact of_decide_eq_true (h _ (List.mem_map_of_mem (f := fun j => decide (ct n j ≤ ct m j)) hj))
      · rw [ct_out (fun z => hj ((mem j).mpr (two.mpr (.inr z))))]
        exact cm.ct j
    · intro h b hb
      obtain ⟨j, _, rfl⟩ := List.mem_map.mp hb
      exact decide_eq_true (h j)
  rw [ev]
  exact k _ (s1.trans q)
def sp_unpacked (K : PySem.W.Frag) : Sp := fun vs H Q _ => ∃ (a : Addr) (xs : List V) (ps : List (Int × Int)), vs = [.ref a] ∧ (SqL K H a xs ∨ SqT K H a xs) ∧ Prs H xs ps ∧ ps.length ≤ 1000 ∧ (ps.map (·.1)).Nodup ∧
  ∀ (H' : Hp) (d : Addr), Same H H' → H d = none → H' d = some (.dK (dI (posI ps))) → Q (.ref d) H'
theorem sc_unpacked : FnScope ["pairs"] ["pairs"] (defScope s_unpacked) := ⟨rfl, rfl, rfl, by decide +kernel, rfl, by decide +kernel, by decide +kernel⟩
set_option maxHeartbeats 1000000 in
theorem ok_unpacked {f  : Addr} {fd  : FuncData} (F : Fun K "unpacked" "unpacked" s_unpacked f fd) (h_dict : mg "dict" = none) : FnOk P w K mg base CX0 1 f fd ["pairs"] (sp_unpacked K) := by
  refine F.ok sc_unpacked (fun vs H Q E h => ?_) (fun cdv A outer s H vs Q E hr h => ?_)
  · obtain ⟨a, xs, ps, rfl, _⟩ := h
    rfl
  obtain ⟨a, xs, ps, rfl, h⟩ := h
  have hu64 := hr.units
  have hu0 := hr.units0
  have hu := hu_of hr
  refine ⟨_, (pss_one (ps_ret (pe_callTy (call_dictP rfl) (by rfl) h_dict PyProof.Rows.boot_dict (pa_cons (pe_comp ["hand", "count"] [none, none] rfl rfl (by kernel_rfl) (pi_seqK (K := K) rfl (pv 0)) (fun _ _ _ _ _ nd => pg_tupK (K := K) (n := 2) rfl rfl (pgs_cons (pg_name (i := 0) nd rfl (Or.inl rfl)) (pgs_cons (pg_name (i := 1) nd rfl (Or.inl rfl)) pgs_nil))) (fun _ _ _ _ _ => (pif_one (pt_cmpR op_gt (pv 1) pe_int (nomark _)))) (fun _ _ _ _ _ => (pe_tup (pa_cons (pv 0) (pa_cons (pv 1) pa_nil))))) pa_nil)))), ?_⟩
  obtain ⟨hS, hp, hlen, nd, k⟩ := h
  have lx := hp.len
  -- one turn
  have turn : ∀ (D : Addr) (_ : H D = none) (i : Nat) (x : V) (σ : St) (H' : Hp), xs[i]? = some x → (∃ v v2 ys, σ = [v, v2] ∧ Same H H' ∧ H' D = some (.lst ys) ∧ ys.length ≤ i ∧ Prs H' ys (posI (ps.take i))) →
      cTurn (gTup K 2 (gCons (gName 0) (gCons (gName 1) gNil))) (tTest (tOp (rI0 fun i j => .bl (decide (j < i))) (tVar 1) (tC (.int 0)))) (tTup (tCons (tVar 0) (tCons (tVar 1) tNil))) D
        (fun σ H' => ∃ v v2 ys, σ = [v, v2] ∧ Same H H' ∧ H' D = some (.lst ys) ∧ ys.length ≤ i + 1 ∧ Prs H' ys (posI (ps.take (i + 1)))) x σ H' := by
    rintro D hD i x σ H' hx ⟨v, v2, ys, rfl, sm, hDx, ly, pr⟩
    obtain ⟨p, hpi, b, rfl, hb⟩ := hp.get hx
    have hil := (List.getElem?_eq_some_iff.mp hpi).1
    refine ⟨b, _, rfl, SqT.of (sm _ _ hb), rfl, _, _, rfl, _, _, rfl, rfl, _, rfl, _, _, rfl, rfl, _, rfl, ite2 (fun h => ?_) fun h => ?_⟩
    · have h' : 0 < p.2 := of_decide_eq_true h
      refine ⟨_, rfl, _, rfl, by show 2 ≤ sizeLine; decide, fun q hq => ?_⟩
      have nDq : D ≠ q := ne_of_none hDx hq
      refine ⟨ys, by rw [upd_ne nDq]; exact hDx, small1000 (by omega), some (.int p.1), some (.int p.2), _, rfl, fun b o e => ?_, upd_same, by rw [List.length_append]; exact Nat.succ_le_succ ly, ?_⟩
      · rw [upd_ne (ne_of_none e hD), upd_ne (ne_of_none (sm b o e) hq)]
        exact sm b o e
      · rw [take_get hpi, pos_yes h']
        refine Prs.snoc (pr.mono fun a ys e => ?_) ⟨q, rfl, ?_⟩
        · rw [upd_ne (ne_of e hDx (by intro z; cases z)), upd_ne (ne_of_none e hq)]
          exact e
        · rw [upd_ne (Ne.symm nDq), upd_same]
    · have h' : ¬ 0 < p.2 := fun z => h (decide_eq_true z)
      refine ⟨some (.int p.1), some (.int p.2), ys, rfl, sm, hDx, Nat.le_succ_of_le ly, ?_⟩
      rw [take_get hpi, pos_no h']
      exact pr
  have fin : ∀ (D : Addr) (_ : H D = none) (σ : St) (H' : Hp), (∃ v v2 ys, σ = [v, v2] ∧ Same H H' ∧ H' D = some (.lst ys) ∧ ys.length ≤ xs.length ∧ Prs H' ys (posI (ps.take xs.length))) →
      ∃ (a : Addr) (ys : List V) (qs : List (Int × Int)), [V.ref D] = [.ref a] ∧ H' a = some (.lst ys) ∧ Prs H' ys qs ∧ (qs.map (·.1)).Nodup ∧ qs.length ≤ 1000 ∧ ∀ p, H' p = none → Q (.ref p) (upd H' p (.dK (dI qs))) := by
    rintro D hD σ H' ⟨v, v2, ys, rfl, sm, hDx, ly, pr⟩
    rw [lx, List.take_length] at pr
    refine ⟨D, ys, posI ps, rfl, hDx, pr, pos_nd nd, Nat.le_trans (pos_len ps) hlen, fun p hp' => ?_⟩
    exact k _ p (sm.trans (same_upd hp')) (sm.free hp') upd_same
  rcases hS with hS | hS
  · refine ⟨_, rfl, a, rfl, .inl ⟨⟨_, hS⟩, fun D hD => ?_⟩⟩
    exact comp_list (K := K) (a := a) (xs := xs) (fun i σ H' => ∃ v v2 ys, σ = [v, v2] ∧ Same H H' ∧ H' D = some (.lst ys) ∧ ys.length ≤ i ∧ Prs H' ys (posI (ps.take i))) ⟨none, none, [], rfl, same_upd hD, upd_same, Nat.le_refl _, .nil⟩
      (fun i σ H' _ ⟨_, _, _, _, sm, _⟩ => sm.seq hS) (turn D hD) (fin D hD)
  · refine ⟨_, rfl, a, rfl, .inr ⟨⟨_, hS⟩, fun D hD => ?_⟩⟩
    exact comp_tup (K := K) (a := a) (xs := xs) (fun i σ H' => ∃ v v2 ys, σ = [v, v2] ∧ Same H H' ∧ H' D = some (.lst ys) ∧ ys.length ≤ i ∧ Prs H' ys (posI (ps.take i))) ⟨none, none, [], rfl, same_upd hD, upd_same, Nat.le_refl _, .nil⟩
      (fun i σ H' _ ⟨_, _, _, _, sm, _⟩ => same_tup sm hS) (turn D hD) (fin D hD)
def sp_bit_of (K : PySem.W.Frag) : Sp := fun vs H Q _ => ∃ h : Int, vs = [.int h] ∧ 0 ≤ h ∧ h ≤ 1000 ∧ Q (.int (2 ^ h.toNat)) H
def sp_has (K : PySem.W.Frag) : Sp := fun vs H Q _ => ∃ n h : Int, vs = [.int n, .int h] ∧ 0 ≤ n ∧ 0 ≤ h ∧ h ≤ 1000 ∧ Q (.bl (n.toNat.testBit h.toNat)) H
theorem sc_bit_of : FnScope ["hand"] ["hand"] (defScope s_bit_of) := ⟨rfl, rfl, rfl, by decide +kernel, rfl, by decide +kernel, by decide +kernel⟩
theorem ok_bit_of {f  : Addr} {fd  : FuncData} (F : Fun K "bit_of" "bit_of" s_bit_of f fd) : FnOk P w K mg base CX0 1 f fd ["hand"] (sp_bit_of K) := by
  refine F.ok sc_bit_of (fun vs H Q E h => ?_) (fun cdv A outer s H vs Q E hr h => ?_)
  · obtain ⟨x, rfl, _⟩ := h
    rfl
  obtain ⟨x, rfl, h⟩ := h
  have hu64 := hr.units
  have hu0 := hr.units0
  have hu := hu_of hr
  refine ⟨_, (pss_one (ps_ret (pe_ifExp (pt_cmpR op_ge (pv 0) pe_int (nomark _)) (pe_op op_shl pe_int (pv 0)) pe_int))), ?_⟩
  obtain ⟨h0, h1, k⟩ := h
  refine ⟨_, rfl, _, _, rfl, rfl, _, rfl, ?_⟩
  rw [decide_eq_true (show (0 : Int) ≤ x from h0)]
  refine iteT ⟨_, rfl, _, _, rfl, rfl, ⟨h0, by omega, by decide⟩, ?_⟩
  show Q (.int (1 * 2 ^ x.toNat)) H
  rw [Int.one_mul]
  exact k
theorem sc_has : FnScope ["hands", "hand"] ["hands", "hand"] (defScope s_has) := ⟨rfl, rfl, rfl, by decide +kernel, rfl, by decide +kernel, by decide +kernel⟩
theorem ok_has {f f_bit_of : Addr} {fd fd_bit_of : FuncData} (F : Fun K "has" "has" s_has f fd)
    (G_bit_of : FnOk P w K mg base CX0 1 f_bit_of fd_bit_of ["hand"] (sp_bit_of K)) (C_bit_of : Cal K mg "bit_of" f_bit_of fd_bit_of ["hand"]) : FnOk P w K mg base CX0 2 f fd ["hands", "hand"] (sp_has K) := by
  refine F.ok sc_has (fun vs H Q E h => ?_) (fun cdv A outer s H vs Q E hr h => ?_)
  · obtain ⟨n, x, rfl, _⟩ := h
    rfl
  obtain ⟨n, x, rfl, h⟩ := h
  have hu64 := hr.units
  have hu0 := hr.units0
  have hu := hu_of hr
  refine ⟨_, (pss_one (ps_ret (pe_cmpR op_ne (pe_op op_and (pv 0) (pcall G_bit_of C_bit_of hr (pa_cons (pv 1) pa_nil))) pe_int (nomark _)))), ?_⟩
  obtain ⟨hn, h0, h1, k⟩ := h
  refine ⟨_, rfl, _, rfl, x, rfl, h0, h1, _, _, rfl, rfl, rfl, ?_⟩
  show Q (.bl (!decide (V.int (Builtin.bitAnd n (2 ^ x.toNat)) = V.int 0))) H
  rw [and_test hn h0]
  exact k
def nO : Option Int → V
  | none => .non
  | some n => .int n

def TrA (H : Hp) (v : V) (s : Nm3) : Prop := ∃ t, v = .ref t ∧ H t = some (.tup [.int s.1, .int s.2.1, .int s.2.2])
def CsA (H : Hp) (v : V) (cs : List (Int × Int)) : Prop := ∃ t xs, v = .ref t ∧ H t = some (.tup xs) ∧ Prs H xs cs
def PtA (H : Hp) (v : V) (p : Prt) : Prop := ∃ t cv, v = .ref t ∧ H t = some (.tup [.str p.1, .int p.2.1, cv]) ∧ CsA H cv p.2.2
def MoA (H : Hp) (v : V) (l : List Nm3) : Prop := ∃ a xs, v = .ref a ∧ H a = some (.lst xs) ∧ Paired (TrA H) xs l

def EvA (H : Hp) (v : V) : Ev → Prop
  | .L n s => ∃ t, v = .ref t ∧ H t = some (.tup [.str "list", .int n, .int s.1, .int s.2.1, .int s.2.2]) ∧ 0 ≤ s.1 ∧ 0 ≤ s.2.1 ∧ 0 ≤ s.2.2
  | .T x why => ∃ t nv cv, v = .ref t ∧ H t = some (.tup [.str "take", nv, .str x.kd, .int x.wd, cv, .str why]) ∧ TrA H nv x.nm ∧ CsA H cv x.cs ∧ (x.cs.map (·.1)).Nodup ∧ x.cs.length ≤ 100 ∧ Ck (posI x.cs) ∧ (0 ≤ x.c ∧ x.c < 63) ∧ 0 ≤ x.k ∧ (PyData.str x.kd).canLay0 = true
  | .O n => ∃ t, v = .ref t ∧ H t = some (.tup [.str "out", .int n])
theorem TrA.up {H H' : Hp} (s : SmH H H') {v : V} {p : Nm3} (h : TrA H v p) : TrA H' v p := by
  obtain ⟨t, e1, e2⟩ := h
  exact ⟨t, e1, s _ _ e2⟩
theorem CsA.up {H H' : Hp} (s : SmH H H') {v : V} {p : List (Int × Int)} (h : CsA H v p) : CsA H' v p := by
  obtain ⟨t, xs, e1, e2, e3⟩ := h
  exact ⟨t, xs, e1, s _ _ e2, e3.mono s⟩
theorem PtA.up {H H' : Hp} (s : SmH H H') {v : V} {p : Prt} (h : PtA H v p) : PtA H' v p := by
  obtain ⟨t, cv, e1, e2, e3⟩ := h
  exact ⟨t, cv, e1, s _ _ e2, e3.up s⟩
theorem EvA.up {H H' : Hp} (s : SmH H H') {v : V} {e : Ev} (h : EvA H v e) : EvA H' v e := by
  cases e with
  | L n q => obtain ⟨t, e1, e2, e3⟩ := h; exact ⟨t, e1, s _ _ e2, e3⟩
  | T x why => obtain ⟨t, nv, cv, e1, e2, e3, e4, e5⟩ := h; exact ⟨t, nv, cv, e1, s _ _ e2, e3.up s, e4.up s, e5⟩
  | O n => obtain ⟨t, e1, e2⟩ := h; exact ⟨t, e1, s _ _ e2⟩
def RO {α β : Type} (R : α → β → Prop) : Option α → Option β → Prop
  | none, none => True
  | some a, some b => R a b
  | _, _ => False
theorem RO.imp {α β : Type} {R S : α → β → Prop} (h : ∀ a b, R a b → S a b) : ∀ {x : Option α} {y : Option β}, RO R x y → RO S x y
  | none, none, _ => True.intro
  | some _, some _, q => h _ _ q
  | none, some _, q => q.elim
  | some _, none, q => q.elim
theorem RO.no {α β : Type} {R : α → β → Prop} {x : Option α} (h : RO R x none) : x = none := by
  cases x with
  | none => rfl
  | some a => exact h.elim
theorem RO.yes {α β : Type} {R : α → β → Prop} {x : Option α} {b : β} (h : RO R x (some b)) : ∃ a, x = some a ∧ R a b := by
  cases x with
  | none => exact h.elim
  | some a => exact ⟨a, rfl, h⟩
def k3 (p : Nm3) : List Key := [Sum.inl p.1, Sum.inl p.2.1, Sum.inl p.2.2]

structure RQ where
  d1 : Addr
  d2 : Addr
  d3 : Addr
  d4 : Addr
  m1 : List (Int × V)
  m2 : List (List Key × V)
  m3 : List (Int × V)
  m4 : List (Int × V)
def GcA (q : RQ) (H : Hp) (v : V) (m : List (Int × Int)) : Prop := ∃ a, v = .ref a ∧ H a = some (.dK (dI m)) ∧ a ≠ q.d1 ∧ a ≠ q.d3 ∧ a ≠ q.d4
structure RcA (K : PySem.W.Frag) (mg : Str → Option Value) (H0 H : Hp) (rp : Addr) (r : Rc) (N : Nat) (q : RQ) : Prop where
  ob : ∃ C dx, mg "Record" = some (.ref C) ∧ H rp = some (.ins C dx (rcf (.ref q.d1) (.ref q.d2) (.ref q.d3) (.ref q.d4)))
  e1 : H q.d1 = some (.dK (dG q.m1))
  e2 : H q.d2 = some (.dT q.m2)
  e3 : H q.d3 = some (.dK (dG q.m3))
  e4 : H q.d4 = some (.dK (dG q.m4))
  l1 : q.m1.length ≤ N
  l2 : q.m2.length ≤ N
  l3 : q.m3.length ≤ N
  l4 : q.m4.length ≤ N
  r1 : ∀ n, RO (TrA H) (valV (dG q.m1) (Sum.inl n)) (r.tl n)
  r2 : ∀ p, RO (PtA H) (valV q.m2 (k3 p)) (r.tc p)
  r3 : ∀ n, RO (fun v l => MoA H v l ∧ l.length ≤ N) (valV (dG q.m3) (Sum.inl n)) (r.mo n)
  r4 : ∀ n, RO (GcA q H) (valV (dG q.m4) (Sum.inl n)) (r.gc n)
  f0 : H0 rp = none
  f1 : H0 q.d1 = none
  f2 : H0 q.d2 = none
  f3 : H0 q.d3 = none
  f4 : H0 q.d4 = none
  n13 : q.d1 ≠ q.d3
  n14 : q.d1 ≠ q.d4
  n34 : q.d3 ≠ q.d4
  sm : Same H0 H
  nd1 : (q.m1.map (·.1)).Nodup
  nd3 : (q.m3.map (·.1)).Nodup
  nd4 : (q.m4.map (·.1)).Nodup
structure WkA (K : PySem.W.Frag) (mg : Str → Option Value) (H0 H : Hp) (wp rp : Addr) (hand : Int) (w : Wk) (q : RQ) (cd : Addr) : Prop where
  ob : ∃ C dx, mg "Walk" = some (.ref C) ∧ H wp = some (.ins C dx (wkf (.int hand) (.ref rp) (nO w.num) (nO w.new) (.ref cd) (.int w.ones)))
  ec : H cd = some (.dK (dI w.cs))
  ck : Ck w.cs
  h0 : 0 ≤ hand
  h1 : hand < 63
  fw : H0 wp = none
  fc : H0 cd = none
  c1 : cd ≠ q.d1
  c3 : cd ≠ q.d3
  c4 : cd ≠ q.d4
  cv : ∀ n v, valV (dG q.m4) (Sum.inl n) = some v → v ≠ .ref cd
  nr : wp ≠ rp
theorem RcA.same {H0 H H' : Hp} {rp : Addr} {r : Rc} {N : Nat} {q : RQ} (h : RcA K mg H0 H rp r N q) (s : Same H H') : RcA K mg H0 H' rp r N q := by
  obtain ⟨C, dx, o1, o2⟩ := h.ob
  exact ⟨⟨C, dx, o1, s _ _ o2⟩, s _ _ h.e1, s _ _ h.e2, s _ _ h.e3, s _ _ h.e4, h.l1, h.l2, h.l3, h.l4, fun n => (h.r1 n).imp fun _ _ z => z.up (.same s), fun n => (h.r2 n).imp fun _ _ z => z.up (.same s),
    fun n => (h.r3 n).imp fun _ _ ⟨⟨a, xs, z1, z2, z3⟩, z4⟩ => ⟨⟨a, xs, z1, s _ _ z2, Paired.mapP z3 fun _ _ y => y.up (.same s)⟩, z4⟩, fun n => (h.r4 n).imp fun _ _ ⟨a, z1, z2, z3⟩ => ⟨a, z1, s _ _ z2, z3⟩, h.f0, h.f1, h.f2, h.f3, h.f4, h.n13, h.n14, h.n34, h.sm.trans s, h.nd1, h.nd3, h.nd4⟩
theorem WkA.same {H0 H H' : Hp} {wp rp cd : Addr} {hand : Int} {w : Wk} {q : RQ} (h : WkA K mg H0 H wp rp hand w q cd) (s : Same H H') : WkA K mg H0 H' wp rp hand w q cd := by
  obtain ⟨C, dx, o1, o2⟩ := h.ob
  exact ⟨⟨C, dx, o1, s _ _ o2⟩, s _ _ h.ec, h.ck, h.h0, h.h1, h.fw, h.fc, h.c1, h.c3, h.c4, h.cv, h.nr⟩
def sp_Record___init__ (K : PySem.W.Frag) : Sp := fun vs H Q _ => ∃ (p : Addr), vs = [.ref p] ∧ ∃ C dx, TRecord K C ∧ H p = some (.ins C dx []) ∧ ∀ H' d1 d2 d3 d4, (∀ b o, H b = some o → b ≠ p → H' b = some o) → H d1 = none → H d2 = none → H d3 = none → H d4 = none → d1 ≠ d3 → d1 ≠ d4 → d3 ≠ d4 → H' d1 = some (.dK []) → H' d2 = some (.dT []) → H' d3 = some (.dK []) → H' d4 = some (.dK []) → H' p = some (.ins C dx (rcf (.ref d1) (.ref d2) (.ref d3) (.ref d4))) → Q .non H'
theorem sc_Record___init__ : FnScope ["self"] ["self"] (defScope s_Record___init__) := ⟨rfl, rfl, rfl, by decide +kernel, rfl, by decide +kernel, by decide +kernel⟩
set_option maxHeartbeats 1000000 in
theorem ok_Record___init__ {f  : Addr} {fd  : FuncData} (F : Fun K "__init__" "Record.__init__" s_Record___init__ f fd) : FnOk P w K mg base CX0 1 f fd ["self"] (sp_Record___init__ K) := by
  refine F.ok sc_Record___init__ (fun vs H Q E h => ?_) (fun cdv A outer s H vs Q E hr h => ?_)
  · obtain ⟨p, rfl, _⟩ := h
    rfl
  obtain ⟨p, rfl, h⟩ := h
  have hu64 := hr.units
  have hu0 := hr.units0
  have hu := hu_of hr
  refine ⟨_, (pss_cons (ps_fldK (K := K) rfl (pv 0) pe_dnewK rfl)
      (pss_cons (ps_fldK (K := K) rfl (pv 0) pe_dnewT rfl)
      (pss_cons (ps_fldK (K := K) rfl (pv 0) pe_dnewK rfl)
      (pss_one (ps_fldK (K := K) rfl (pv 0) pe_dnewK rfl))))), ?_⟩
  obtain ⟨C, dx, ⟨cl, n1, n2, n3, n4⟩, hp, q⟩ := h
  clean_wf
  intro d1 H1 z1 s1 g1
  have hp1 := s1 _ _ hp
  clean_wf
  intro H2 b2 p2
  have n1p : d1 ≠ p := ne_of g1 hp1 (by intro z; cases z)
  have g1 := b2.at n1p g1
  clean_wf
  intro d2 z2
  have s3 := same_upd (o := .dT []) z2
  have g2 : (upd H2 d2 (.dT [])) d2 = some (.dT []) := upd_same
  generalize upd H2 d2 (.dT []) = H3 at s3 g2 ⊢
  have p3 := s3 _ _ p2
  clean_wf
  intro H4 b4 p4
  have n2p : d2 ≠ p := ne_of g2 p3 (by intro z; cases z)
  have g1 := b4.at n1p (s3 _ _ g1)
  have g2 := b4.at n2p g2
  clean_wf
  intro d3 H5 z3 s5 g3
  have p5 := s5 _ _ p4
  clean_wf
  intro H6 b6 p6
  have n3p : d3 ≠ p := ne_of g3 p5 (by intro z; cases z)
  have g1' := b6.at n1p (s5 _ _ g1)
  have g2 := b6.at n2p (s5 _ _ g2)
  have g3 := b6.at n3p g3
  clean_wf
  intro d4 H7 z4 s7 g4
  have p7 := s7 _ _ p6
  clean_wf
  intro H8 b8 p8
  have n4p : d4 ≠ p := ne_of g4 p7 (by intro z; cases z)
  rw [chf_rput] at p8
  clean_wf
  have bk : ∀ {b : Addr} {o : HO}, H b = some o → b ≠ p → H4 b = some o := fun e n => b4.at n (s3 _ _ (b2.at n (s1 _ _ e)))
  refine q H8 d1 d2 d3 d4 (fun b o e n => b8.at n (s7 _ _ (b6.at n (s5 _ _ (bk e n))))) z1 ?_ ?_ ?_ ?_ ?_ ?_ (b8.at n1p (s7 _ _ g1')) (b8.at n2p (s7 _ _ g2)) (b8.at n3p (s7 _ _ g3)) (b8.at n4p g4) p8
  · cases z : H d2 with
    | none => rfl
    | some o => rw [b2.at n2p (s1 _ _ z)] at z2; cases z2
  · cases z : H d3 with
    | none => rfl
    | some o => rw [bk z n3p] at z3; cases z3
  · cases z : H d4 with
    | none => rfl
    | some o => rw [b6.at n4p (s5 _ _ (bk z n4p))] at z4; cases z4
  · intro z; rw [← z, g1] at z3; cases z3
  · intro z; rw [← z, g1'] at z4; cases z4
  · intro z; rw [← z, g3] at z4; cases z4
def sp_Walk___init__ (K : PySem.W.Frag) : Sp := fun vs H Q _ => ∃ (p : Addr) (h : Int) (r : Addr), vs = [.ref p, .int h, .ref r] ∧ ∃ C dx, TWalk K C ∧ H p = some (.ins C dx []) ∧ ∀ H' d, (∀ b o, H b = some o → b ≠ p → H' b = some o) → H d = none → H' d = some (.dK []) → H' p = some (.ins C dx (wkf (.int h) (.ref r) .non .non (.ref d) (.int 0))) → Q .non H'
theorem sc_Walk___init__ : FnScope ["self", "hand", "record"] ["self", "hand", "record"] (defScope s_Walk___init__) := ⟨rfl, rfl, rfl, by decide +kernel, rfl, by decide +kernel, by decide +kernel⟩
set_option maxHeartbeats 1000000 in
theorem ok_Walk___init__ {f  : Addr} {fd  : FuncData} (F : Fun K "__init__" "Walk.__init__" s_Walk___init__ f fd) : FnOk P w K mg base CX0 1 f fd ["self", "hand", "record"] (sp_Walk___init__ K) := by
  refine F.ok sc_Walk___init__ (fun vs H Q E h => ?_) (fun cdv A outer s H vs Q E hr h => ?_)
  · obtain ⟨p, h', r, rfl, _⟩ := h
    rfl
  obtain ⟨p, h', r, rfl, h⟩ := h
  have hu64 := hr.units
  have hu0 := hr.units0
  have hu := hu_of hr
  refine ⟨_, (pss_cons (ps_fldK (K := K) rfl (pv 0) (pv 1) rfl)
      (pss_cons (ps_fldK (K := K) rfl (pv 0) (pv 2) rfl)
      (pss_cons (ps_fldK (K := K) rfl (pv 0) pe_non rfl)
      (pss_cons (ps_fldK (K := K) rfl (pv 0) pe_non rfl)
      (pss_cons (ps_fldK (K := K) rfl (pv 0) pe_dnewK rfl)
      (pss_one (ps_fldK (K := K) rfl (pv 0) pe_int rfl))))))), ?_⟩
  obtain ⟨C, dx, ⟨cl, n1, n2, n3, n4, n5, n6⟩, hp, q⟩ := h
  clean_wf
  intro H1 b1 g1
  clean_wf
  intro H2 b2 g2
  clean_wf
  intro H3 b3 g3
  clean_wf
  intro H4 b4 g4
  clean_wf
  intro d H6 hd6 s6 g6
  have g5' := s6 _ _ g4
  clean_wf
  intro H7 b7 g7
  clean_wf
  intro H8 b8 g8
  rw [chf_wput] at g8
  have nd : d ≠ p := fun z => by rw [z, g4] at hd6; cases hd6
  refine q H8 d (fun b o e n => b8.at n (b7.at n (s6 _ _ (b4.at n (b3.at n (b2.at n (b1.at n e))))))) ?_ (b8.at nd (b7.at nd g6)) g8
  cases z : H d with
  | none => rfl
  | some o => rw [b4.at nd (b3.at nd (b2.at nd (b1.at nd z)))] at hd6; cases hd6
end
end K80


namespace K80
open PySem L2
abbrev s_Walk_goes_on : Stmt := inClass (top 10) 1
abbrev s_Walk_takes_one : Stmt := inClass (top 10) 2
abbrev s_Walk_ones_on_record : Stmt := inClass (top 10) 3
abbrev s_breaks_number : Stmt := top 11
section
variable {P : Program} {w : World} {K : PySem.W.Frag} {mg : Str → Option Value} {base : Heap}
def sp_Walk_goes_on (K : PySem.W.Frag) (mg : Str → Option Value) : Sp := fun vs H Q _ => ∃ (p : Addr) (ev : V), vs = [.ref p, ev] ∧ ∃ H0 rp hand w q cd e, WkA K mg H0 H p rp hand w q cd ∧ EvA H ev e ∧ Q (.bl (goesOn w e)) H
theorem sc_Walk_goes_on : FnScope ["self", "event"] ["self", "event"] (defScope s_Walk_goes_on) := ⟨rfl, rfl, rfl, by decide +kernel, rfl, by decide +kernel, by decide +kernel⟩
set_option maxHeartbeats 1000000 in
theorem ok_Walk_goes_on {f  C_Walk : Addr} {fd  : FuncData} (F : Fun K "goes_on" "Walk.goes_on" s_Walk_goes_on f fd) (T_Walk : TWalk K C_Walk) (m_Walk : mg "Walk" = some (.ref C_Walk)) : FnOk P w K mg base CX0 1 f fd ["self", "event"] (sp_Walk_goes_on K mg) := by
  refine F.ok sc_Walk_goes_on (fun vs H Q E h => ?_) (fun cdv A outer s H vs Q E hr h => ?_)
  · obtain ⟨p, ev, rfl, _⟩ := h
    rfl
  obtain ⟨p, ev, rfl, h⟩ := h
  have hu64 := hr.units
  have hu0 := hr.units0
  have hu := hu_of hr
  refine ⟨_, (pss_one (ps_ret (pe_and (pe_cmpR op_eq (pe_ix (ix_tupK (K := K) rfl) (pv 1) pe_int (fun _ _ => rfl)) pe_str (nomark _)) (pe_one (pe_cmpR op_notN (pe_fldK (K := K) rfl (pv 0) rfl) pe_non (nomark _)))))), ?_⟩
  obtain ⟨H0, rp, hand, w', q, cd, e, W, he, kk⟩ := h
  obtain ⟨C, dx, eC, hp⟩ := W.ob
  rw [m_Walk] at eC
  cases eC
  obtain ⟨cl, n1, n2, n3, n4, n5, n6⟩ := id T_Walk
  cases e with
  | L n s' =>
    obtain ⟨t, rfl, ht, _⟩ := he
    have st := SqT.of (K := K) ht
    clean_wf
    rw [if_pos (decide_eq_true rfl)]
    unfold goesOn at kk
    cases z : w'.num with
    | none => rw [z] at kk hp; clean_wf; exact kk
    | some v => rw [z] at kk hp; clean_wf; exact kk
  | T x why =>
    obtain ⟨t, nv, cv, rfl, ht, _⟩ := he
    have st := SqT.of (K := K) ht
    clean_wf
    exact kk
  | O n =>
    obtain ⟨t, rfl, ht⟩ := he
    have st := SqT.of (K := K) ht
    clean_wf
    exact kk
def sp_Walk_takes_one (K : PySem.W.Frag) : Sp := fun vs H Q _ => ∃ (p ev : V), vs = [p, ev] ∧ ∃ e, EvA H ev e ∧ Q (.bl (takesOne e)) H
theorem sc_Walk_takes_one : FnScope ["self", "event"] ["self", "event"] (defScope s_Walk_takes_one) := ⟨rfl, rfl, rfl, by decide +kernel, rfl, by decide +kernel, by decide +kernel⟩
set_option maxHeartbeats 1000000 in
theorem ok_Walk_takes_one {f  : Addr} {fd  : FuncData} (F : Fun K "takes_one" "Walk.takes_one" s_Walk_takes_one f fd) : FnOk P w K mg base CX0 1 f fd ["self", "event"] (sp_Walk_takes_one K) := by
  refine F.ok sc_Walk_takes_one (fun vs H Q E h => ?_) (fun cdv A outer s H vs Q E hr h => ?_)
  · obtain ⟨p, ev, rfl, _⟩ := h
    rfl
  obtain ⟨p, ev, rfl, h⟩ := h
  have hu64 := hr.units
  have hu0 := hr.units0
  have hu := hu_of hr
  refine ⟨_, (pss_one (ps_ret (pe_and (pe_cmpR op_eq (pe_ix (ix_tupK (K := K) rfl) (pv 1) pe_int (fun _ _ => rfl)) pe_str (nomark _)) (pe_one (pe_cmpR op_eq (pe_ix (ix_tupK (K := K) rfl) (pv 1) pe_int (fun _ _ => rfl)) pe_str (nomark _)))))), ?_⟩
  obtain ⟨e, he, kk⟩ := h
  cases e with
  | L n s' =>
    obtain ⟨t, rfl, ht, _⟩ := he
    have st := SqT.of (K := K) ht
    clean_wf
    exact kk
  | T x why =>
    obtain ⟨t, nv, cv, rfl, ht, _⟩ := he
    have st := SqT.of (K := K) ht
    clean_wf
    rw [if_pos (decide_eq_true rfl)]
    clean_wf
    exact kk
  | O n =>
    obtain ⟨t, rfl, ht⟩ := he
    have st := SqT.of (K := K) ht
    clean_wf
    exact kk
def sp_Walk_ones_on_record (K : PySem.W.Frag) (mg : Str → Option Value) : Sp := fun vs H Q _ => ∃ (p : Addr), vs = [.ref p] ∧ ∃ H0 rp hand w q cd r N, WkA K mg H0 H p rp hand w q cd ∧ RcA K mg H0 H rp r N q ∧ ∀ H' v, Same H H' → MoA H' v (met w r) → (met w r).length ≤ N → Q v H'
theorem sc_Walk_ones_on_record : FnScope ["self"] ["self"] (defScope s_Walk_ones_on_record) := ⟨rfl, rfl, rfl, by decide +kernel, rfl, by decide +kernel, by decide +kernel⟩
set_option maxHeartbeats 1000000 in
theorem ok_Walk_ones_on_record {f  C_Record C_Walk : Addr} {fd  : FuncData} (F : Fun K "ones_on_record" "Walk.ones_on_record" s_Walk_ones_on_record f fd) (T_Record : TRecord K C_Record) (T_Walk : TWalk K C_Walk) (m_Record : mg "Record" = some (.ref C_Record)) (m_Walk : mg "Walk" = some (.ref C_Walk)) : FnOk P w K mg base CX0 1 f fd ["self"] (sp_Walk_ones_on_record K mg) := by
  refine F.ok sc_Walk_ones_on_record (fun vs H Q E h => ?_) (fun cdv A outer s H vs Q E hr h => ?_)
  · obtain ⟨p, rfl, _⟩ := h
    rfl
  obtain ⟨p, rfl, h⟩ := h
  have hu64 := hr.units
  have hu0 := hr.units0
  have hu := hu_of hr
  refine ⟨_, (pss_one (ps_ret (pe_dgetN hu (pe_fldK (K := K) rfl (pe_fldK (K := K) rfl (pv 0) rfl) rfl) (pe_fldK (K := K) rfl (pv 0) rfl) (pe_lst pa_nil) ⟨rfl, rfl, rfl, rfl⟩))), ?_⟩
  obtain ⟨H0, rp, hand, w', q, cd, r, N, W, R, kk⟩ := h
  obtain ⟨C, dx, eC, hp⟩ := W.ob
  rw [m_Walk] at eC
  cases eC
  obtain ⟨C2, dx2, eC2, hrp⟩ := R.ob
  rw [m_Record] at eC2
  cases eC2
  obtain ⟨cl, n1, n2, n3, n4, n5, n6⟩ := id T_Walk
  obtain ⟨cl', n1', n2', n3', n4'⟩ := id T_Record
  have e3 := R.e3
  unfold L2.tRet L2.tDGetN
  clean_wf
  intro l H1 z1 s1 g1
  cases z : w'.num with
  | none =>
    have em : met w' r = [] := by unfold met; rw [z]
    rw [em] at kk
    exact .inl ⟨rfl, ⟨_, .inl (s1 _ _ e3)⟩, kk H1 (.ref l) s1 ⟨l, [], rfl, g1, .nil⟩ (Nat.zero_le _)⟩
  | some n =>
    have em : met w' r = (r.mo n).getD [] := by unfold met; rw [z]
    rw [em] at kk
    refine .inr ⟨_, .inl ⟨_, Sum.inl n, .inl (s1 _ _ e3), rfl, rfl⟩, ?_⟩
    have hr3 := (R.same s1).r3 n
    cases y : r.mo n with
    | none =>
      rw [y] at kk hr3
      rw [hr3.no]
      exact kk H1 (.ref l) s1 ⟨l, [], rfl, g1, .nil⟩ (Nat.zero_le _)
    | some m =>
      rw [y] at kk hr3
      obtain ⟨v, ev, hm, hl⟩ := hr3.yes
      rw [ev]
      exact kk H1 v s1 hm hl
theorem nn_dec : decide (V.non = V.non) = true := rfl
theorem ni_dec (v : Int) : decide (V.int v = V.non) = false := decide_eq_false (by intro z; cases z)
theorem s_tl : decide (("take" : Str) = "list") = false := by kernel_rfl
theorem s_ol : decide (("out" : Str) = "list") = false := by kernel_rfl
theorem s_ot : decide (("out" : Str) = "take") = false := by kernel_rfl
def sp_brk (K : PySem.W.Frag) (mg : Str → Option Value) : Sp := fun vs H Q _ => ∃ (p : Addr) (ev : V), vs = [.ref p, ev] ∧ ∃ H0 rp hand w q cd r N e, RcA K mg H0 H rp r N q ∧ WkA K mg H0 H p rp hand w q cd ∧ EvA H ev e ∧ NoB hand w r e ∧ N ≤ 500 ∧ ∀ H', Same H H' → Q (.bl false) H'
def sp_breaks_number (K : PySem.W.Frag) (mg : Str → Option Value) : Sp := sp_brk K mg
theorem sc_breaks_number : FnScope ["walk", "event", "falls", "number"] ["walk", "event"] (defScope s_breaks_number) := ⟨rfl, rfl, rfl, by decide +kernel, rfl, by decide +kernel, by decide +kernel⟩
set_option maxHeartbeats 1000000 in
theorem ok_breaks_number {f  C_Walk : Addr} {fd  : FuncData} (F : Fun K "breaks_number" "breaks_number" s_breaks_number f fd) (T_Walk : TWalk K C_Walk) (m_Walk : mg "Walk" = some (.ref C_Walk)) : FnOk P w K mg base CX0 1 f fd ["walk", "event"] (sp_breaks_number K mg) := by
  refine F.ok sc_breaks_number (fun vs H Q E h => ?_) (fun cdv A outer s H vs Q E hr h => ?_)
  · obtain ⟨p, ev, rfl, _⟩ := h
    rfl
  obtain ⟨p, ev, rfl, h⟩ := h
  have hu64 := hr.units
  have hu0 := hr.units0
  have hu := hu_of hr
  refine ⟨_, (pss_cons (ps_if (pt_cmpR op_eq (pe_ix (ix_tupK (K := K) rfl) (pv 1) pe_int (fun _ _ => rfl)) pe_str (nomark _)) (pss_cons (ps_set (i := 2) sc_breaks_number.nd rfl (Or.inl rfl) (pe_and (pe_cmpR op_notN (pe_fldK (K := K) rfl (pv 0) rfl) pe_non (nomark _)) (pe_one (pe_cmpR op_le (pe_ix (ix_tupK (K := K) rfl) (pv 1) pe_int (fun _ _ => rfl)) (pe_fldK (K := K) rfl (pv 0) rfl) (nomark _)))))
      (pss_one (ps_ret (pe_or (pv 2) (pe_one (pe_and (pe_cmpR op_notN (pe_fldK (K := K) rfl (pv 0) rfl) pe_non (nomark _)) (pe_one (pe_cmpR op_ne (pe_ix (ix_tupK (K := K) rfl) (pv 1) pe_int (fun _ _ => rfl)) (pe_op op_add (pe_fldK (K := K) rfl (pv 0) rfl) pe_int) (nomark _))))))))) pss_nil)
      (pss_cons (ps_set (i := 3) sc_breaks_number.nd rfl (Or.inl rfl) (pe_ifExp (pt_cmpR op_eq (pe_ix (ix_tupK (K := K) rfl) (pv 1) pe_int (fun _ _ => rfl)) pe_str (nomark _)) (pe_ix (ix_tupK (K := K) rfl) (pe_ix (ix_tupK (K := K) rfl) (pv 1) pe_int (fun _ _ => rfl)) pe_int (fun _ _ => rfl)) (pe_ix (ix_tupK (K := K) rfl) (pv 1) pe_int (fun _ _ => rfl))))
      (pss_one (ps_ret (pe_or (pe_cmpR op_isN (pe_fldK (K := K) rfl (pv 0) rfl) pe_non (nomark _)) (pe_one (pe_cmpR op_ne (pv 3) (pe_fldK (K := K) rfl (pv 0) rfl) (nomark _)))))))), ?_⟩
  obtain ⟨H0, rp, hand, w', q, cd, r, N, e, R, W, he, nb, _, kk⟩ := h
  obtain ⟨C, dx, eC, hp⟩ := W.ob
  rw [m_Walk] at eC
  cases eC
  obtain ⟨cl, n1, n2, n3, n4, n5, n6⟩ := id T_Walk
  have b := nb.b1
  unfold bNum at b
  cases e with
  | L n s' =>
    obtain ⟨t, rfl, ht, _⟩ := he
    have st := SqT.of (K := K) ht
    refine x_seq ?_
    clean_wf
    rw [if_pos (decide_eq_true rfl)]
    cases z1 : w'.new with
    | none =>
      cases z2 : w'.num with
      | none =>
        simp only [z1, z2, nO] at hp
        clean_wf
        rw [nn_dec]
        clean_wf
        rw [nn_dec]
        clean_wf
        exact kk H (.refl _)
      | some v2 =>
        simp only [z1, z2, nO] at hp b
        have b2 : n = v2 + 1 := by simpa using b
        clean_wf
        rw [nn_dec]
        clean_wf
        rw [ni_dec]
        clean_wf
        rw [decide_eq_true b2]
        exact kk H (.refl _)
    | some v1 =>
      cases z2 : w'.num with
      | none =>
        simp only [z1, z2, nO] at hp b
        have b1 : ¬ n ≤ v1 := by simpa using b
        clean_wf
        rw [ni_dec]
        clean_wf
        rw [decide_eq_false b1]
        clean_wf
        rw [nn_dec]
        clean_wf
        exact kk H (.refl _)
      | some v2 =>
        simp only [z1, z2, nO] at hp b
        have b2 : v1 < n ∧ n = v2 + 1 := by simpa using b
        have b1 : ¬ n ≤ v1 := by omega
        clean_wf
        rw [ni_dec]
        clean_wf
        rw [decide_eq_false b1]
        clean_wf
        rw [ni_dec]
        clean_wf
        rw [decide_eq_true b2.2]
        exact kk H (.refl _)
  | T x why =>
    obtain ⟨t, nv, cv, rfl, ht, hn, _⟩ := he
    obtain ⟨u, rfl, hu'⟩ := hn
    have st := SqT.of (K := K) ht
    have su := SqT.of (K := K) hu'
    cases z2 : w'.num with
    | none => rw [z2] at b; cases b
    | some v2 =>
      simp only [z2, nO] at hp b
      have b2 : x.n = v2 := by simpa using b
      refine x_seq ?_
      clean_wf
      rw [s_tl]
      clean_wf
      rw [decide_eq_true rfl]
      clean_wf
      rw [ni_dec]
      clean_wf
      rw [decide_eq_true (show x.nm.1 = v2 from b2)]
      exact kk H (.refl _)
  | O n =>
    obtain ⟨t, rfl, ht⟩ := he
    have st := SqT.of (K := K) ht
    cases z2 : w'.num with
    | none => rw [z2] at b; cases b
    | some v2 =>
      simp only [z2, nO] at hp b
      have b2 : n = v2 := by simpa using b
      refine x_seq ?_
      clean_wf
      rw [s_ol]
      clean_wf
      rw [s_ot]
      clean_wf
      rw [ni_dec]
      clean_wf
      rw [decide_eq_true b2]
      exact kk H (.refl _)
end
end K80


namespace K80
open PySem L2
abbrev s_breaks_hands : Stmt := top 12
abbrev s_breaks_row : Stmt := top 13
abbrev s_breaks_causes : Stmt := top 14
section
variable {P : Program} {w : World} {K : PySem.W.Frag} {mg : Str → Option Value} {base : Heap}
def sp_breaks_hands (K : PySem.W.Frag) (mg : Str → Option Value) : Sp := sp_brk K mg
theorem sc_breaks_hands : FnScope ["walk", "event", "came_among"] ["walk", "event"] (defScope s_breaks_hands) := ⟨rfl, rfl, rfl, by decide +kernel, rfl, by decide +kernel, by decide +kernel⟩
set_option maxHeartbeats 1000000 in
theorem ok_breaks_hands {f f_has f_Walk_goes_on C_Walk : Addr} {fd fd_has fd_Walk_goes_on : FuncData} (F : Fun K "breaks_hands" "breaks_hands" s_breaks_hands f fd)
    (G_has : FnOk P w K mg base CX0 2 f_has fd_has ["hands", "hand"] (sp_has K)) (C_has : Cal K mg "has" f_has fd_has ["hands", "hand"])
    (G_Walk_goes_on : FnOk P w K mg base CX0 2 f_Walk_goes_on fd_Walk_goes_on ["self", "event"] (sp_Walk_goes_on K mg)) (B_Walk_goes_on : Binds K fd_Walk_goes_on ["self", "event"] []) (T_Walk : TWalk K C_Walk) (m_Walk : mg "Walk" = some (.ref C_Walk)) (mt_Walk_goes_on : Meth K C_Walk "goes_on" f_Walk_goes_on) : FnOk P w K mg base CX0 3 f fd ["walk", "event"] (sp_breaks_hands K mg) := by
  refine F.ok sc_breaks_hands (fun vs H Q E h => ?_) (fun cdv A outer s H vs Q E hr h => ?_)
  · obtain ⟨p, ev, rfl, _⟩ := h
    rfl
  obtain ⟨p, ev, rfl, h⟩ := h
  have hu64 := hr.units
  have hu0 := hr.units0
  have hu := hu_of hr
  refine ⟨_, (pss_cons (ps_if (pt_cmpR op_ne (pe_ix (ix_tupK (K := K) rfl) (pv 1) pe_int (fun _ _ => rfl)) pe_str (nomark _)) (pss_one (ps_ret pe_bl)) pss_nil)
      (pss_cons (ps_set (i := 2) sc_breaks_hands.nd rfl (Or.inl rfl) (pe_ifExp (pt_callK K rfl (pe_methS (MOk.cons T_Walk.cl mt_Walk_goes_on G_Walk_goes_on B_Walk_goes_on MOk.nil) (pv 0) hr (pa_cons (pv 1) pa_nil))) (pe_ix (ix_tupK (K := K) rfl) (pv 1) pe_int (fun _ _ => rfl)) (pe_ix (ix_tupK (K := K) rfl) (pv 1) pe_int (fun _ _ => rfl))))
      (pss_one (ps_ret (pe_or (pe_not (pcall G_has C_has hr (pa_cons (pe_ix (ix_tupK (K := K) rfl) (pv 1) pe_int (fun _ _ => rfl)) (pa_cons (pe_fldK (K := K) rfl (pv 0) rfl) pa_nil)))) (pe_one (pe_not (pcall G_has C_has hr (pa_cons (pv 2) (pa_cons (pe_fldK (K := K) rfl (pv 0) rfl) pa_nil)))))))))), ?_⟩
  obtain ⟨H0, rp, hand, w', q, cd, r, N, e, R, W, he, nb, _, kk⟩ := h
  obtain ⟨C, dx, eC, hp⟩ := W.ob
  rw [m_Walk] at eC
  cases eC
  obtain ⟨cl, n1, n2, n3, n4, n5, n6⟩ := id T_Walk
  have b := nb.b2
  have h0 := W.h0
  have h1 := W.h1
  unfold bHands at b
  cases e with
  | L n s' =>
    obtain ⟨t, rfl, ht, p1, p2, p3⟩ := id he
    have st := SqT.of (K := K) ht
    simp only [Bool.or_eq_false_iff, Bool.not_eq_false'] at b
    obtain ⟨b1, b2⟩ := b
    refine x_seq ?_
    clean_wf
    rw [decide_eq_true (rfl : ("list" : Str) = "list")]
    clean_wf
    refine ⟨p, _, rfl, H0, rp, hand, w', q, cd, _, W, he, ?_⟩
    have eg : goesOn w' (.L n s') = w'.num.isSome := rfl
    rw [eg]
    clean_wf
    refine ite2 (fun c => ?_) fun c => ?_
    · rw [if_pos c] at b2
      clean_wf
      refine ⟨_, hand, rfl, p1, h0, by omega, ?_⟩
      rw [show s'.1.toNat.testBit hand.toNat = true from b1]
      clean_wf
      refine ⟨_, hand, rfl, p2, h0, by omega, ?_⟩
      rw [show s'.2.1.toNat.testBit hand.toNat = true from b2]
      exact ⟨true, rfl, kk H (.refl _)⟩
    · rw [if_neg c] at b2
      clean_wf
      refine ⟨_, hand, rfl, p1, h0, by omega, ?_⟩
      rw [show s'.1.toNat.testBit hand.toNat = true from b1]
      clean_wf
      refine ⟨_, hand, rfl, p3, h0, by omega, ?_⟩
      rw [show s'.2.2.toNat.testBit hand.toNat = true from b2]
      exact ⟨true, rfl, kk H (.refl _)⟩
  | T x why =>
    obtain ⟨t, nv, cv, rfl, ht, _⟩ := he
    have st := SqT.of (K := K) ht
    refine x_seq ?_
    clean_wf
    rw [s_tl]
    clean_wf
    exact kk H (.refl _)
  | O n =>
    obtain ⟨t, rfl, ht⟩ := he
    have st := SqT.of (K := K) ht
    refine x_seq ?_
    clean_wf
    rw [s_ol]
    clean_wf
    exact kk H (.refl _)
def sp_breaks_row (K : PySem.W.Frag) (mg : Str → Option Value) : Sp := sp_brk K mg
theorem sc_breaks_row : FnScope ["walk", "event"] ["walk", "event"] (defScope s_breaks_row) := ⟨rfl, rfl, rfl, by decide +kernel, rfl, by decide +kernel, by decide +kernel⟩
set_option maxHeartbeats 1000000 in
theorem ok_breaks_row {f f_count_of C_Walk : Addr} {fd fd_count_of : FuncData} (F : Fun K "breaks_row" "breaks_row" s_breaks_row f fd)
    (G_count_of : FnOk P w K mg base CX0 1 f_count_of fd_count_of ["counts", "hand"] (sp_count_of K)) (C_count_of : Cal K mg "count_of" f_count_of fd_count_of ["counts", "hand"]) (T_Walk : TWalk K C_Walk) (m_Walk : mg "Walk" = some (.ref C_Walk)) : FnOk P w K mg base CX0 2 f fd ["walk", "event"] (sp_breaks_row K mg) := by
  refine F.ok sc_breaks_row (fun vs H Q E h => ?_) (fun cdv A outer s H vs Q E hr h => ?_)
  · obtain ⟨p, ev, rfl, _⟩ := h
    rfl
  obtain ⟨p, ev, rfl, h⟩ := h
  have hu64 := hr.units
  have hu0 := hr.units0
  have hu := hu_of hr
  refine ⟨_, (pss_one (ps_ret (pe_and (pe_cmpR op_eq (pe_ix (ix_tupK (K := K) rfl) (pv 1) pe_int (fun _ _ => rfl)) pe_str (nomark _)) (pe_one (pe_cmpR op_ne (pe_ix (ix_tupK (K := K) rfl) (pe_ix (ix_tupK (K := K) rfl) (pv 1) pe_int (fun _ _ => rfl)) pe_int (fun _ _ => rfl)) (pe_op op_add (pcall G_count_of C_count_of hr (pa_cons (pe_fldK (K := K) rfl (pv 0) rfl) (pa_cons (pe_ix (ix_tupK (K := K) rfl) (pe_ix (ix_tupK (K := K) rfl) (pv 1) pe_int (fun _ _ => rfl)) pe_int (fun _ _ => rfl)) pa_nil))) pe_int) (nomark _)))))), ?_⟩
  obtain ⟨H0, rp, hand, w', q, cd, r, N, e, R, W, he, nb, _, kk⟩ := h
  obtain ⟨C, dx, eC, hp⟩ := W.ob
  rw [m_Walk] at eC
  cases eC
  obtain ⟨cl, n1, n2, n3, n4, n5, n6⟩ := id T_Walk
  have ec := W.ec
  cases e with
  | L n s' =>
    obtain ⟨t, rfl, ht, _⟩ := he
    have st := SqT.of (K := K) ht
    clean_wf
    exact kk H (.refl _)
  | T x why =>
    obtain ⟨t, nv, cv, rfl, ht, ⟨u, rfl, hu'⟩, _⟩ := he
    have st := SqT.of (K := K) ht
    have su := SqT.of (K := K) hu'
    have b : x.k = ct w'.cs x.c + 1 := by
      have := nb.b3
      unfold bRow at this
      simpa using this
    clean_wf
    rw [if_pos (decide_eq_true rfl)]
    clean_wf
    refine ⟨cd, w'.cs, x.c, rfl, .inl ec, ?_⟩
    clean_wf
    rw [decide_eq_true (show x.nm.2.2 = ct w'.cs x.c + 1 from b)]
    exact kk H (.refl _)
  | O n =>
    obtain ⟨t, rfl, ht⟩ := he
    have st := SqT.of (K := K) ht
    clean_wf
    exact kk H (.refl _)
def sp_breaks_causes (K : PySem.W.Frag) (mg : Str → Option Value) : Sp := sp_brk K mg
theorem sc_breaks_causes : FnScope ["walk", "event"] ["walk", "event"] (defScope s_breaks_causes) := ⟨rfl, rfl, rfl, by decide +kernel, rfl, by decide +kernel, by decide +kernel⟩
set_option maxHeartbeats 1000000 in
theorem ok_breaks_causes {f f_covers f_unpacked C_Walk : Addr} {fd fd_covers fd_unpacked : FuncData} (F : Fun K "breaks_causes" "breaks_causes" s_breaks_causes f fd)
    (G_covers : FnOk P w K mg base CX0 2 f_covers fd_covers ["one", "other"] (sp_covers K)) (C_covers : Cal K mg "covers" f_covers fd_covers ["one", "other"])
    (G_unpacked : FnOk P w K mg base CX0 2 f_unpacked fd_unpacked ["pairs"] (sp_unpacked K)) (C_unpacked : Cal K mg "unpacked" f_unpacked fd_unpacked ["pairs"]) (T_Walk : TWalk K C_Walk) (m_Walk : mg "Walk" = some (.ref C_Walk)) : FnOk P w K mg base CX0 3 f fd ["walk", "event"] (sp_breaks_causes K mg) := by
  refine F.ok sc_breaks_causes (fun vs H Q E h => ?_) (fun cdv A outer s H vs Q E hr h => ?_)
  · obtain ⟨p, ev, rfl, _⟩ := h
    rfl
  obtain ⟨p, ev, rfl, h⟩ := h
  have hu64 := hr.units
  have hu0 := hr.units0
  have hu := hu_of hr
  refine ⟨_, (pss_one (ps_ret (pe_and (pe_cmpR op_eq (pe_ix (ix_tupK (K := K) rfl) (pv 1) pe_int (fun _ _ => rfl)) pe_str (nomark _)) (pe_and (pe_cmpR op_ne (pe_ix (ix_tupK (K := K) rfl) (pv 1) pe_int (fun _ _ => rfl)) pe_str (nomark _)) (pe_one (pe_not (pcall G_covers C_covers hr (pa_cons (pe_fldK (K := K) rfl (pv 0) rfl) (pa_cons (pcall G_unpacked C_unpacked hr (pa_cons (pe_ix (ix_tupK (K := K) rfl) (pv 1) pe_int (fun _ _ => rfl)) pa_nil)) pa_nil))))))))), ?_⟩
  obtain ⟨H0, rp, hand, w', q, cd, r, N, e, R, W, he, nb, _, kk⟩ := h
  obtain ⟨C, dx, eC, hp⟩ := W.ob
  rw [m_Walk] at eC
  cases eC
  obtain ⟨cl, n1, n2, n3, n4, n5, n6⟩ := id T_Walk
  have ec := W.ec
  cases e with
  | L n s' =>
    obtain ⟨t, rfl, ht, _⟩ := he
    have st := SqT.of (K := K) ht
    clean_wf
    exact kk H (.refl _)
  | T x why =>
    obtain ⟨t, nv, cv, rfl, ht, hn, ⟨v, xs, rfl, hv, hps⟩, nd, ln, ckp, _⟩ := he
    have st := SqT.of (K := K) ht
    have b : x.kd ≠ "own" → cov w'.cs (posI x.cs) = true := by
      have := nb.b4
      unfold bCau at this
      intro z
      simpa [z] using this
    clean_wf
    rw [if_pos (decide_eq_true rfl)]
    clean_wf
    by_cases kd : x.kd = "own"
    · rw [decide_eq_true kd]
      clean_wf
      exact kk H (.refl _)
    · rw [decide_eq_false kd]
      clean_wf
      refine ⟨v, xs, x.cs, rfl, .inr (SqT.of hv), hps, by omega, nd, fun H1 d s1 hd g1 => ?_⟩
      have ec1 := s1 _ _ ec
      clean_wf
      refine ⟨cd, d, w'.cs, posI x.cs, rfl, .inl ec1, .inl g1, W.ck, ckp, fun H2 s2 => ?_⟩
      rw [b kd]
      exact ⟨true, rfl, kk H2 (s1.trans s2)⟩
  | O n =>
    obtain ⟨t, rfl, ht⟩ := he
    have st := SqT.of (K := K) ht
    clean_wf
    exact kk H (.refl _)
end
end K80


namespace K80
open PySem L2
abbrev s_breaks_lists : Stmt := top 15
abbrev s_breaks_calls : Stmt := top 16
abbrev s_breaks_together : Stmt := top 18
section
variable {P : Program} {w : World} {K : PySem.W.Frag} {mg : Str → Option Value} {base : Heap}
def trD (p : Nm3) : PyData := .tuple [.int p.1, .int p.2.1, .int p.2.2]
theorem TrA.dl {H : Hp} {v : V} {p : Nm3} (h : TrA H v p) : Dl K H v (trD p) := by
  obtain ⟨t, rfl, e⟩ := h
  exact .inl (.tup (SqT.of e) (.cons (.int _) (.cons (.int _) (.cons (.int _) .nil))))
theorem trD_dep (p : Nm3) : (trD p).depth ≤ 60 := by show 1 ≤ 60; decide
def ptD (p : Prt) : PyData := .tuple [.str p.1, .int p.2.1, .tuple (p.2.2.map prD)]
theorem PtA.dl {H : Hp} {v : V} {p : Prt} (h : PtA H v p) : Dl K H v (ptD p) := by
  obtain ⟨t, cv, rfl, e, u, xs, rfl, e2, e3⟩ := h
  exact .inl (.tup (SqT.of e) (.cons (.str _) (.cons (.int _) (.cons (.tup (SqT.of e2) e3.dps) .nil))))
theorem x_s25 {H : Hp} {Q : VK} {a : Addr} {x1 x2 x3 x4 x5 : V} (h : H a = some (.tup [x1, x2, x3, x4, x5])) (q : ∀ p H', H p = none → Same H H' → H' p = some (.tup [x3, x4, x5]) → Q (.ref p) H') : rSlT K (.ref a) (some 2) (some 5) H Q :=
  ⟨a, _, rfl, SqT.of h, (by show ¬ ((2 : Nat) = 0 ∧ (5 : Nat) = 5); decide), fun p hp => q p _ hp (same_upd hp) upd_same⟩
theorem x_s26 {H : Hp} {Q : VK} {a : Addr} {x1 x2 x3 x4 x5 x6 : V} (h : H a = some (.tup [x1, x2, x3, x4, x5, x6])) (q : ∀ p H', H p = none → Same H H' → H' p = some (.tup [x3, x4, x5]) → Q (.ref p) H') : rSlT K (.ref a) (some 2) (some 5) H Q :=
  ⟨a, _, rfl, SqT.of h, (by show ¬ ((2 : Nat) = 0 ∧ (5 : Nat) = 6); decide), fun p hp => q p _ hp (same_upd hp) upd_same⟩
def sp_breaks_lists (K : PySem.W.Frag) (mg : Str → Option Value) : Sp := sp_brk K mg
theorem sc_breaks_lists : FnScope ["walk", "event"] ["walk", "event"] (defScope s_breaks_lists) := ⟨rfl, rfl, rfl, by decide +kernel, rfl, by decide +kernel, by decide +kernel⟩
set_option maxHeartbeats 1000000 in
theorem ok_breaks_lists {f  C_Record C_Walk : Addr} {fd  : FuncData} (F : Fun K "breaks_lists" "breaks_lists" s_breaks_lists f fd) (T_Record : TRecord K C_Record) (T_Walk : TWalk K C_Walk) (m_Record : mg "Record" = some (.ref C_Record)) (m_Walk : mg "Walk" = some (.ref C_Walk)) : FnOk P w K mg base CX0 1 f fd ["walk", "event"] (sp_breaks_lists K mg) := by
  refine F.ok sc_breaks_lists (fun vs H Q E h => ?_) (fun cdv A outer s H vs Q E hr h => ?_)
  · obtain ⟨p, ev, rfl, _⟩ := h
    rfl
  obtain ⟨p, ev, rfl, h⟩ := h
  have hu64 := hr.units
  have hu0 := hr.units0
  have hu := hu_of hr
  refine ⟨_, (pss_one (ps_ret (pe_and (pe_cmpR op_eq (pe_ix (ix_tupK (K := K) rfl) (pv 1) pe_int (fun _ _ => rfl)) pe_str (nomark _)) (pe_one (pe_cmpR (op_neK (K := K) rfl hu64) (pe_dget2 hu (pe_fldK (K := K) rfl (pe_fldK (K := K) rfl (pv 0) rfl) rfl) (pe_ix (ix_tupK (K := K) rfl) (pv 1) pe_int (fun _ _ => rfl)) (pe_slice (sl_tupK (K := K) rfl) (pv 1) (po_some pe_int) (po_some pe_int)) ⟨rfl, rfl, rfl, rfl⟩) (pe_slice (sl_tupK (K := K) rfl) (pv 1) (po_some pe_int) (po_some pe_int)) (nomark _)))))), ?_⟩
  obtain ⟨H0, rp, hand, w', q, cd, r, N, e, R, W, he, nb, _, kk⟩ := h
  obtain ⟨C, dx, eC, hp⟩ := W.ob
  rw [m_Walk] at eC
  cases eC
  obtain ⟨C2, dx2, eC2, hrp⟩ := R.ob
  rw [m_Record] at eC2
  cases eC2
  obtain ⟨cl, n1, n2, n3, n4, n5, n6⟩ := id T_Walk
  obtain ⟨cl', n1', n2', n3', n4'⟩ := id T_Record
  have e1 := R.e1
  cases e with
  | L n s' =>
    obtain ⟨t, rfl, ht, _⟩ := he
    have st := SqT.of (K := K) ht
    clean_wf
    rw [if_pos (decide_eq_true rfl)]
    clean_wf
    refine x_s25 ht fun t1 H1 z1 s1 g1 => ?_
    have ht1 := s1 _ _ ht
    refine ⟨_, .inl ⟨_, Sum.inl n, .inl (s1 _ _ e1), rfl, rfl⟩, ?_⟩
    have hv : ∃ v, (valV (dG q.m1) (Sum.inl n)).getD (.ref t1) = v ∧ TrA H1 v s' := by
      have hr1 := (R.same s1).r1 n
      have b := nb.b5
      unfold bLst at b
      cases y : r.tl n with
      | none =>
        rw [y] at hr1
        rw [hr1.no]
        exact ⟨_, rfl, t1, rfl, g1⟩
      | some m =>
        rw [y] at hr1
        simp only [y] at b
        have em : m = s' := by simpa using b
        obtain ⟨v, ev, hm⟩ := hr1.yes
        rw [ev]
        exact ⟨v, rfl, em ▸ hm⟩
    obtain ⟨v, ev, hv⟩ := hv
    have st1 := SqT.of (K := K) ht1
    rw [show (valV (dG q.m1) (Sum.inl n)).getD (.ref t1) = v from ev]
    clean_wf
    refine x_s25 ht1 fun t2 H2 z2 s2 g2 => ?_
    exact rNeP_refl (hv.up (.same s2)).dl (TrA.dl (p := s') ⟨t2, rfl, g2⟩) rfl (trD_dep _) (kk H2 (s1.trans s2))
  | T x why =>
    obtain ⟨t, nv, cv, rfl, ht, _⟩ := he
    have st := SqT.of (K := K) ht
    clean_wf
    exact kk H (.refl _)
  | O n =>
    obtain ⟨t, rfl, ht⟩ := he
    have st := SqT.of (K := K) ht
    clean_wf
    exact kk H (.refl _)
theorem ptD_dep (p : Prt) : (ptD p).depth ≤ 60 := by
  have e : (ptD p).depth = max 0 (max 0 (max (PyData.depthAll (p.2.2.map prD) + 1) 0)) + 1 := rfl
  rw [e]
  have := prs_dep p.2.2
  omega
theorem ptD_lay {p : Prt} (h : (PyData.str p.1).canLay0 = true) : (ptD p).canLay0 = true := by
  have e : PyData.canLayAll0 [.str p.1, .int p.2.1, .tuple (p.2.2.map prD)] = true := by
    rw [PyData.canLayAll0.eq_2, PyData.canLayAll0.eq_2, PyData.canLayAll0.eq_2, h]
    have : (PyData.tuple (p.2.2.map prD)).canLay0 = true := by
      first | (rw [PyData.canLay0.eq_5]; exact prs_lay _) | (rw [PyData.canLay0.eq_6]; exact prs_lay _) | (rw [PyData.canLay0.eq_7]; exact prs_lay _)
    rw [this]
    rfl
  unfold ptD
  first | (rw [PyData.canLay0.eq_5]; exact e) | (rw [PyData.canLay0.eq_6]; exact e) | (rw [PyData.canLay0.eq_7]; exact e)
def sp_breaks_calls (K : PySem.W.Frag) (mg : Str → Option Value) : Sp := sp_brk K mg
theorem sc_breaks_calls : FnScope ["walk", "event"] ["walk", "event"] (defScope s_breaks_calls) := ⟨rfl, rfl, rfl, by decide +kernel, rfl, by decide +kernel, by decide +kernel⟩
set_option maxHeartbeats 1000000 in
theorem ok_breaks_calls {f  C_Record C_Walk : Addr} {fd  : FuncData} (F : Fun K "breaks_calls" "breaks_calls" s_breaks_calls f fd) (T_Record : TRecord K C_Record) (T_Walk : TWalk K C_Walk) (m_Record : mg "Record" = some (.ref C_Record)) (m_Walk : mg "Walk" = some (.ref C_Walk)) : FnOk P w K mg base CX0 1 f fd ["walk", "event"] (sp_breaks_calls K mg) := by
  refine F.ok sc_breaks_calls (fun vs H Q E h => ?_) (fun cdv A outer s H vs Q E hr h => ?_)
  · obtain ⟨p, ev, rfl, _⟩ := h
    rfl
  obtain ⟨p, ev, rfl, h⟩ := h
  have hu64 := hr.units
  have hu0 := hr.units0
  have hu := hu_of hr
  refine ⟨_, (pss_one (ps_ret (pe_and (pe_cmpR op_eq (pe_ix (ix_tupK (K := K) rfl) (pv 1) pe_int (fun _ _ => rfl)) pe_str (nomark _)) (pe_one (pe_cmpR (op_neK (K := K) rfl hu64) (pe_dget2 hu (pe_fldK (K := K) rfl (pe_fldK (K := K) rfl (pv 0) rfl) rfl) (pe_ix (ix_tupK (K := K) rfl) (pv 1) pe_int (fun _ _ => rfl)) (pe_slice (sl_tupK (K := K) rfl) (pv 1) (po_some pe_int) (po_some pe_int)) ⟨rfl, rfl, rfl, rfl⟩) (pe_slice (sl_tupK (K := K) rfl) (pv 1) (po_some pe_int) (po_some pe_int)) (nomark _)))))), ?_⟩
  obtain ⟨H0, rp, hand, w', q, cd, r, N, e, R, W, he, nb, _, kk⟩ := h
  obtain ⟨C, dx, eC, hp⟩ := W.ob
  rw [m_Walk] at eC
  cases eC
  obtain ⟨C2, dx2, eC2, hrp⟩ := R.ob
  rw [m_Record] at eC2
  cases eC2
  obtain ⟨cl, n1, n2, n3, n4, n5, n6⟩ := id T_Walk
  obtain ⟨cl', n1', n2', n3', n4'⟩ := id T_Record
  have e2 := R.e2
  cases e with
  | L n s' =>
    obtain ⟨t, rfl, ht, _⟩ := he
    have st := SqT.of (K := K) ht
    clean_wf
    exact kk H (.refl _)
  | T x why =>
    obtain ⟨t, nv, cv, rfl, ht, ⟨u, rfl, hu'⟩, hcv, _, _, _, _, _, lay⟩ := he
    have st := SqT.of (K := K) ht
    clean_wf
    rw [if_pos (decide_eq_true rfl)]
    clean_wf
    refine ⟨q.d2, rfl, .inr ⟨_, .inl e2⟩, ?_⟩
    clean_wf
    refine x_s26 ht fun t1 H1 z1 s1 g1 => ?_
    have ht1 := s1 _ _ ht
    refine ⟨_, .inr ⟨_, k3 x.nm, u, .inl (s1 _ _ e2), rfl, s1 _ _ hu', rfl⟩, ?_⟩
    have hv : ∃ v, (valV q.m2 (k3 x.nm)).getD (.ref t1) = v ∧ PtA H1 v x.pt := by
      have hr1 := (R.same s1).r2 x.nm
      have b := nb.b6
      unfold bCal at b
      cases y : r.tc x.nm with
      | none =>
        rw [y] at hr1
        rw [hr1.no]
        exact ⟨_, rfl, t1, cv, rfl, g1, hcv.up (.same s1)⟩
      | some m =>
        rw [y] at hr1
        simp only [y] at b
        have em : m = x.pt := by simpa using b
        obtain ⟨v, ev, hm⟩ := hr1.yes
        rw [ev]
        exact ⟨v, rfl, em ▸ hm⟩
    obtain ⟨v, ev, hv⟩ := hv
    have st1 := SqT.of (K := K) ht1
    rw [show (valV q.m2 (k3 x.nm)).getD (.ref t1) = v from ev]
    clean_wf
    refine x_s26 ht1 fun t2 H2 z2 s2 g2 => ?_
    exact rNeP_refl (hv.up (.same s2)).dl (PtA.dl (p := x.pt) ⟨t2, cv, rfl, g2, hcv.up (.same (s1.trans s2))⟩) (ptD_lay (p := x.pt) lay) (ptD_dep _) (kk H2 (s1.trans s2))
  | O n =>
    obtain ⟨t, rfl, ht⟩ := he
    have st := SqT.of (K := K) ht
    clean_wf
    exact kk H (.refl _)
def sp_breaks_together (K : PySem.W.Frag) (mg : Str → Option Value) : Sp := sp_brk K mg
theorem sc_breaks_together : FnScope ["walk", "event"] ["walk", "event"] (defScope s_breaks_together) := ⟨rfl, rfl, rfl, by decide +kernel, rfl, by decide +kernel, by decide +kernel⟩
set_option maxHeartbeats 1000000 in
theorem ok_breaks_together {f f_Walk_goes_on C_Record C_Walk : Addr} {fd fd_Walk_goes_on : FuncData} (F : Fun K "breaks_together" "breaks_together" s_breaks_together f fd)
    (G_Walk_goes_on : FnOk P w K mg base CX0 1 f_Walk_goes_on fd_Walk_goes_on ["self", "event"] (sp_Walk_goes_on K mg)) (B_Walk_goes_on : Binds K fd_Walk_goes_on ["self", "event"] []) (T_Record : TRecord K C_Record) (T_Walk : TWalk K C_Walk) (m_Record : mg "Record" = some (.ref C_Record)) (m_Walk : mg "Walk" = some (.ref C_Walk)) (mt_Walk_goes_on : Meth K C_Walk "goes_on" f_Walk_goes_on) : FnOk P w K mg base CX0 2 f fd ["walk", "event"] (sp_breaks_together K mg) := by
  refine F.ok sc_breaks_together (fun vs H Q E h => ?_) (fun cdv A outer s H vs Q E hr h => ?_)
  · obtain ⟨p, ev, rfl, _⟩ := h
    rfl
  obtain ⟨p, ev, rfl, h⟩ := h
  have hu64 := hr.units
  have hu0 := hr.units0
  have hu := hu_of hr
  refine ⟨_, (pss_one (ps_ret (pe_and (pe_methS (MOk.cons T_Walk.cl mt_Walk_goes_on G_Walk_goes_on B_Walk_goes_on MOk.nil) (pv 0) hr (pa_cons (pv 1) pa_nil)) (pe_one (pe_cmpR (op_neD hu0) (pe_dget2 hu (pe_fldK (K := K) rfl (pe_fldK (K := K) rfl (pv 0) rfl) rfl) (pe_fldK (K := K) rfl (pv 0) rfl) (pe_fldK (K := K) rfl (pv 0) rfl) ⟨rfl, rfl, rfl, rfl⟩) (pe_fldK (K := K) rfl (pv 0) rfl) (nomark _)))))), ?_⟩
  obtain ⟨H0, rp, hand, w', q, cd, r, N, e, R, W, he, nb, _, kk⟩ := h
  obtain ⟨C, dx, eC, hp⟩ := W.ob
  rw [m_Walk] at eC
  cases eC
  obtain ⟨C2, dx2, eC2, hrp⟩ := R.ob
  rw [m_Record] at eC2
  cases eC2
  obtain ⟨cl, n1, n2, n3, n4, n5, n6⟩ := id T_Walk
  obtain ⟨cl', n1', n2', n3', n4'⟩ := id T_Record
  have e4 := R.e4
  have ec := W.ec
  clean_wf
  refine ⟨p, _, rfl, H0, rp, hand, w', q, cd, _, W, he, ?_⟩
  clean_wf
  refine ite2 (fun c => ?_) fun c => ?_
  · cases z : w'.num with
    | none => exact absurd c (by cases e with | L n s' => (show ¬ (w'.num.isSome = true); rw [z]; exact Bool.false_ne_true) | T x y => (exact Bool.false_ne_true) | O n => (exact Bool.false_ne_true))
    | some n =>
      simp only [z, nO] at hp
      clean_wf
      have hv : ∃ a m, (valV (dG q.m4) (Sum.inl n)).getD (.ref cd) = .ref a ∧ H a = some (.dK (dI m)) ∧ sameC m w'.cs := by
        have hr1 := R.r4 n
        cases y : r.gc n with
        | none =>
          rw [y] at hr1
          rw [hr1.no]
          refine ⟨cd, w'.cs, rfl, ec, rfl, fun p hp => ?_⟩
          exact lk_of W.ck.nd hp
        | some m =>
          rw [y] at hr1
          obtain ⟨v, ev, a, rfl, ha, _⟩ := hr1.yes
          rw [ev]
          exact ⟨a, m, rfl, ha, nb.b8 c n m z y⟩
      obtain ⟨a, m, ev, ha, sc⟩ := hv
      rw [dG_val] at ev
      exact ⟨a, cd, m, w'.cs, ev, rfl, .inl ha, .inl ec, sc.1, sc.2, kk H (.refl _)⟩
  · exact kk H (.refl _)
end
end K80


namespace K80
open PySem L2
abbrev s_breaks_one : Stmt := top 17
section
variable {P : Program} {w : World} {K : PySem.W.Frag} {mg : Str → Option Value} {base : Heap}
theorem pair_at {α β : Type} {R : α → β → Prop} : ∀ {xs : List α} {ys : List β} {i : Nat} {y : β}, Paired R xs ys → ys[i]? = some y → ∃ x, xs[i]? = some x ∧ R x y
  | _, _, _, _, .nil, e => by simp at e
  | _, _, 0, _, .cons r _, e => by simp at e; subst e; exact ⟨_, rfl, r⟩
  | _, _, i + 1, y, .cons _ t, e => by
    obtain ⟨x, h1, h2⟩ := pair_at (i := i) t (by simpa using e)
    exact ⟨x, by simpa using h1, h2⟩
def sp_breaks_one (K : PySem.W.Frag) (mg : Str → Option Value) : Sp := sp_brk K mg
theorem sc_breaks_one : FnScope ["walk", "event", "met"] ["walk", "event"] (defScope s_breaks_one) := ⟨rfl, rfl, rfl, by decide +kernel, rfl, by decide +kernel, by decide +kernel⟩
set_option maxHeartbeats 1000000 in
theorem ok_breaks_one {f f_Walk_goes_on f_Walk_takes_one f_Walk_ones_on_record C_Record C_Walk : Addr} {fd fd_Walk_goes_on fd_Walk_takes_one fd_Walk_ones_on_record : FuncData} (F : Fun K "breaks_one" "breaks_one" s_breaks_one f fd)
    (G_Walk_goes_on : FnOk P w K mg base CX0 1 f_Walk_goes_on fd_Walk_goes_on ["self", "event"] (sp_Walk_goes_on K mg)) (B_Walk_goes_on : Binds K fd_Walk_goes_on ["self", "event"] [])
    (G_Walk_takes_one : FnOk P w K mg base CX0 1 f_Walk_takes_one fd_Walk_takes_one ["self", "event"] (sp_Walk_takes_one K)) (B_Walk_takes_one : Binds K fd_Walk_takes_one ["self", "event"] [])
    (G_Walk_ones_on_record : FnOk P w K mg base CX0 1 f_Walk_ones_on_record fd_Walk_ones_on_record ["self"] (sp_Walk_ones_on_record K mg)) (B_Walk_ones_on_record : Binds K fd_Walk_ones_on_record ["self"] []) (h_len : mg "len" = none) (T_Record : TRecord K C_Record) (T_Walk : TWalk K C_Walk) (m_Record : mg "Record" = some (.ref C_Record)) (m_Walk : mg "Walk" = some (.ref C_Walk)) (mt_Walk_goes_on : Meth K C_Walk "goes_on" f_Walk_goes_on) (mt_Walk_ones_on_record : Meth K C_Walk "ones_on_record" f_Walk_ones_on_record) (mt_Walk_takes_one : Meth K C_Walk "takes_one" f_Walk_takes_one) : FnOk P w K mg base CX0 2 f fd ["walk", "event"] (sp_breaks_one K mg) := by
  refine F.ok sc_breaks_one (fun vs H Q E h => ?_) (fun cdv A outer s H vs Q E hr h => ?_)
  · obtain ⟨p, ev, rfl, _⟩ := h
    rfl
  obtain ⟨p, ev, rfl, h⟩ := h
  have hu64 := hr.units
  have hu0 := hr.units0
  have hu := hu_of hr
  refine ⟨_, (pss_cons (ps_set (i := 2) sc_breaks_one.nd rfl (Or.inl rfl) (pe_methS0 (MOk.cons T_Walk.cl mt_Walk_ones_on_record G_Walk_ones_on_record B_Walk_ones_on_record MOk.nil) (pv 0) hr))
      (pss_cons (ps_if (pt_callK K rfl (pe_methS (MOk.cons T_Walk.cl mt_Walk_goes_on G_Walk_goes_on B_Walk_goes_on MOk.nil) (pv 0) hr (pa_cons (pv 1) pa_nil))) (pss_one (ps_ret (pe_cmpR op_ne (pe_fldK (K := K) rfl (pv 0) rfl) (pe_callB (call_lenK (K := K) rfl) (by rfl) h_len PySem.boot_len (pa_cons (pv 2) pa_nil)) (nomark _)))) pss_nil)
      (pss_cons (ps_if (pt_not (pt_callK K rfl (pe_methS (MOk.cons T_Walk.cl mt_Walk_takes_one G_Walk_takes_one B_Walk_takes_one MOk.nil) (pv 0) hr (pa_cons (pv 1) pa_nil)))) (pss_one (ps_ret pe_bl)) pss_nil)
      (pss_cons (ps_if (pt_cmpR op_lt (pe_fldK (K := K) rfl (pv 0) rfl) (pe_callB (call_lenK (K := K) rfl) (by rfl) h_len PySem.boot_len (pa_cons (pv 2) pa_nil)) (nomark _)) (pss_one (ps_ret (pe_cmpR (op_neK (K := K) rfl hu64) (pe_ix (ix_listK (K := K) rfl) (pv 2) (pe_fldK (K := K) rfl (pv 0) rfl) (fun _ _ => rfl)) (pe_ix (ix_tupK (K := K) rfl) (pv 1) pe_int (fun _ _ => rfl)) (nomark _)))) pss_nil)
      (pss_one (ps_ret (pe_cmp (pc_din hu (pe_fldK (K := K) rfl (pv 0) rfl) (pe_fldK (K := K) rfl (pe_fldK (K := K) rfl (pv 0) rfl) rfl))))))))), ?_⟩
  obtain ⟨H0, rp, hand, w', q, cd, r, N, e, R, W, he, nb, nN, kk⟩ := h
  obtain ⟨C0, dx0, eC0, hp0⟩ := W.ob
  rw [m_Walk] at eC0
  cases eC0
  obtain ⟨cl, n1, n2, n3, n4, n5, n6⟩ := id T_Walk
  clean_wf
  refine ⟨p, rfl, H0, rp, hand, w', q, cd, r, N, W, R, fun H1 v s1 hm hl => ?_⟩
  obtain ⟨a, xs, rfl, ha, hx⟩ := hm
  have lx := Paired.length hx
  replace R := R.same s1
  replace W := W.same s1
  replace he := he.up (.same s1)
  have kk : ∀ H', Same H1 H' → Q (.bl false) H' := fun H' s => kk H' (s1.trans s)
  have b := nb.b7
  unfold bOne at b
  obtain ⟨C, dx, eC, hp⟩ := W.ob
  rw [m_Walk] at eC
  cases eC
  obtain ⟨C2, dx2, eC2, hrp⟩ := R.ob
  rw [m_Record] at eC2
  cases eC2
  obtain ⟨cl', n1', n2', n3', n4'⟩ := id T_Record
  have sa := SqL.of (K := K) ha
  refine x_seq ?_
  clean_wf
  refine ⟨p, _, rfl, H0, rp, hand, w', q, cd, _, W, he, ?_⟩
  clean_wf
  refine ite2 (fun c => ?_) fun c => ?_
  · rw [if_pos c] at b
    have b' : w'.ones = (met w' r).length := by simpa using b
    clean_wf
    rw [decide_eq_true (show (w'.ones : Int) = (xs.length : Nat) by omega)]
    exact kk _ (.refl _)
  rw [if_neg c] at b
  refine x_seq ?_
  clean_wf
  refine ⟨_, _, rfl, _, he, ?_⟩
  clean_wf
  cases e with
  | L n s' => clean_wf; exact kk _ (.refl _)
  | O n => clean_wf; exact kk _ (.refl _)
  | T x why =>
    obtain ⟨t, nv, cv, rfl, ht, hn, _⟩ := id he
    have st := SqT.of (K := K) ht
    cases o : isO x with
    | false =>
      rw [show takesOne (.T x why) = false from o]
      clean_wf
      exact kk _ (.refl _)
    | true =>
      rw [show takesOne (.T x why) = true from o]
      simp only [o, if_true] at b
      refine iteNT ?_
      refine x_seq ?_
      clean_wf
      have b1 := nb.b1
      unfold bNum at b1
      cases z : w'.num with
      | none => rw [z] at b1; cases b1
      | some n =>
        simp only [z, nO] at hp b
        refine ite2 (fun c2 => ?_) fun c2 => ?_
        · have c2 := of_decide_eq_true c2
          rw [if_pos (by omega)] at b
          have b' : (met w' r)[w'.ones]? = some x.nm := by simpa using b
          obtain ⟨y, hy, ty⟩ := pair_at hx b'
          have ay : atI xs (w'.ones : Int) = some y := atI_nat hy
          clean_wf
          exact rNeP_refl ty.dl hn.dl rfl (trD_dep _) (kk _ (.refl _))
        · have c2 := of_decide_eq_false (Bool.eq_false_iff.mpr c2)
          rw [if_neg (by omega)] at b
          have e4 := R.e4
          have hg := R.r4 n
          have gn : r.gc n = none := by
            cases y : r.gc n with
            | none => rfl
            | some m => rw [y] at b; cases b
          rw [gn] at hg
          have hg := hg.no
          rw [dG_val] at hg
          clean_wf
          rw [hg]
          exact kk _ (.refl _)
end
end K80


namespace K80
open PySem L2
section
variable {P : Program} {w : World} {K : PySem.W.Frag} {mg : Str → Option Value} {base : Heap}
theorem ro_put {α : Type} {R S : V → α → Prop} {m : List (Int × V)} {f : Int → Option α} {k : Int} {v : V} {a : α} (h : ∀ n, RO R (valV (dG m) (Sum.inl n)) (f n)) (rs : ∀ x y, R x y → S x y) (hv : S v a) : ∀ n, RO S (valV (dG (putG m k v)) (Sum.inl n)) (gUpd f k a n) := fun n => by
  have := h n
  rw [dG_val] at this ⊢
  rw [lkg_put]
  unfold gUpd
  by_cases e : n = k
  · rw [if_pos e, if_pos e]; exact hv
  · rw [if_neg e, if_neg e]; exact this.imp rs
theorem gdef_in {α β : Type} [DecidableEq α] {f : α → Option β} {a : α} {b c : β} (h : f a = some c) : gDef f a b = f := funext fun x => by
  unfold gDef
  by_cases e : x = a
  · rw [if_pos e, e, h]; rfl
  · rw [if_neg e]
theorem gdef_out {α β : Type} [DecidableEq α] {f : α → Option β} {a : α} {b : β} (h : f a = none) : gDef f a b = gUpd f a b := funext fun x => by
  unfold gDef gUpd
  rw [h]
  rfl
section
variable {H0 H H' : Hp} {rp : Addr} {r : Rc} {N : Nat} {q : RQ} {z : Addr}
theorem RcA.mono (h : RcA K mg H0 H rp r N q) {M : Nat} (l : N ≤ M) : RcA K mg H0 H rp r M q :=
  ⟨h.ob, h.e1, h.e2, h.e3, h.e4, by have := h.l1; omega, by have := h.l2; omega, by have := h.l3; omega, by have := h.l4; omega, h.r1, h.r2, fun n => (h.r3 n).imp fun _ _ y => ⟨y.1, Nat.le_trans y.2 l⟩, h.r4, h.f0, h.f1, h.f2, h.f3, h.f4, h.n13, h.n14, h.n34, h.sm, h.nd1, h.nd3, h.nd4⟩

structure RcM (K : PySem.W.Frag) (mg : Str → Option Value) (H0 H' : Hp) (rp : Addr) (r : Rc) (N : Nat) (q : RQ) : Prop where
  ob : ∃ C dx, mg "Record" = some (.ref C) ∧ H' rp = some (.ins C dx (rcf (.ref q.d1) (.ref q.d2) (.ref q.d3) (.ref q.d4)))
  r1 : ∀ n, RO (TrA H') (valV (dG q.m1) (Sum.inl n)) (r.tl n)
  r2 : ∀ p, RO (PtA H') (valV q.m2 (k3 p)) (r.tc p)
  r3 : ∀ n, RO (fun v l => MoA H' v l ∧ l.length ≤ N) (valV (dG q.m3) (Sum.inl n)) (r.mo n)
  r4 : ∀ n, RO (GcA q H') (valV (dG q.m4) (Sum.inl n)) (r.gc n)
  sm : Same H0 H'
  su : SmH H H'
theorem RcA.mv (h : RcA K mg H0 H rp r N q) (b : But z H H') (z0 : H0 z = none) {o : HO} (zo : H z = some o) (zt : ∀ xs, HO.tup xs ≠ o) (zl : ∀ xs, HO.lst xs ≠ o) (nr : rp ≠ z) (gz : ∀ n v, valV (dG q.m4) (Sum.inl n) = some v → v ≠ .ref z) : RcM (H := H) K mg H0 H' rp r N q := by
  have su : SmH H H' := fun a xs e => b.at (ne_of e zo (zt xs)) e
  obtain ⟨C, dx, o1, o2⟩ := h.ob
  refine ⟨⟨C, dx, o1, b.at nr o2⟩, fun n => (h.r1 n).imp fun _ _ y => y.up su, fun n => (h.r2 n).imp fun _ _ y => y.up su, fun n => (h.r3 n).imp fun v l y => ?_, fun n => ?_, b.same h.sm z0, su⟩
  · obtain ⟨⟨a, xs, y1, y2, y3⟩, y4⟩ := y
    exact ⟨⟨a, xs, y1, b.at (ne_of y2 zo (zl xs)) y2, Paired.mapP y3 fun _ _ x => x.up su⟩, y4⟩
  · have hr := h.r4 n
    have hg := gz n
    cases y : valV (dG q.m4) (Sum.inl n) with
    | none => rw [y] at hr; cases x : r.gc n with
      | none => exact True.intro
      | some m => rw [x] at hr; exact hr.elim
    | some v =>
      rw [y] at hr hg
      cases x : r.gc n with
      | none => rw [x] at hr; exact hr.elim
      | some m =>
        rw [x] at hr
        obtain ⟨a, y1, y2, y3⟩ := hr
        exact ⟨a, y1, b.at (fun e => hg v rfl (by rw [y1, e])) y2, y3⟩
theorem RcA.gz (h : RcA K mg H0 H rp r N q) (hz : z = q.d1 ∨ z = q.d3 ∨ z = q.d4 ∨ ∃ o, H z = some o ∧ ∀ m, HO.dK m ≠ o) : ∀ n v, valV (dG q.m4) (Sum.inl n) = some v → v ≠ .ref z := fun n v e => by
  have hr := h.r4 n
  rw [e] at hr
  cases x : r.gc n with
  | none => rw [x] at hr; exact hr.elim
  | some m =>
    rw [x] at hr
    obtain ⟨a, rfl, y2, y3, y4, y5⟩ := hr
    intro w
    cases w
    rcases hz with rfl | rfl | rfl | ⟨o, ho, no⟩
    · exact y3 rfl
    · exact y4 rfl
    · exact y5 rfl
    · rw [y2] at ho; exact no _ (Option.some.inj ho)
theorem RcA.nrp (h : RcA K mg H0 H rp r N q) {o : HO} (zo : H z = some o) (zi : ∀ C dx fs, HO.ins C dx fs ≠ o) : rp ≠ z := by
  obtain ⟨C, dx, o1, o2⟩ := h.ob
  exact ne_of o2 zo (zi _ _ _)
theorem RcA.d12 (h : RcA K mg H0 H rp r N q) : q.d1 ≠ q.d2 := ne_of h.e1 h.e2 (by intro z; cases z)
theorem RcA.d32 (h : RcA K mg H0 H rp r N q) : q.d3 ≠ q.d2 := ne_of h.e3 h.e2 (by intro z; cases z)
theorem RcA.d42 (h : RcA K mg H0 H rp r N q) : q.d4 ≠ q.d2 := ne_of h.e4 h.e2 (by intro z; cases z)
theorem RcA.set1 (h : RcA K mg H0 H rp r N q) {n : Int} {v : V} {s : Nm3} (ts : TrA H v s) : RcA K mg H0 (upd H q.d1 (.dK (dG (putG q.m1 n v)))) rp { r with tl := gUpd r.tl n s } (N + 1) { q with m1 := putG q.m1 n v } := by
  have b : But q.d1 H (upd H q.d1 (.dK (dG (putG q.m1 n v)))) := .upd
  have M := h.mv b h.f1 h.e1 (fun _ w => nomatch w) (fun _ w => nomatch w) (h.nrp h.e1 fun _ _ _ w => nomatch w) (h.gz (.inl rfl))
  exact ⟨M.ob, upd_same, b.at h.d12.symm h.e2, b.at h.n13.symm h.e3, b.at h.n14.symm h.e4, by have := h.l1; have := putg_len q.m1 n v; show (putG q.m1 n v).length ≤ N + 1; omega, by have := h.l2; show q.m2.length ≤ N + 1; omega, by have := h.l3; show q.m3.length ≤ N + 1; omega, by have := h.l4; show q.m4.length ≤ N + 1; omega,
    ro_put h.r1 (fun _ _ y => y.up M.su) (ts.up M.su), M.r2, fun n => (M.r3 n).imp fun _ _ y => ⟨y.1, by omega⟩, M.r4, h.f0, h.f1, h.f2, h.f3, h.f4, h.n13, h.n14, h.n34, M.sm, putg_nd _ _ _ h.nd1, h.nd3, h.nd4⟩
theorem k3_inj {a b : Nm3} (h : k3 a = k3 b) : a = b := by
  obtain ⟨a1, a2, a3⟩ := a
  obtain ⟨b1, b2, b3⟩ := b
  simp [k3] at h
  obtain ⟨rfl, rfl, rfl⟩ := h
  rfl
theorem RcA.set2 (h : RcA K mg H0 H rp r N q) {p : Nm3} {v : V} {s : Prt} (ts : PtA H v s) : RcA K mg H0 (upd H q.d2 (.dT (putK q.m2 (k3 p) v))) rp { r with tc := gUpd r.tc p s } (N + 1) { q with m2 := putK q.m2 (k3 p) v } := by
  have b : But q.d2 H (upd H q.d2 (.dT (putK q.m2 (k3 p) v))) := .upd
  have M := h.mv b h.f2 h.e2 (fun _ w => nomatch w) (fun _ w => nomatch w) (h.nrp h.e2 fun _ _ _ w => nomatch w) (h.gz (.inr (.inr (.inr ⟨_, h.e2, fun _ w => nomatch w⟩))))
  refine ⟨M.ob, b.at h.d12 h.e1, upd_same, b.at h.d32 h.e3, b.at h.d42 h.e4, by have := h.l1; show q.m1.length ≤ N + 1; omega, by have := h.l2; have := length_putK q.m2 (k3 p) v; show (putK q.m2 (k3 p) v).length ≤ N + 1; omega, by have := h.l3; show q.m3.length ≤ N + 1; omega, by have := h.l4; show q.m4.length ≤ N + 1; omega,
    M.r1, fun p' => ?_, fun n => (M.r3 n).imp fun _ _ y => ⟨y.1, by omega⟩, M.r4, h.f0, h.f1, h.f2, h.f3, h.f4, h.n13, h.n14, h.n34, M.sm, h.nd1, h.nd3, h.nd4⟩
  show RO _ (valV (putK q.m2 (k3 p) v) (k3 p')) (gUpd r.tc p s p')
  rw [valV_put]
  unfold gUpd
  by_cases e : p' = p
  · rw [if_pos (congrArg k3 e), if_pos e]; exact ts.up M.su
  · rw [if_neg (fun w => e (k3_inj w)), if_neg e]; exact M.r2 p'
theorem RcA.set3 (h : RcA K mg H0 H rp r N q) {n : Int} {v : V} {l : List Nm3} (ts : MoA H v l) (ll : l.length ≤ N + 1) : RcA K mg H0 (upd H q.d3 (.dK (dG (putG q.m3 n v)))) rp { r with mo := gUpd r.mo n l } (N + 1) { q with m3 := putG q.m3 n v } := by
  have b : But q.d3 H (upd H q.d3 (.dK (dG (putG q.m3 n v)))) := .upd
  have M := h.mv b h.f3 h.e3 (fun _ w => nomatch w) (fun _ w => nomatch w) (h.nrp h.e3 fun _ _ _ w => nomatch w) (h.gz (.inr (.inl rfl)))
  have up : ∀ v l, MoA H v l → MoA (upd H q.d3 (.dK (dG (putG q.m3 n v)))) v l := fun v l y => by
    obtain ⟨a, xs, y1, y2, y3⟩ := y
    refine ⟨a, xs, y1, ?_, Paired.mapP y3 fun _ _ x => x.up fun a xs e => ?_⟩
    · rw [upd_ne (ne_of y2 h.e3 (fun w => nomatch w))]; exact y2
    · rw [upd_ne (ne_of e h.e3 (fun w => nomatch w))]; exact e
  have up' : MoA (upd H q.d3 (.dK (dG (putG q.m3 n v)))) v l := by
    obtain ⟨a, xs, y1, y2, y3⟩ := ts
    exact ⟨a, xs, y1, b.at (ne_of y2 h.e3 (fun w => nomatch w)) y2, Paired.mapP y3 fun _ _ x => x.up M.su⟩
  refine ⟨M.ob, b.at h.n13 h.e1, b.at h.d32.symm h.e2, upd_same, b.at h.n34.symm h.e4, by have := h.l1; show q.m1.length ≤ N + 1; omega, by have := h.l2; show q.m2.length ≤ N + 1; omega, by have := h.l3; have := putg_len q.m3 n v; show (putG q.m3 n v).length ≤ N + 1; omega, by have := h.l4; show q.m4.length ≤ N + 1; omega,
    M.r1, M.r2, ?_, M.r4, h.f0, h.f1, h.f2, h.f3, h.f4, h.n13, h.n14, h.n34, M.sm, h.nd1, putg_nd _ _ _ h.nd3, h.nd4⟩
  exact ro_put M.r3 (fun _ _ y => ⟨y.1, by omega⟩) ⟨up', ll⟩
theorem RcA.set4 (h : RcA K mg H0 H rp r N q) {n : Int} {a : Addr} {m : List (Int × Int)} (ea : H a = some (.dK (dI m))) (a1 : a ≠ q.d1) (a3 : a ≠ q.d3) (a4 : a ≠ q.d4) : RcA K mg H0 (upd H q.d4 (.dK (dG (putG q.m4 n (.ref a))))) rp { r with gc := gUpd r.gc n m } (N + 1) { q with m4 := putG q.m4 n (.ref a) } := by
  have b : But q.d4 H (upd H q.d4 (.dK (dG (putG q.m4 n (.ref a))))) := .upd
  have M := h.mv b h.f4 h.e4 (fun _ w => nomatch w) (fun _ w => nomatch w) (h.nrp h.e4 fun _ _ _ w => nomatch w) (h.gz (.inr (.inr (.inl rfl))))
  refine ⟨M.ob, b.at h.n14 h.e1, b.at h.d42.symm h.e2, b.at h.n34 h.e3, upd_same, by have := h.l1; show q.m1.length ≤ N + 1; omega, by have := h.l2; show q.m2.length ≤ N + 1; omega, by have := h.l3; show q.m3.length ≤ N + 1; omega, by have := h.l4; have := putg_len q.m4 n (.ref a); show (putG q.m4 n (.ref a)).length ≤ N + 1; omega,
    M.r1, M.r2, fun n => (M.r3 n).imp fun _ _ y => ⟨y.1, by omega⟩, ?_, h.f0, h.f1, h.f2, h.f3, h.f4, h.n13, h.n14, h.n34, M.sm, h.nd1, h.nd3, putg_nd _ _ _ h.nd4⟩
  exact ro_put M.r4 (fun _ _ y => y) ⟨a, rfl, b.at a4 ea, a1, a3, a4⟩

theorem RcA.oth (h : RcA K mg H0 H rp r N q) (b : But z H H') (z0 : H0 z = none) {o : HO} (zo : H z = some o) (zt : ∀ xs, HO.tup xs ≠ o) (zl : ∀ xs, HO.lst xs ≠ o) (nr : rp ≠ z) (n1 : q.d1 ≠ z) (n2 : q.d2 ≠ z) (n3 : q.d3 ≠ z) (n4 : q.d4 ≠ z) (gz : ∀ n v, valV (dG q.m4) (Sum.inl n) = some v → v ≠ .ref z) : RcA K mg H0 H' rp r N q := by
  have M := h.mv b z0 zo zt zl nr gz
  exact ⟨M.ob, b.at n1 h.e1, b.at n2 h.e2, b.at n3 h.e3, b.at n4 h.e4, h.l1, h.l2, h.l3, h.l4, M.r1, M.r2, M.r3, M.r4, h.f0, h.f1, h.f2, h.f3, h.f4, h.n13, h.n14, h.n34, M.sm, h.nd1, h.nd3, h.nd4⟩
theorem RcA.wr (h : RcA K mg H0 H rp r N q) {p C dx : Addr} {fs : List (Str × V)} (b : But p H H') (p0 : H0 p = none) (hp : H p = some (.ins C dx fs)) (nr : p ≠ rp) : RcA K mg H0 H' rp r N q :=
  h.oth b p0 hp (fun _ w => nomatch w) (fun _ w => nomatch w) nr.symm (ne_of h.e1 hp fun w => nomatch w) (ne_of h.e2 hp fun w => nomatch w) (ne_of h.e3 hp fun w => nomatch w) (ne_of h.e4 hp fun w => nomatch w) (h.gz (.inr (.inr (.inr ⟨_, hp, fun _ w => nomatch w⟩))))
end
end
end K80


namespace K80
open PySem L2
abbrev s_Walk_go_over_list : Stmt := inClass (top 10) 5
section
variable {P : Program} {w : World} {K : PySem.W.Frag} {mg : Str → Option Value} {base : Heap}

def sp_Walk_go_over_list (K : PySem.W.Frag) (mg : Str → Option Value) : Sp := fun vs H Q _ => ∃ (p : Addr) (ev : V), vs = [.ref p, ev] ∧ ∃ H0 rp hand w q cd r N n s, RcA K mg H0 H rp r N q ∧ WkA K mg H0 H p rp hand w q cd ∧ EvA H ev (.L n s) ∧ N ≤ 500 ∧ ∀ H' q' cd', RcA K mg H0 H' rp (goR w r (.L n s)) (N + 2) q' → WkA K mg H0 H' p rp hand (goW w (.L n s)) q' cd' → Q .non H'
theorem sc_Walk_go_over_list : FnScope ["self", "event"] ["self", "event"] (defScope s_Walk_go_over_list) := ⟨rfl, rfl, rfl, by decide +kernel, rfl, by decide +kernel, by decide +kernel⟩
set_option maxHeartbeats 1000000 in
theorem ok_Walk_go_over_list {f  C_Record C_Walk : Addr} {fd  : FuncData} (F : Fun K "go_over_list" "Walk.go_over_list" s_Walk_go_over_list f fd) (T_Record : TRecord K C_Record) (T_Walk : TWalk K C_Walk) (m_Record : mg "Record" = some (.ref C_Record)) (m_Walk : mg "Walk" = some (.ref C_Walk)) : FnOk P w K mg base CX0 1 f fd ["self", "event"] (sp_Walk_go_over_list K mg) := by
  refine F.ok sc_Walk_go_over_list (fun vs H Q E h => ?_) (fun cdv A outer s H vs Q E hr h => ?_)
  · obtain ⟨p, ev, rfl, _⟩ := h
    rfl
  obtain ⟨p, ev, rfl, h⟩ := h
  have hu64 := hr.units
  have hu0 := hr.units0
  have hu := hu_of hr
  refine ⟨_, (pss_cons (ps_expr (pe_bm PySem.F.plainAttrs_dict PySem.F.slot_dict_setdefault PySem.F.type_dict_setdefault mt_dsetdef (pe_fldK (K := K) rfl (pe_fldK (K := K) rfl (pv 0) rfl) rfl) (pa_cons (pe_ix (ix_tupK (K := K) rfl) (pv 1) pe_int (fun _ _ => rfl)) (pa_cons (pe_slice (sl_tupK (K := K) rfl) (pv 1) (po_some pe_int) (po_some pe_int)) pa_nil))))
      (pss_cons (ps_if (pt_cmpR op_notN (pe_fldK (K := K) rfl (pv 0) rfl) pe_non (nomark _)) (pss_one (ps_expr (pe_bm PySem.F.plainAttrs_dict PySem.F.slot_dict_setdefault PySem.F.type_dict_setdefault mt_dsetdef (pe_fldK (K := K) rfl (pe_fldK (K := K) rfl (pv 0) rfl) rfl) (pa_cons (pe_fldK (K := K) rfl (pv 0) rfl) (pa_cons (pe_fldK (K := K) rfl (pv 0) rfl) pa_nil))))) pss_nil)
      (pss_cons (ps_fldK (K := K) rfl (pv 0) (pe_ix (ix_tupK (K := K) rfl) (pv 1) pe_int (fun _ _ => rfl)) rfl)
      (pss_cons (ps_fldK (K := K) rfl (pv 0) (pe_ix (ix_tupK (K := K) rfl) (pv 1) pe_int (fun _ _ => rfl)) rfl)
      (pss_cons (ps_fldK (K := K) rfl (pv 0) pe_dnewK rfl)
      (pss_one (ps_fldK (K := K) rfl (pv 0) pe_int rfl))))))), ?_⟩
  obtain ⟨H0, rp, hand, w', q, cd, r, N, n, s', R, W, he, nN, kk⟩ := h
  obtain ⟨C, dx, eC, hp⟩ := W.ob
  rw [m_Walk] at eC
  cases eC
  obtain ⟨C2, dx2, eC2, hrp⟩ := R.ob
  rw [m_Record] at eC2
  cases eC2
  obtain ⟨cl, n1, n2, n3, n4, n5, n6⟩ := id T_Walk
  obtain ⟨cl', n1', n2', n3', n4'⟩ := id T_Record
  obtain ⟨t, rfl, ht, _⟩ := id he
  have st := SqT.of (K := K) ht
  have e1 := R.e1
  have ec := W.ec
  have nw := W.nr
  refine x_seq ?_
  clean_wf
  refine x_s25 ht fun t1 H1 z1 s1 g1 => ?_
  have R1 := R.same s1
  have l1 := R.l1
  have l4 := R.l4
  clean_wf
  refine x_setd R1.e1 R1.nd1 (by omega) fun v H2 hc => ?_
  have hp1 := s1 _ _ hp
  have ec1 := s1 _ _ ec
  have ht1 := s1 _ _ ht
  obtain ⟨q2, R2, f1, f3, f4, f5, b2⟩ : ∃ q2, RcA K mg H0 H2 rp { r with tl := gDef r.tl n s' } (N + 1) q2 ∧ q2.d1 = q.d1 ∧ q2.d3 = q.d3 ∧ q2.d4 = q.d4 ∧ q2.m4 = q.m4 ∧ But q.d1 H1 H2 := by
    have hr := R1.r1 n
    rw [dG_val] at hr
    rcases hc with ⟨c1, rfl⟩ | ⟨c1, rfl, rfl⟩
    · rw [c1] at hr
      cases y : r.tl n with
      | none => rw [y] at hr; exact hr.elim
      | some m =>
        refine ⟨q, ?_, rfl, rfl, rfl, rfl, fun _ _ => rfl⟩
        rw [gdef_in y]
        exact R1.mono (Nat.le_succ _)
    · rw [c1] at hr
      cases y : r.tl n with
      | some m => rw [y] at hr; exact hr.elim
      | none =>
        refine ⟨{ q with m1 := putG q.m1 n (.ref t1) }, ?_, rfl, rfl, rfl, rfl, .upd⟩
        rw [gdef_out y]
        exact R1.set1 ⟨t1, rfl, g1⟩
  have npd : p ≠ q.d1 := ne_of hp1 R1.e1 (by intro z; cases z)
  have hp2 := b2.at npd hp1
  have ec2 := b2.at W.c1 ec1
  have ht2 := b2.at (ne_of ht1 R1.e1 (by intro z; cases z)) ht1
  dsimp only
  refine x_cut (fun σ' H3 => σ' = [some (.ref p), some (.ref t)] ∧ ∃ q3, RcA K mg H0 H3 rp (goR w' r (.L n s')) (N + 2) q3 ∧ H3 p = some (.ins C_Walk dx (wkf (.int hand) (.ref rp) (nO w'.num) (nO w'.new) (.ref cd) (.int w'.ones))) ∧ H3 t = some (.tup [.str "list", .int n, .int s'.1, .int s'.2.1, .int s'.2.2])) ?_ fun N' rest => ?_
  rotate_left
  · obtain ⟨C3, dx3, eC3, hrp2⟩ := R2.ob
    rw [m_Record] at eC3
    cases eC3
    have e4 := R2.e4
    cases z : w'.num with
    | none =>
      simp only [z, nO] at hp2
      clean_wf
      rw [nn_dec]
      clean_wf
      refine rest _ _ ⟨rfl, q2, ?_, by simpa only [z, nO] using hp2, ht2⟩
      have : goR w' r (.L n s') = { r with tl := gDef r.tl n s' } := by unfold goR; rw [z]
      rw [this]
      exact R2.mono (Nat.le_succ _)
    | some m =>
      simp only [z, nO] at hp2
      clean_wf
      rw [ni_dec]
      clean_wf
      have l42 := R2.l4
      refine x_setd R2.e4 R2.nd4 (by omega) fun v3 H3 hc3 => ?_
      have hr := R2.r4 m
      rw [dG_val] at hr
      have eg : goR w' r (.L n s') = { r with tl := gDef r.tl n s', gc := gDef r.gc m w'.cs } := by unfold goR; rw [z]
      rcases hc3 with ⟨c1, rfl⟩ | ⟨c1, rfl, rfl⟩
      · rw [c1] at hr
        refine rest _ _ ⟨rfl, q2, ?_, by simpa only [z, nO] using hp2, ht2⟩
        rw [eg]
        cases y : r.gc m with
        | none => rw [show ({ r with tl := gDef r.tl n s' } : Rc).gc m = r.gc m from rfl, y] at hr; exact hr.elim
        | some m' => rw [gdef_in y]; exact R2.mono (Nat.le_succ _)
      · rw [c1] at hr
        refine rest _ _ ⟨rfl, { q2 with m4 := putG q2.m4 m (.ref cd) }, ?_, ?_, ?_⟩
        rotate_left
        · rw [upd_ne (ne_of hp2 R2.e4 (by intro z; cases z))]
          simpa only [z, nO] using hp2
        · rw [upd_ne (ne_of ht2 R2.e4 (by intro z; cases z))]
          exact ht2
        rotate_left
        · rw [eg]
          cases y : r.gc m with
          | some m' => rw [show ({ r with tl := gDef r.tl n s' } : Rc).gc m = r.gc m from rfl, y] at hr; exact hr.elim
          | none =>
            rw [gdef_out y]
            exact R2.set4 ec2 (by rw [f1]; exact W.c1) (by rw [f3]; exact W.c3) (by rw [f4]; exact W.c4)
  rintro σ' H3 ⟨rfl, q3, R3, hp3, ht3⟩
  have st3 := SqT.of (K := K) ht3
  clean_wf
  intro H4 b4 hp4
  rw [chf_p_number] at hp4
  have R4 := R3.wr b4 W.fw hp3 nw
  have ht4 := b4.at (ne_of ht3 hp3 (by intro z; cases z)) ht3
  have st4 := SqT.of (K := K) ht4
  clean_wf
  intro H5 b5 hp5
  rw [chf_p_newest] at hp5
  have R5 := R4.wr b5 W.fw hp4 nw
  clean_wf
  intro d H6 z6 s6 g6
  have R6 := R5.same s6
  have hp6 := s6 _ _ hp5
  clean_wf
  intro H7 b7 hp7
  rw [chf_p_counts] at hp7
  have R7 := R6.wr b7 W.fw hp6 nw
  have ndp : d ≠ p := ne_of g6 hp6 (by intro z; cases z)
  have g7 := b7.at ndp g6
  clean_wf
  intro H8 b8 hp8
  rw [chf_p_ones] at hp8
  have R8 := R7.wr b8 W.fw hp7 nw
  have g8 := b8.at ndp g7
  have fr : ∀ {b : Addr} {o : HO}, H5 b = some o → d ≠ b := fun e z => by rw [← z, z6] at e; cases e
  refine kk H8 q3 d R8 ⟨⟨_, dx, m_Walk, hp8⟩, g8, Ck.nil, W.h0, W.h1, W.fw, ?_, fr R5.e1, fr R5.e3, fr R5.e4, fun n v e z => ?_, nw⟩
  · cases z : H0 d with
    | none => rfl
    | some o => exact absurd rfl (fr (R5.sm _ _ z))
  · have hr := R5.r4 n
    rw [e, z] at hr
    cases y : (goR w' r (.L _ s')).gc n with
    | none => rw [y] at hr; exact hr.elim
    | some m =>
      rw [y] at hr
      obtain ⟨a, ea, ha, _⟩ := hr
      cases ea
      exact fr ha rfl
end
end K80


namespace K80
open PySem L2
abbrev s_Walk_go_over_take : Stmt := inClass (top 10) 6
abbrev s_Walk_go_over : Stmt := inClass (top 10) 4
section
variable {P : Program} {w : World} {K : PySem.W.Frag} {mg : Str → Option Value} {base : Heap}
theorem WkA.mv {H0 H H' : Hp} {wp rp cd z : Addr} {hand : Int} {w : Wk} {q q' : RQ} (h : WkA K mg H0 H wp rp hand w q cd) (b : But z H H') (nz : wp ≠ z) (nc : cd ≠ z) (f1 : q'.d1 = q.d1) (f3 : q'.d3 = q.d3) (f4 : q'.d4 = q.d4) (f5 : q'.m4 = q.m4) : WkA K mg H0 H' wp rp hand w q' cd := by
  obtain ⟨C, dx, o1, o2⟩ := h.ob
  exact ⟨⟨C, dx, o1, b.at nz o2⟩, b.at nc h.ec, h.ck, h.h0, h.h1, h.fw, h.fc, by rw [f1]; exact h.c1, by rw [f3]; exact h.c3, by rw [f4]; exact h.c4, by rw [f5]; exact h.cv, h.nr⟩
theorem WkA.kind {H0 H : Hp} {wp rp cd z : Addr} {hand : Int} {w : Wk} {q : RQ} (h : WkA K mg H0 H wp rp hand w q cd) {o : HO} (zo : H z = some o) (zi : ∀ C dx fs, HO.ins C dx fs ≠ o) : wp ≠ z := by
  obtain ⟨C, dx, o1, o2⟩ := h.ob
  exact ne_of o2 zo (zi _ _ _)
theorem pair_app {α β : Type} {R : α → β → Prop} : ∀ {xs xs' : List α} {ys ys' : List β}, Paired R xs ys → Paired R xs' ys' → Paired R (xs ++ xs') (ys ++ ys')
  | _, _, _, _, .nil, h => h
  | _, _, _, _, .cons r t, h => .cons r (pair_app t h)
def sp_Walk_go_over_take (K : PySem.W.Frag) (mg : Str → Option Value) : Sp := fun vs H Q _ => ∃ (p : Addr) (ev : V), vs = [.ref p, ev] ∧ ∃ H0 rp hand w q cd r N x why n0, RcA K mg H0 H rp r N q ∧ WkA K mg H0 H p rp hand w q cd ∧ EvA H ev (.T x why) ∧ w.num = some n0 ∧ N ≤ 500 ∧ ∀ H' q' cd', RcA K mg H0 H' rp (goR w r (.T x why)) (N + 2) q' → WkA K mg H0 H' p rp hand (goW w (.T x why)) q' cd' → Q .non H'
theorem sc_Walk_go_over_take : FnScope ["self", "event", "name"] ["self", "event"] (defScope s_Walk_go_over_take) := ⟨rfl, rfl, rfl, by decide +kernel, rfl, by decide +kernel, by decide +kernel⟩
set_option maxHeartbeats 1000000 in
theorem ok_Walk_go_over_take {f f_Walk_takes_one f_Walk_ones_on_record C_Record C_Walk : Addr} {fd fd_Walk_takes_one fd_Walk_ones_on_record : FuncData} (F : Fun K "go_over_take" "Walk.go_over_take" s_Walk_go_over_take f fd)
    (G_Walk_takes_one : FnOk P w K mg base CX0 1 f_Walk_takes_one fd_Walk_takes_one ["self", "event"] (sp_Walk_takes_one K)) (B_Walk_takes_one : Binds K fd_Walk_takes_one ["self", "event"] [])
    (G_Walk_ones_on_record : FnOk P w K mg base CX0 1 f_Walk_ones_on_record fd_Walk_ones_on_record ["self"] (sp_Walk_ones_on_record K mg)) (B_Walk_ones_on_record : Binds K fd_Walk_ones_on_record ["self"] []) (h_len : mg "len" = none) (T_Record : TRecord K C_Record) (T_Walk : TWalk K C_Walk) (m_Record : mg "Record" = some (.ref C_Record)) (m_Walk : mg "Walk" = some (.ref C_Walk)) (mt_Walk_ones_on_record : Meth K C_Walk "ones_on_record" f_Walk_ones_on_record) (mt_Walk_takes_one : Meth K C_Walk "takes_one" f_Walk_takes_one) : FnOk P w K mg base CX0 2 f fd ["self", "event"] (sp_Walk_go_over_take K mg) := by
  refine F.ok sc_Walk_go_over_take (fun vs H Q E h => ?_) (fun cdv A outer s H vs Q E hr h => ?_)
  · obtain ⟨p, ev, rfl, _⟩ := h
    rfl
  obtain ⟨p, ev, rfl, h⟩ := h
  have hu64 := hr.units
  have hu0 := hr.units0
  have hu := hu_of hr
  refine ⟨_, (pss_cons (ps_set (i := 2) sc_Walk_go_over_take.nd rfl (Or.inl rfl) (pe_ix (ix_tupK (K := K) rfl) (pv 1) pe_int (fun _ _ => rfl)))
      (pss_cons (ps_expr (pe_bm PySem.F.plainAttrs_dict PySem.F.slot_dict_setdefault PySem.F.type_dict_setdefault (mt_dsetT hu) (pe_fldK (K := K) rfl (pe_fldK (K := K) rfl (pv 0) rfl) rfl) (pa_cons (pv 2) (pa_cons (pe_slice (sl_tupK (K := K) rfl) (pv 1) (po_some pe_int) (po_some pe_int)) pa_nil))))
      (pss_cons (ps_if (pt_callK K rfl (pe_methS (MOk.cons T_Walk.cl mt_Walk_takes_one G_Walk_takes_one B_Walk_takes_one MOk.nil) (pv 0) hr (pa_cons (pv 1) pa_nil))) (pss_cons (ps_if (pt_cmpR op_eq (pe_fldK (K := K) rfl (pv 0) rfl) (pe_callB (call_lenK (K := K) rfl) (by rfl) h_len PySem.boot_len (pa_cons (pe_methS0 (MOk.cons T_Walk.cl mt_Walk_ones_on_record G_Walk_ones_on_record B_Walk_ones_on_record MOk.nil) (pv 0) hr) pa_nil)) (nomark _)) (pss_one (ps_dput hu (pe_fldK (K := K) rfl (pe_fldK (K := K) rfl (pv 0) rfl) rfl) (pe_fldK (K := K) rfl (pv 0) rfl) (pe_op op_cat (pe_methS0 (MOk.cons T_Walk.cl mt_Walk_ones_on_record G_Walk_ones_on_record B_Walk_ones_on_record MOk.nil) (pv 0) hr) (pe_lst (pa_cons (pv 2) pa_nil))) rfl)) pss_nil)
      (pss_one (ps_fldK (K := K) rfl (pv 0) (pe_op op_add (pe_fldK (K := K) rfl (pv 0) rfl) pe_int) rfl))) pss_nil)
      (pss_one (ps_dput hu (pe_fldK (K := K) rfl (pv 0) rfl) (pe_ix (ix_tupK (K := K) rfl) (pv 2) pe_int (fun _ _ => rfl)) (pe_ix (ix_tupK (K := K) rfl) (pv 2) pe_int (fun _ _ => rfl)) rfl))))), ?_⟩
  obtain ⟨H0, rp, hand, w', q, cd, r, N, x, why, n0, R, W, he, hn0, nN, kk⟩ := h
  obtain ⟨C, dx, eC, hp⟩ := W.ob
  rw [m_Walk] at eC
  cases eC
  obtain ⟨C2, dx2, eC2, hrp⟩ := R.ob
  rw [m_Record] at eC2
  cases eC2
  obtain ⟨cl, n1, n2, n3, n4, n5, n6⟩ := id T_Walk
  obtain ⟨cl', n1', n2', n3', n4'⟩ := id T_Record
  obtain ⟨t, nv, cv, rfl, ht, ⟨u, rfl, hu'⟩, hcv, nd, ln, ckp, rg, k0, lay⟩ := id he
  have st := SqT.of (K := K) ht
  have e2 := R.e2
  refine x_cut (fun σ' H1 => H = H1 ∧ σ' = [some (.ref p), some (.ref t), some (.ref u)]) ?_ fun N1 rest => ?_
  rotate_left
  · clean_wf
    exact rest _ _ ⟨rfl, rfl⟩
  rintro σ' _ ⟨rfl, rfl⟩
  refine x_cut (fun σ' H2 => σ' = [some (.ref p), some (.ref t), some (.ref u)] ∧ ∃ q2, RcA K mg H0 H2 rp { r with tc := gDef r.tc x.nm x.pt } (N + 1) q2 ∧ WkA K mg H0 H2 p rp hand w' q2 cd ∧ EvA H2 (.ref t) (.T x why) ∧ H2 u = some (.tup [.int x.n, .int x.c, .int x.k])) ?_ fun N' rest => ?_
  rotate_left
  · clean_wf
    refine ⟨.inr (.inr (.inl ⟨rfl, .inr ⟨_, e2⟩⟩)), ?_⟩
    clean_wf
    refine x_s26 ht fun t1 H1 z1 s1 g1 => ?_
    clean_wf
    have R1 := R.same s1
    have W1 := W.same s1
    have l2 := R1.l2
    have npt : PtA H1 (.ref t1) x.pt := ⟨t1, cv, rfl, g1, hcv.up (.same s1)⟩
    have hr := R1.r2 x.nm
    refine ⟨q.d2, u, q.m2, k3 x.nm, .ref t1, rfl, rfl, R1.e2, s1 _ _ hu', by omega, fun v e => ?_, fun e => ?_⟩
    · rw [e] at hr
      cases y : r.tc x.nm with
      | none => rw [y] at hr; exact hr.elim
      | some m =>
        refine rest _ _ ⟨rfl, q, ?_, W1, he.up (.same s1), s1 _ _ hu'⟩
        rw [gdef_in y]
        exact R1.mono (Nat.le_succ _)
    · rw [e] at hr
      cases y : r.tc x.nm with
      | some m => rw [y] at hr; exact hr.elim
      | none =>
        have su : SmH H1 (upd H1 q.d2 (.dT (putK q.m2 (k3 x.nm) (.ref t1)))) := fun a xs e => by
          rw [upd_ne (ne_of e R1.e2 (fun w => nomatch w))]; exact e
        refine rest _ _ ⟨rfl, { q with m2 := putK q.m2 (k3 x.nm) (.ref t1) }, ?_, W1.mv (z := q.d2) .upd (W1.kind R1.e2 fun _ _ _ w => nomatch w) (ne_of W1.ec R1.e2 fun w => nomatch w) rfl rfl rfl rfl, (he.up (.same s1)).up su, su _ _ (s1 _ _ hu')⟩
        rw [gdef_out y]
        exact R1.set2 npt
  rintro σ' H2 ⟨rfl, q2, R2, W2, he2, hu2⟩
  have W2' := W2
  obtain ⟨C4, dx4, eC4, hp2⟩ := W2'.ob
  rw [m_Walk] at eC4
  cases eC4
  have R2' := R2
  obtain ⟨C5, dx5, eC5, hrp2⟩ := R2'.ob
  rw [m_Record] at eC5
  cases eC5
  refine x_cut (fun σ' H3 => σ' = [some (.ref p), some (.ref t), some (.ref u)] ∧ ∃ q3, RcA K mg H0 H3 rp (goR w' r (.T x why)) (N + 2) q3 ∧ WkA K mg H0 H3 p rp hand ⟨w'.num, w'.new, w'.cs, if isO x = true then w'.ones + 1 else w'.ones⟩ q3 cd ∧ H3 u = some (.tup [.int x.n, .int x.c, .int x.k])) ?_ fun N2 rest2 => ?_
  rotate_left
  · clean_wf
    refine ⟨_, _, rfl, _, he2, ?_⟩
    clean_wf
    cases o : isO x with
    | false =>
      rw [show takesOne (.T x why) = false from o]
      clean_wf
      refine rest2 _ _ ⟨rfl, q2, ?_, ?_, hu2⟩
      · have : goR w' r (.T x why) = { r with tc := gDef r.tc x.nm x.pt } := by
          show ({ r with tc := gDef r.tc x.nm x.pt, mo := _ } : Rc) = _
          rw [if_neg (fun z => by rw [o] at z; cases z.1)]
        rw [this]
        exact R2.mono (Nat.le_succ _)
      · rw [o, if_neg Bool.false_ne_true]; exact W2
    | true =>
      rw [show takesOne (.T x why) = true from o]
      refine iteT ?_
      refine x_cut (fun σ' H4 => σ' = [some (.ref p), some (.ref t), some (.ref u)] ∧ ∃ q4, RcA K mg H0 H4 rp (goR w' r (.T x why)) (N + 2) q4 ∧ WkA K mg H0 H4 p rp hand w' q4 cd ∧ H4 u = some (.tup [.int x.n, .int x.c, .int x.k])) ?_ fun N3 rest3 => ?_
      · rintro σ' H4 ⟨rfl, q4, R4, W4, hu4⟩
        obtain ⟨C6, dx6, eC6, hp4⟩ := W4.ob
        rw [m_Walk] at eC6
        cases eC6
        clean_wf
        intro H5 b5 hp5
        rw [chf_p_ones] at hp5
        refine rest2 _ _ ⟨rfl, q4, R4.wr b5 W.fw hp4 W.nr, ?_, b5.at (ne_of hu4 hp4 (by intro z; cases z)) hu4⟩
        rw [o, if_pos rfl]
        exact ⟨⟨_, dx6, m_Walk, hp5⟩, b5.at (ne_of W4.ec hp4 (by intro z; cases z)) W4.ec, W4.ck, W4.h0, W4.h1, W4.fw, W4.fc, W4.c1, W4.c3, W4.c4, W4.cv, W4.nr⟩
      clean_wf
      refine ⟨p, rfl, H0, rp, hand, w', q2, cd, _, _, W2, R2, fun H4 v s4 hm hl => ?_⟩
      obtain ⟨a, xs, rfl, ha, hx⟩ := hm
      have lx := Paired.length hx
      have sa := SqL.of (K := K) ha
      have R4 := R2.same s4
      have W4 := W2.same s4
      have hu4 := s4 _ _ hu2
      have emt : met w' { r with tc := gDef r.tc x.nm x.pt } = met w' r := rfl
      rw [emt] at hx hl lx
      clean_wf
      refine ite2 (fun c => ?_) fun c => ?_
      · have c := of_decide_eq_true c
        have eg : goR w' r (.T x why) = { r with tc := gDef r.tc x.nm x.pt, mo := gUpd r.mo n0 (met w' r ++ [x.nm]) } := by
          show ({ r with tc := gDef r.tc x.nm x.pt, mo := _ } : Rc) = _
          rw [if_pos ⟨o, by omega⟩, hn0]
        obtain ⟨C7, dx7, eC7, hp4⟩ := W4.ob
        rw [m_Walk] at eC7
        cases eC7
        simp only [hn0, nO] at hp4
        obtain ⟨C8, dx8, eC8, hrp4⟩ := R4.ob
        rw [m_Record] at eC8
        cases eC8
        clean_wf
        refine ⟨p, rfl, H0, rp, hand, w', q2, cd, _, _, W4, R4, fun H5 v5 s5 hm5 hl5 => ?_⟩
        obtain ⟨a5, xs5, rfl, ha5, hx5⟩ := hm5
        have lx5 := Paired.length hx5
        rw [emt] at hx5 hl5 lx5
        clean_wf
        intro l6 H6 z6 s6 g6
        refine x_cat (s6 _ _ ha5) g6 (by show xs5.length + 1 ≤ 1000; omega) fun p7 H7 z7 s7 g7 => ?_
        have s47 : Same H4 H7 := s5.trans (s6.trans s7)
        have R7 := R4.same s47
        have W7 := W4.same s47
        have hp7 := s47 _ _ hp4
        have hrp7 := s47 _ _ hrp4
        have hu7 := s47 _ _ hu4
        have l3 := R7.l3
        clean_wf
        refine ⟨q2.d3, _, rfl, .inl ⟨_, Sum.inl n0, R7.e3, rfl, small1000 (by unfold dG; rw [List.length_map]; omega), rfl⟩, ?_⟩
        rw [dG_put _ _ _ R7.nd3]
        refine rest3 _ _ ⟨rfl, { q2 with m3 := putG q2.m3 n0 (.ref p7) }, ?_, W7.mv (z := q2.d3) .upd (W7.kind R7.e3 fun _ _ _ w => nomatch w) W7.c3 rfl rfl rfl rfl, ?_⟩
        · rw [eg]
          refine R7.set3 (n := n0) (v := .ref p7) (l := met w' r ++ [x.nm]) ⟨p7, xs5 ++ [.ref u], rfl, g7, ?_⟩ (by rw [List.length_append]; show (met w' r).length + 1 ≤ N + 1 + 1; omega)
          exact pair_app (Paired.mapP hx5 fun _ _ y => y.up (.same (s6.trans s7))) (.cons ⟨u, rfl, hu7⟩ .nil)
        · rw [upd_ne (ne_of hu7 R7.e3 (fun w => nomatch w))]; exact hu7
      · clean_wf
        refine rest3 _ _ ⟨rfl, q2, ?_, W4, hu4⟩
        have eg : goR w' r (.T x why) = { r with tc := gDef r.tc x.nm x.pt } := by
          show ({ r with tc := gDef r.tc x.nm x.pt, mo := _ } : Rc) = _
          rw [if_neg (fun z => c (decide_eq_true (by have := z.2; omega)))]
        rw [eg]
        exact R4.mono (Nat.le_succ _)
  rintro σ' H3 ⟨rfl, q3, R3, W3, hu3⟩
  obtain ⟨C9, dx9, eC9, hp3⟩ := W3.ob
  rw [m_Walk] at eC9
  cases eC9
  have su3 := SqT.of (K := K) hu3
  have ec3 := W3.ec
  have cl3 := W3.ck.len
  clean_wf
  refine ⟨cd, _, rfl, .inl ⟨_, Sum.inl x.c, ec3, rfl, small1000 (by unfold dI; rw [List.length_map]; show w'.cs.length ≤ 1000; have := cl3; change w'.cs.length < 64 at this; omega), rfl⟩, ?_⟩
  rw [dI_put _ _ _ W3.ck.nd]
  have b : But cd H3 (upd H3 cd (.dK (dI (putI w'.cs x.c x.k)))) := .upd
  refine kk _ q3 cd (R3.oth b W3.fc ec3 (fun _ w => nomatch w) (fun _ w => nomatch w) (R3.nrp ec3 fun _ _ _ w => nomatch w) W3.c1.symm (ne_of R3.e2 ec3 fun w => nomatch w) W3.c3.symm W3.c4.symm W3.cv) ⟨⟨_, dx9, m_Walk, b.at (ne_of hp3 ec3 fun w => nomatch w) hp3⟩, upd_same, W3.ck.put rg.1 rg.2 k0, W3.h0, W3.h1, W3.fw, W3.fc, W3.c1, W3.c3, W3.c4, W3.cv, W3.nr⟩
def sp_Walk_go_over (K : PySem.W.Frag) (mg : Str → Option Value) : Sp := fun vs H Q _ => ∃ (p : Addr) (ev : V), vs = [.ref p, ev] ∧ ∃ H0 rp hand w q cd r N e, RcA K mg H0 H rp r N q ∧ WkA K mg H0 H p rp hand w q cd ∧ EvA H ev e ∧ NoB hand w r e ∧ N ≤ 500 ∧ ∀ H' q' cd', RcA K mg H0 H' rp (goR w r e) (N + 2) q' → WkA K mg H0 H' p rp hand (goW w e) q' cd' → Q .non H'
theorem sc_Walk_go_over : FnScope ["self", "event"] ["self", "event"] (defScope s_Walk_go_over) := ⟨rfl, rfl, rfl, by decide +kernel, rfl, by decide +kernel, by decide +kernel⟩
set_option maxHeartbeats 1000000 in
theorem ok_Walk_go_over {f f_Walk_go_over_list f_Walk_go_over_take C_Walk : Addr} {fd fd_Walk_go_over_list fd_Walk_go_over_take : FuncData} (F : Fun K "go_over" "Walk.go_over" s_Walk_go_over f fd)
    (G_Walk_go_over_list : FnOk P w K mg base CX0 2 f_Walk_go_over_list fd_Walk_go_over_list ["self", "event"] (sp_Walk_go_over_list K mg)) (B_Walk_go_over_list : Binds K fd_Walk_go_over_list ["self", "event"] [])
    (G_Walk_go_over_take : FnOk P w K mg base CX0 2 f_Walk_go_over_take fd_Walk_go_over_take ["self", "event"] (sp_Walk_go_over_take K mg)) (B_Walk_go_over_take : Binds K fd_Walk_go_over_take ["self", "event"] []) (T_Walk : TWalk K C_Walk) (m_Walk : mg "Walk" = some (.ref C_Walk)) (mt_Walk_go_over_list : Meth K C_Walk "go_over_list" f_Walk_go_over_list) (mt_Walk_go_over_take : Meth K C_Walk "go_over_take" f_Walk_go_over_take) : FnOk P w K mg base CX0 3 f fd ["self", "event"] (sp_Walk_go_over K mg) := by
  refine F.ok sc_Walk_go_over (fun vs H Q E h => ?_) (fun cdv A outer s H vs Q E hr h => ?_)
  · obtain ⟨p, ev, rfl, _⟩ := h
    rfl
  obtain ⟨p, ev, rfl, h⟩ := h
  have hu64 := hr.units
  have hu0 := hr.units0
  have hu := hu_of hr
  refine ⟨_, (pss_one (ps_if (pt_cmpR op_eq (pe_ix (ix_tupK (K := K) rfl) (pv 1) pe_int (fun _ _ => rfl)) pe_str (nomark _)) (pss_one (ps_expr (pe_methS (MOk.cons T_Walk.cl mt_Walk_go_over_list G_Walk_go_over_list B_Walk_go_over_list MOk.nil) (pv 0) hr (pa_cons (pv 1) pa_nil)))) (pss_one (ps_if (pt_cmpR op_eq (pe_ix (ix_tupK (K := K) rfl) (pv 1) pe_int (fun _ _ => rfl)) pe_str (nomark _)) (pss_one (ps_expr (pe_methS (MOk.cons T_Walk.cl mt_Walk_go_over_take G_Walk_go_over_take B_Walk_go_over_take MOk.nil) (pv 0) hr (pa_cons (pv 1) pa_nil)))) (pss_one (ps_fldK (K := K) rfl (pv 0) pe_non rfl)))))), ?_⟩
  obtain ⟨H0, rp, hand, w', q, cd, r, N, e, R, W, he, nb, nN, kk⟩ := h
  obtain ⟨C, dx, eC, hp⟩ := W.ob
  rw [m_Walk] at eC
  cases eC
  obtain ⟨cl, n1, n2, n3, n4, n5, n6⟩ := id T_Walk
  cases e with
  | L n s' =>
    obtain ⟨t, rfl, ht, _⟩ := id he
    have st := SqT.of (K := K) ht
    clean_wf
    rw [decide_eq_true (rfl : ("list" : Str) = "list")]
    clean_wf
    exact ⟨p, _, rfl, H0, rp, hand, w', q, cd, r, N, n, s', R, W, he, nN, fun H' q' cd' R' W' => kk H' q' cd' R' W'⟩
  | T x why =>
    obtain ⟨t, nv, cv, rfl, ht, _⟩ := id he
    have st := SqT.of (K := K) ht
    have b := nb.b1
    unfold bNum at b
    clean_wf
    rw [s_tl]
    clean_wf
    rw [decide_eq_true (rfl : ("take" : Str) = "take")]
    clean_wf
    cases z : w'.num with
    | none => rw [z] at b; cases b
    | some n0 => exact ⟨p, _, rfl, H0, rp, hand, w', q, cd, r, N, x, why, n0, R, W, he, z, nN, fun H' q' cd' R' W' => kk H' q' cd' R' W'⟩
  | O n =>
    obtain ⟨t, rfl, ht⟩ := id he
    have st := SqT.of (K := K) ht
    clean_wf
    rw [s_ol]
    clean_wf
    rw [s_ot]
    clean_wf
    intro H1 b1 hp1
    rw [chf_p_number] at hp1
    exact kk H1 q cd ((R.wr b1 W.fw hp W.nr).mono (Nat.le_add_right _ _)) ⟨⟨_, dx, m_Walk, hp1⟩, b1.at (ne_of W.ec hp (by intro z; cases z)) W.ec, W.ck, W.h0, W.h1, W.fw, W.fc, W.c1, W.c3, W.c4, W.cv, W.nr⟩
end
end K80


namespace K80
open PySem L2
abbrev s_first_broken : Stmt := top 20
section
variable {P : Program} {w : World} {K : PySem.W.Frag} {mg : Str → Option Value} {base : Heap}
theorem tbl_nil {X : Cx} : ∀ f sp, (f, sp) ∈ ([] : List (Addr × Sp)) → CalV X f sp := fun _ _ h => nomatch h
theorem tbl_cons {X : Cx} {f0 : Addr} {sp0 : Sp} {l : List (Addr × Sp)} (h : CalV X f0 sp0) (t : ∀ f sp, (f, sp) ∈ l → CalV X f sp) : ∀ f sp, (f, sp) ∈ (f0, sp0) :: l → CalV X f sp := fun f sp z => by
  rcases List.mem_cons.mp z with e | e
  · cases e; exact h
  · exact t f sp e
def ruleNames : List Str := ["breaks_number", "breaks_hands", "breaks_row", "breaks_causes", "breaks_lists", "breaks_calls", "breaks_one", "breaks_together"]

def GV_RULES (K : PySem.W.Frag) (mg : Str → Option Value) (v : V) : Prop := ∃ (a : Addr) (l : List (Addr × Str × Addr)), v = .ref a ∧ (∀ H, SqT K H a (l.map fun e => V.ref e.1)) ∧ ∀ e ∈ l, (∀ H, SqT K H e.1 [.str e.2.1, .ref e.2.2]) ∧ ∃ n ∈ ruleNames, mg n = some (.ref e.2.2)
def sp_first_broken (K : PySem.W.Frag) (mg : Str → Option Value) : Sp := fun vs H Q _ => ∃ (p : Addr) (ev : V), vs = [.ref p, ev] ∧ ∃ H0 rp hand w q cd r N e, RcA K mg H0 H rp r N q ∧ WkA K mg H0 H p rp hand w q cd ∧ EvA H ev e ∧ NoB hand w r e ∧ N ≤ 500 ∧ ∀ H', Same H H' → Q .non H'
theorem sc_first_broken : FnScope ["walk", "event", "rule", "breaks"] ["walk", "event"] (defScope s_first_broken) := ⟨rfl, rfl, rfl, by decide +kernel, rfl, by decide +kernel, by decide +kernel⟩
set_option maxHeartbeats 1000000 in
theorem ok_first_broken {f f_breaks_number f_breaks_hands f_breaks_row f_breaks_causes f_breaks_lists f_breaks_calls f_breaks_together f_breaks_one : Addr} {fd fd_breaks_number fd_breaks_hands fd_breaks_row fd_breaks_causes fd_breaks_lists fd_breaks_calls fd_breaks_together fd_breaks_one : FuncData} {vc_RULES : V} {uc_RULES : Value} (F : Fun K "first_broken" "first_broken" s_first_broken f fd)
    (G_breaks_number : FnOk P w K mg base CX0 3 f_breaks_number fd_breaks_number ["walk", "event"] (sp_breaks_number K mg)) (C_breaks_number : Cal K mg "breaks_number" f_breaks_number fd_breaks_number ["walk", "event"])
    (G_breaks_hands : FnOk P w K mg base CX0 3 f_breaks_hands fd_breaks_hands ["walk", "event"] (sp_breaks_hands K mg)) (C_breaks_hands : Cal K mg "breaks_hands" f_breaks_hands fd_breaks_hands ["walk", "event"])
    (G_breaks_row : FnOk P w K mg base CX0 3 f_breaks_row fd_breaks_row ["walk", "event"] (sp_breaks_row K mg)) (C_breaks_row : Cal K mg "breaks_row" f_breaks_row fd_breaks_row ["walk", "event"])
    (G_breaks_causes : FnOk P w K mg base CX0 3 f_breaks_causes fd_breaks_causes ["walk", "event"] (sp_breaks_causes K mg)) (C_breaks_causes : Cal K mg "breaks_causes" f_breaks_causes fd_breaks_causes ["walk", "event"])
    (G_breaks_lists : FnOk P w K mg base CX0 3 f_breaks_lists fd_breaks_lists ["walk", "event"] (sp_breaks_lists K mg)) (C_breaks_lists : Cal K mg "breaks_lists" f_breaks_lists fd_breaks_lists ["walk", "event"])
    (G_breaks_calls : FnOk P w K mg base CX0 3 f_breaks_calls fd_breaks_calls ["walk", "event"] (sp_breaks_calls K mg)) (C_breaks_calls : Cal K mg "breaks_calls" f_breaks_calls fd_breaks_calls ["walk", "event"])
    (G_breaks_together : FnOk P w K mg base CX0 3 f_breaks_together fd_breaks_together ["walk", "event"] (sp_breaks_together K mg)) (C_breaks_together : Cal K mg "breaks_together" f_breaks_together fd_breaks_together ["walk", "event"])
    (G_breaks_one : FnOk P w K mg base CX0 3 f_breaks_one fd_breaks_one ["walk", "event"] (sp_breaks_one K mg)) (C_breaks_one : Cal K mg "breaks_one" f_breaks_one fd_breaks_one ["walk", "event"]) (gm_RULES : mg "RULES" = some uc_RULES) (gr_RULES : RelV vc_RULES uc_RULES) (gv_RULES : GV_RULES K mg vc_RULES) : FnOk P w K mg base CX0 4 f fd ["walk", "event"] (sp_first_broken K mg) := by
  refine F.ok sc_first_broken (fun vs H Q E h => ?_) (fun cdv A outer s H vs Q E hr h => ?_)
  · obtain ⟨p, ev, rfl, _⟩ := h
    rfl
  obtain ⟨p, ev, rfl, h⟩ := h
  have hu64 := hr.units
  have hu0 := hr.units0
  have hu := hu_of hr
  refine ⟨_, (pss_cons (ps_for PassesOwn.never rfl (pi_tupK (K := K) rfl (pe_glob rfl gm_RULES gr_RULES)) (pg_tupK (K := K) (n := 2) rfl rfl (pgs_cons (pg_name (i := 2) sc_first_broken.nd rfl (Or.inl rfl)) (pgs_cons (pg_name (i := 3) sc_first_broken.nd rfl (Or.inl rfl)) pgs_nil)))
      (pss_one (ps_if (pt_callK K rfl (pcall_v [(f_breaks_number, sp_brk K mg), (f_breaks_hands, sp_brk K mg), (f_breaks_row, sp_brk K mg), (f_breaks_causes, sp_brk K mg), (f_breaks_lists, sp_brk K mg), (f_breaks_calls, sp_brk K mg), (f_breaks_one, sp_brk K mg), (f_breaks_together, sp_brk K mg)] (tbl_cons (CalV.of G_breaks_number C_breaks_number hr) (tbl_cons (CalV.of G_breaks_hands C_breaks_hands hr) (tbl_cons (CalV.of G_breaks_row C_breaks_row hr) (tbl_cons (CalV.of G_breaks_causes C_breaks_causes hr) (tbl_cons (CalV.of G_breaks_lists C_breaks_lists hr) (tbl_cons (CalV.of G_breaks_calls C_breaks_calls hr) (tbl_cons (CalV.of G_breaks_one C_breaks_one hr) (tbl_cons (CalV.of G_breaks_together C_breaks_together hr) tbl_nil)))))))) (pv 3) (pa_cons (pv 0) (pa_cons (pv 1) pa_nil)))) (pss_one (ps_ret (pv 2))) pss_nil)))
      (pss_one (ps_ret pe_non))), ?_⟩
  obtain ⟨H0, rp, hand, w', q, cd, r, N, e, R, W, he, nb, nN, kk⟩ := h
  obtain ⟨a, l, rfl, hl, hm⟩ := gv_RULES
  have sl := hl H
  clean_wf
  refine for_tup (K := K) (a := a) (xs := l.map fun e => V.ref e.1) (fun i σ A => Same H A ∧ ∃ u v, σ = [some (.ref p), some ev, u, v]) ⟨.refl _, none, none, rfl⟩ (fun i σ A _ z => hl A) ?_ ?_
  · rintro i x σ A hx ⟨sA, u, v, rfl⟩
    obtain ⟨e0, he0, rfl⟩ : ∃ e0, e0 ∈ l ∧ x = V.ref e0.1 := by
      rw [List.getElem?_map] at hx
      cases y : l[i]? with
      | none => rw [y] at hx; cases hx
      | some e0 => rw [y] at hx; cases hx; exact ⟨e0, List.mem_of_getElem? y, rfl⟩
    obtain ⟨st, n, hn, en⟩ := hm e0 he0
    have st := st A
    clean_wf
    have hmem : (e0.2.2, sp_brk K mg) ∈ [(f_breaks_number, sp_brk K mg), (f_breaks_hands, sp_brk K mg), (f_breaks_row, sp_brk K mg), (f_breaks_causes, sp_brk K mg), (f_breaks_lists, sp_brk K mg), (f_breaks_calls, sp_brk K mg), (f_breaks_one, sp_brk K mg), (f_breaks_together, sp_brk K mg)] := by
      have key : ∀ {g : Addr} {n' : Str}, n = n' → mg n' = some (.ref g) → e0.2.2 = g := fun e z => by
        rw [e, z] at en
        cases en
        rfl
      simp only [ruleNames, List.mem_cons, List.not_mem_nil, or_false] at hn
      rcases hn with h | h | h | h | h | h | h | h
      · rw [key h C_breaks_number.mg]; simp
      · rw [key h C_breaks_hands.mg]; simp
      · rw [key h C_breaks_row.mg]; simp
      · rw [key h C_breaks_causes.mg]; simp
      · rw [key h C_breaks_lists.mg]; simp
      · rw [key h C_breaks_calls.mg]; simp
      · rw [key h C_breaks_one.mg]; simp
      · rw [key h C_breaks_together.mg]; simp
    refine ⟨V.ref e0.2.2, rfl, e0.2.2, sp_brk K mg, rfl, hmem, ?_⟩
    clean_wf
    refine ⟨p, ev, rfl, H0, rp, hand, w', q, cd, r, N, e, R.same sA, W.same sA, he.up (.same sA), nb, nN, fun H' s' => ?_⟩
    clean_wf
    exact ⟨sA.trans s', _, _, rfl⟩
  rintro σ A ⟨sA, u, v, rfl⟩
  clean_wf
  exact kk A sA
end
end K80


namespace K80
open PySem L2
abbrev s_fault : Stmt := top 21
section
variable {P : Program} {w : World} {K : PySem.W.Frag} {mg : Str → Option Value} {base : Heap}

def HsA (H : Hp) (v : V) (h : Int × List Ev) : Prop := ∃ t l evs, v = .ref t ∧ H t = some (.tup [.int h.1, .ref l]) ∧ H l = some (.lst evs) ∧ Paired (EvA H) evs h.2
theorem HsA.same {H H' : Hp} {v : V} {h : Int × List Ev} (x : HsA H v h) (s : Same H H') : HsA H' v h := by
  obtain ⟨t, l, evs, e1, e2, e3, e4⟩ := x
  exact ⟨t, l, evs, e1, s _ _ e2, s _ _ e3, Paired.mapP e4 fun _ _ y => y.up (.same s)⟩
def evN (ts : List (Int × List Ev)) : Nat := (ts.map fun t => t.2.length).sum
def r0 : Rc := ⟨fun _ => none, fun _ => none, fun _ => none, fun _ => none⟩
theorem ri0 (C : Ctx) : RI C r0 where
  tl := fun _ _ h => nomatch h
  tc := fun _ _ h => nomatch h
  mo := fun _ _ h => nomatch h
  gc := fun _ _ h => nomatch h
def w0 : Wk := ⟨none, none, [], 0⟩
theorem pair_to {α β : Type} {R : α → β → Prop} : ∀ {xs : List α} {ys : List β} {i : Nat} {x : α}, Paired R xs ys → xs[i]? = some x → ∃ y, ys[i]? = some y ∧ R x y
  | _, _, _, _, .nil, e => by simp at e
  | _, _, 0, _, .cons r _, e => by simp at e; subst e; exact ⟨_, rfl, r⟩
  | _, _, i + 1, y, .cons _ t, e => by
    obtain ⟨x, h1, h2⟩ := pair_to (i := i) t (by simpa using e)
    exact ⟨x, by simpa using h1, h2⟩
theorem evN_at {ts : List (Int × List Ev)} {i : Nat} {t : Int × List Ev} (h : ts[i]? = some t) : evN (ts.take (i + 1)) = evN (ts.take i) + t.2.length := by
  unfold evN
  rw [take_get h, List.map_append, List.sum_append]
  simp
theorem evN_le (ts : List (Int × List Ev)) (i : Nat) : evN (ts.take i) ≤ evN ts := by
  have e : evN ts = evN (ts.take i) + evN (ts.drop i) := by
    unfold evN
    rw [← List.sum_append, ← List.map_append, List.take_append_drop]
  omega
theorem x_ienum {ta : TA} {σ : St} {H : Hp} {R : It → Hp → Prop} (h : ta σ H fun vs H1 => ∃ a xs, vs = [.ref a] ∧ SqL K H1 a xs ∧ R (Ite K a) H1) : iEnum K ta σ H R := h
def sp_fault (K : PySem.W.Frag) : Sp := fun vs H Q _ => ∃ (a : Addr), vs = [.ref a] ∧ ∃ C xs ts, SqL K H a xs ∧ Paired (HsA H) xs ts ∧ (∀ t ∈ ts, (0 ≤ t.1 ∧ t.1 < 63) ∧ ∃ O, Ords C O ∧ Pth C O t.1 (.idle 0) t.2) ∧ evN ts ≤ 200 ∧ ∀ H', Same H H' → Q .non H'
theorem sc_fault : FnScope ["told", "record", "hand", "events", "walk", "place", "event", "rule"] ["told"] (defScope s_fault) := ⟨rfl, rfl, rfl, by decide +kernel, rfl, by decide +kernel, by decide +kernel⟩
set_option maxHeartbeats 2000000 in
theorem ok_fault {f f_Record___init__ f_Walk___init__ f_Walk_go_over f_first_broken C_Record C_Walk : Addr} {fd fd_Record___init__ fd_Walk___init__ fd_Walk_go_over fd_first_broken : FuncData} (F : Fun K "fault" "fault" s_fault f fd)
    (G_Record___init__ : FnOk P w K mg base CX0 3 f_Record___init__ fd_Record___init__ ["self"] (sp_Record___init__ K)) (B_Record___init__ : Binds K fd_Record___init__ ["self"] [])
    (G_Walk___init__ : FnOk P w K mg base CX0 3 f_Walk___init__ fd_Walk___init__ ["self", "hand", "record"] (sp_Walk___init__ K)) (B_Walk___init__ : Binds K fd_Walk___init__ ["self", "hand", "record"] [])
    (G_Walk_go_over : FnOk P w K mg base CX0 4 f_Walk_go_over fd_Walk_go_over ["self", "event"] (sp_Walk_go_over K mg)) (B_Walk_go_over : Binds K fd_Walk_go_over ["self", "event"] [])
    (G_first_broken : FnOk P w K mg base CX0 4 f_first_broken fd_first_broken ["walk", "event"] (sp_first_broken K mg)) (C_first_broken : Cal K mg "first_broken" f_first_broken fd_first_broken ["walk", "event"]) (h_enumerate : mg "enumerate" = none) (T_Record : TRecord K C_Record) (T_Walk : TWalk K C_Walk) (m_Record : mg "Record" = some (.ref C_Record)) (m_Walk : mg "Walk" = some (.ref C_Walk)) (M_Record : Mk K C_Record f_Record___init__) (M_Walk : Mk K C_Walk f_Walk___init__) (mt_Walk_go_over : Meth K C_Walk "go_over" f_Walk_go_over) : FnOk P w K mg base CX0 5 f fd ["told"] (sp_fault K) := by
  refine F.ok sc_fault (fun vs H Q E h => ?_) (fun cdv A outer s H vs Q E hr h => ?_)
  · obtain ⟨a, rfl, _⟩ := h
    rfl
  obtain ⟨a, rfl, h⟩ := h
  have hu64 := hr.units
  have hu0 := hr.units0
  have hu := hu_of hr
  refine ⟨_, (pss_cons (ps_set (i := 1) sc_fault.nd rfl (Or.inl rfl) (pe_make0 M_Record G_Record___init__ hr rfl m_Record B_Record___init__ .nil pass0))
      (pss_cons (ps_for PassesOwn.never rfl (pi_listK (K := K) rfl (pv 0)) (pg_tupK (K := K) (n := 2) rfl rfl (pgs_cons (pg_name (i := 2) sc_fault.nd rfl (Or.inl rfl)) (pgs_cons (pg_name (i := 3) sc_fault.nd rfl (Or.inl rfl)) pgs_nil)))
      (pss_cons (ps_set (i := 4) sc_fault.nd rfl (Or.inl rfl) (pe_make M_Walk G_Walk___init__ hr rfl m_Walk B_Walk___init__ .nil pass0 (pa_cons (pv 2) (pa_cons (pv 1) pa_nil))))
      (pss_one (ps_for PassesOwn.never rfl (pi_enum rfl h_enumerate (pa_cons (pv 3) pa_nil)) (pg_tupK (K := K) (n := 2) rfl rfl (pgs_cons (pg_name (i := 5) sc_fault.nd rfl (Or.inl rfl)) (pgs_cons (pg_name (i := 6) sc_fault.nd rfl (Or.inl rfl)) pgs_nil)))
      (pss_cons (ps_set (i := 7) sc_fault.nd rfl (Or.inl rfl) (pcall G_first_broken C_first_broken hr (pa_cons (pv 4) (pa_cons (pv 6) pa_nil))))
      (pss_cons (ps_if (pt_cmpR op_notN (pv 7) pe_non (nomark _)) (pss_one (ps_ret (pe_tup (pa_cons (pv 7) (pa_cons (pv 2) (pa_cons (pv 5) pa_nil)))))) pss_nil)
      (pss_one (ps_expr (pe_methS (MOk.cons T_Walk.cl mt_Walk_go_over G_Walk_go_over B_Walk_go_over MOk.nil) (pv 4) hr (pa_cons (pv 6) pa_nil))))))))))
      (pss_one (ps_ret pe_non)))), ?_⟩
  obtain ⟨C, xs, ts, ha, hx, hts, hn, kk⟩ := h
  clean_wf
  intro rp dx H1 hrp0 s1 g1
  refine ⟨rp, rfl, C_Record, dx, T_Record, g1, fun H2 d1 d2 d3 d4 k1 z1 z2 z3 z4 n13 n14 n34 y1 y2 y3 y4 yp => ⟨rfl, ?_⟩⟩
  have s2 : Same H H2 := fun b o e => k1 b o (s1 _ _ e) (fun z => by rw [z, hrp0] at e; cases e)
  have R0 : RcA K mg H H2 rp r0 0 ⟨d1, d2, d3, d4, [], [], [], []⟩ :=
    ⟨⟨C_Record, dx, m_Record, yp⟩, y1, y2, y3, y4, Nat.le_refl _, Nat.le_refl _, Nat.le_refl _, Nat.le_refl _, fun _ => True.intro, fun _ => True.intro, fun _ => True.intro, fun _ => True.intro, hrp0, s1.free z1, s1.free z2, s1.free z3, s1.free z4, n13, n14, n34, s2, List.nodup_nil, List.nodup_nil, List.nodup_nil⟩
  have ha2 := s2.seq ha
  clean_wf
  refine for_list (K := K) (a := a) (xs := xs) (fun i σ A => ∃ u2 u3 u4 u5 u6 u7, σ = [some (.ref a), some (.ref rp), u2, u3, u4, u5, u6, u7] ∧ ∃ r N q, RcA K mg H A rp r N q ∧ RI C r ∧ N ≤ 2 * evN (ts.take i)) ⟨none, none, none, none, none, none, rfl, r0, 0, _, R0, ri0 C, Nat.zero_le _⟩ (fun i σ A _ ⟨_, _, _, _, _, _, _, _, _, _, R, _⟩ => R.sm.seq ha) ?_ ?_
  · rintro i x σ A hxi ⟨u2, u3, u4, u5, u6, u7, rfl, r, N, q, R, ri, nN⟩
    obtain ⟨tt, hti, hsa⟩ := pair_to hx hxi
    obtain ⟨hrg, O, hO, hP⟩ := hts tt (List.mem_of_getElem? hti)
    obtain ⟨t, l, evs, rfl, f1, f2, f3⟩ := hsa
    have lev := Paired.length f3
    have nle := evN_at hti
    have nl2 := evN_le ts (i + 1)
    have sA := R.sm
    have st := SqT.of (K := K) (sA _ _ f1)
    clean_wf
    intro wp dx2 A1 hw0 s3 g3
    refine ⟨wp, tt.1, rp, rfl, C_Walk, dx2, T_Walk, g3, fun A2 cd k2 zc yc yw => ⟨rfl, ?_⟩⟩
    have s4 : Same A A2 := fun b o e => k2 b o (s3 _ _ e) (fun z => by rw [z, hw0] at e; cases e)
    have zc' := s3.free zc
    have frc : ∀ {b : Addr} {o : HO}, A b = some o → cd ≠ b := fun e z => by rw [← z, zc'] at e; cases e
    have W2 : WkA K mg H A2 wp rp tt.1 w0 q cd := by
      refine ⟨⟨C_Walk, dx2, m_Walk, yw⟩, yc, Ck.nil, hrg.1, hrg.2, sA.free hw0, sA.free zc', frc R.e1, frc R.e3, frc R.e4, fun n v e z => ?_, fun z => ?_⟩
      · have hr4 := R.r4 n
        rw [e, z] at hr4
        cases y : r.gc n with
        | none => rw [y] at hr4; exact hr4.elim
        | some m =>
          rw [y] at hr4
          obtain ⟨b, eb, hb, _⟩ := hr4
          cases eb
          exact frc hb rfl
      · obtain ⟨_, _, _, o2⟩ := R.ob
        rw [z, o2] at hw0
        cases hw0
    have R2 := R.same s4
    have sl2 := SqL.of (K := K) (R2.sm _ _ f2)
    clean_wf
    refine x_ienum ?_
    clean_wf
    refine ⟨l, evs, rfl, sl2, ?_⟩
    refine for_enum (K := K) (a := l) (xs := evs) (fun j σ B => ∃ u5 u6 u7, σ = [some (.ref a), some (.ref rp), some (.int tt.1), some (.ref l), some (.ref wp), u5, u6, u7] ∧ ∃ r N q cd w s, RcA K mg H B rp r N q ∧ WkA K mg H B wp rp tt.1 w q cd ∧ RI C r ∧ WI C O w r s ∧ Pth C O tt.1 s (tt.2.drop j) ∧ N ≤ 2 * (evN (ts.take i) + j)) ⟨u5, u6, u7, rfl, r, N, q, cd, w0, .idle 0, R2, W2, ri, ⟨rfl, fun v hv => nomatch hv⟩, hP, by omega⟩ (fun j σ B _ ⟨_, _, _, _, _, _, _, _, _, _, R, _⟩ => SqL.of (R.sm _ _ f2)) ?_ ?_
    · rintro j x' t' σ B hxj ht' ⟨v5, v6, v7, rfl, r', N', q', cd', w', s', R', W', ri', wi', pp, nN'⟩
      obtain ⟨e, hej, hev⟩ := pair_to f3 hxj
      have jl := (List.getElem?_eq_some_iff.mp hej).1
      have ed : tt.2.drop j = e :: tt.2.drop (j + 1) := by
        rw [List.drop_eq_getElem_cons jl]
        rw [List.getElem?_eq_getElem jl] at hej
        rw [Option.some.inj hej]
      rw [ed] at pp
      obtain ⟨nb, ri2, s2', pp2, wi2⟩ := step hO ri' wi' pp
      have sb := same_upd (o := .tup [.int j, x']) ht'
      have gt : (upd B t' (.tup [.int j, x'])) t' = some (.tup [.int j, x']) := upd_same
      generalize upd B t' (.tup [.int j, x']) = B1 at sb gt ⊢
      have st' := SqT.of (K := K) gt
      have R1 := R'.same sb
      have W1 := W'.same sb
      clean_wf
      refine ⟨wp, x', rfl, H, rp, tt.1, w', q', cd', r', N', e, R1, W1, hev.up (.same R1.sm), nb, by omega, fun B2 sB2 => ?_⟩
      have R3 := R1.same sB2
      have W3 := W1.same sB2
      obtain ⟨Cw, dxw, eCw, hpw⟩ := W3.ob
      rw [m_Walk] at eCw
      cases eCw
      clean_wf
      rw [nn_dec]
      clean_wf
      refine ⟨wp, x', rfl, H, rp, tt.1, w', q', cd', r', N', e, R3, W3, hev.up (.same R3.sm), nb, by omega, fun B3 q4 cd4 R4 W4 => ?_⟩
      clean_wf
      exact ⟨_, _, _, rfl, _, N' + 2, q4, cd4, _, s2', R4, W4, ri2, wi2, pp2, by omega⟩
    · rintro σ B ⟨v5, v6, v7, rfl, r', N', q', cd', w', s', R', W', ri', _, _, nN'⟩
      exact ⟨_, _, _, _, _, _, rfl, r', N', q', R', ri', by omega⟩
  rintro σ A ⟨u2, u3, u4, u5, u6, u7, rfl, r, N, q, R, ri, nN⟩
  clean_wf
  exact kk A R.sm
end
end K80


namespace K80
open PySem L2
abbrev s__law_pick : Stmt := top 23
section
variable {P : Program} {w : World} {K : PySem.W.Frag} {mg : Str → Option Value} {base : Heap}
theorem ints_dps {H : Hp} : ∀ ns : List Int, Dps K H (ns.map V.int) (ns.map PyData.int)
  | [] => .nil
  | _ :: ns => .cons (.int _) (ints_dps ns)
theorem ints_lay : ∀ ns : List Int, PyData.canLayAll0 (ns.map PyData.int) = true
  | [] => rfl
  | _ :: ns => by rw [List.map_cons, PyData.canLayAll0.eq_2, ints_lay ns]; rfl
theorem x_eqNilI {H : Hp} {Q : VK} {a b : Addr} {ns : List Int} (ha : SqL K H a (ns.map V.int)) (hb : SqL K H b []) (q : Q (.bl (decide (ns = []))) H) : rEqP K (.ref a) (.ref b) H Q := by
  refine ⟨.list (ns.map PyData.int), .list [], .inr ⟨_, _, _, rfl, rfl, ha, ints_dps ns⟩, .inr ⟨_, _, _, rfl, rfl, hb, .nil⟩, by rw [PyData.canLay0.eq_5]; exact ints_lay ns, rfl, by have : (PyData.list []).depth = 1 := rfl; omega, ?_⟩
  have e : (PyData.list (ns.map PyData.int)).eqv (.list []) = decide (ns = []) := by
    cases ns with
    | nil => rfl
    | cons d ds => rw [decide_eq_false (by intro z; cases z)]; rfl
  rw [e]
  exact q
theorem lit {c m : Int} (h : 0 < m) : 0 ≤ c % m ∧ c % m < m := ⟨Int.emod_nonneg _ (by omega), Int.emod_lt_of_pos _ h⟩
theorem lit2 {c m : Int} (h : 0 < m) (h2 : m ≤ 1099511627776) : 0 ≤ c % m ∧ c % m < 1099511627776 := ⟨(lit h).1, by have := (lit (c := c) h).2; omega⟩
def sp__law_pick (K : PySem.W.Frag) : Sp := fun vs H Q _ => ∃ (a : Addr) (k : Int), vs = [.ref a, .int k] ∧ ∃ ns : List Int, SqL K H a (ns.map V.int) ∧ 0 ≤ k ∧ k ≤ 1000 ∧ ns.length ≤ 1000 ∧ ∀ (c : Int) H', (0 ≤ c ∧ c < 1099511627776) → Same H H' → Q (.int c) H'
theorem sc__law_pick : FnScope ["_law_script", "_law_k", "_law_cell", "_law_number"] ["_law_script", "_law_k"] (defScope s__law_pick) := ⟨rfl, rfl, rfl, by decide +kernel, rfl, by decide +kernel, by decide +kernel⟩
set_option maxHeartbeats 1000000 in
theorem ok__law_pick {f  : Addr} {fd  : FuncData} (F : Fun K "_law_pick" "_law_pick" s__law_pick f fd) (h_len : mg "len" = none) : FnOk P w K mg base CX0 1 f fd ["_law_script", "_law_k"] (sp__law_pick K) := by
  refine F.ok sc__law_pick (fun vs H Q E h => ?_) (fun cdv A outer s H vs Q E hr h => ?_)
  · obtain ⟨a, k, rfl, _⟩ := h
    rfl
  obtain ⟨a, k, rfl, h⟩ := h
  have hu64 := hr.units
  have hu0 := hr.units0
  have hu := hu_of hr
  refine ⟨_, (pss_cons (ps_if (pt_cmpR (op_eqK (K := K) rfl hu64) (pv 0) (pe_lst pa_nil) (nomark _)) (pss_one (ps_ret (pe_op op_mod (pe_op op_mul (pv 1) (pv 1)) pe_int))) pss_nil)
      (pss_cons (ps_if (pt_cmpR op_eq (pe_op op_mod (pe_ix (ix_listK (K := K) rfl) (pv 0) pe_int (fun _ _ => rfl)) pe_int) pe_int (nomark _)) (pss_cons (ps_set (i := 2) sc__law_pick.nd rfl (Or.inl rfl) pe_int)
      (pss_cons (ps_if (pt_cmpR op_lt (pe_op op_add pe_int (pe_op op_fdiv (pv 1) pe_int)) (pe_callB (call_lenK (K := K) rfl) (by rfl) h_len PySem.boot_len (pa_cons (pv 0) pa_nil)) (nomark _)) (pss_one (ps_set (i := 2) sc__law_pick.nd rfl (Or.inl rfl) (pe_ix (ix_listK (K := K) rfl) (pv 0) (pe_op op_add pe_int (pe_op op_fdiv (pv 1) pe_int)) (fun _ _ => rfl)))) pss_nil)
      (pss_one (ps_ret (pe_op op_mod (pe_op op_shr (pv 2) (pe_op op_mul pe_int (pe_op op_mod (pv 1) pe_int))) (pe_op op_pow pe_int pe_int)))))) pss_nil)
      (pss_cons (ps_set (i := 3) sc__law_pick.nd rfl (Or.inl rfl) (pe_op op_mod (pe_op op_mul (pe_op op_add (pe_op op_add (pe_ix (ix_listK (K := K) rfl) (pv 0) (pe_op op_mod (pv 1) (pe_callB (call_lenK (K := K) rfl) (by rfl) h_len PySem.boot_len (pa_cons (pv 0) pa_nil))) (fun _ _ => rfl)) (pe_op op_mul pe_int (pv 1))) pe_int) pe_int) pe_int))
      (pss_cons (ps_set (i := 3) sc__law_pick.nd rfl (Or.inl rfl) (pe_op op_mod (pe_op op_mul (pv 3) (pe_op op_add (pe_op op_fdiv (pv 3) pe_int) pe_int)) pe_int))
      (pss_one (ps_ret (pe_op op_mod (pe_op op_mul (pv 3) (pe_op op_add (pe_op op_fdiv (pv 3) pe_int) pe_int)) pe_int))))))), ?_⟩
  obtain ⟨ns, hS, h0, h1, hl, q⟩ := h
  refine x_seq ?_
  clean_wf
  intro l H1 hl1 s1 g1
  have hS1 := s1.seq hS
  refine x_eqNilI hS1 (SqL.of g1) ?_
  clean_wf
  refine ite2 (fun c => ?_) fun c => ?_
  · clean_wf
    refine ⟨_, _, rfl, rfl, .inl ⟨by omega, by omega⟩, ?_⟩
    clean_wf
    exact q _ _ (lit2 (by decide) (by decide)) s1
  have c : ns ≠ [] := fun z => c (decide_eq_true z)
  have ln : 0 < ns.length := List.length_pos_iff.mpr c
  have hat : ∀ k : Int, 0 ≤ k → k < ns.length → ∃ z, atI (ns.map V.int) k = some (V.int z) := fun k k0 k1 => ⟨ns[k.toNat]'(by omega), atI_int k0 (by rw [List.getElem?_map, List.getElem?_eq_getElem (by omega)]; rfl)⟩
  obtain ⟨z0, a0⟩ := hat 0 (by omega) (by omega)
  clean_wf
  refine x_seq ?_
  clean_wf
  refine ite2 (fun c2 => ?_) fun c2 => ?_
  · refine x_seq ?_
    clean_wf
    dsimp only
    refine x_cut (fun σ' H' => H1 = H' ∧ ∃ z : Int, σ' = [some (.ref a), some (.int k), some (.int z), none]) ?_ fun N rest => ?_
    rotate_left
    · clean_wf
      refine ite2 (fun c3 => ?_) fun c3 => ?_
      · have c3 := of_decide_eq_true c3
        rw [List.length_map] at c3
        obtain ⟨z, az⟩ := hat (1 + k / 25) (by omega) (by omega)
        clean_wf
        exact rest _ _ ⟨rfl, z, rfl⟩
      · clean_wf
        exact rest _ _ ⟨rfl, 0, rfl⟩
    rintro σ' _ ⟨rfl, z, rfl⟩
    clean_wf
    refine ⟨_, _, rfl, rfl, .inl ⟨by decide, by decide⟩, ?_⟩
    clean_wf
    exact q _ _ (lit2 (by decide) (by decide)) s1
  · clean_wf
    refine ⟨_, _, rfl, rfl, (by show (0 : Int) < ((ns.map V.int).length : Nat); rw [List.length_map]; omega), ?_⟩
    have ll := lit (c := k) (m := ((ns.map V.int).length : Nat)) (by rw [List.length_map]; omega)
    obtain ⟨z, az⟩ := hat (k % ((ns.map V.int).length : Nat)) ll.1 (by have := ll.2; rw [List.length_map] at this ⊢; omega)
    clean_wf
    refine ⟨_, _, rfl, rfl, .inl ⟨by decide, by decide⟩, ?_⟩
    clean_wf
    refine ⟨_, _, rfl, rfl, .inr ⟨by decide, by decide⟩, ?_⟩
    clean_wf
    have m1 := lit (c := (z + 7919 * k + 1) * 48271) (m := 2147483647) (by decide)
    generalize (z + 7919 * k + 1) * 48271 % 2147483647 = u at m1 ⊢
    refine ⟨_, _, rfl, rfl, .inl ⟨by omega, by omega⟩, ?_⟩
    clean_wf
    have m2 := lit (c := u * (u / 1009 + 69621)) (m := 2147483647) (by decide)
    generalize u * (u / 1009 + 69621) % 2147483647 = v at m2 ⊢
    refine ⟨_, _, rfl, rfl, .inl ⟨by omega, by omega⟩, ?_⟩
    clean_wf
    exact q _ _ (lit2 (by decide) (by decide)) s1
end
end K80


namespace K80
open PySem L2
abbrev s__law_hands : Stmt := top 24
section
variable {P : Program} {w : World} {K : PySem.W.Frag} {mg : Str → Option Value} {base : Heap}

structure Hs4 (hs : List Int) : Prop where
  ln : hs.length = 4
  nd : hs.Nodup
  rg : ∀ h ∈ hs, 0 ≤ h ∧ h < 63
def sp__law_hands (K : PySem.W.Frag) : Sp := fun vs H Q _ => ∃ (c : Int), vs = [.int c] ∧ 0 ≤ c ∧ ∀ H' l hs, Same H H' → H l = none → H' l = some (.lst (hs.map V.int)) → Hs4 hs → Q (.ref l) H'
theorem sc__law_hands : FnScope ["_law_cell", "_law_hands_here", "_law_low", "_law_k", "_law_room"] ["_law_cell"] (defScope s__law_hands) := ⟨rfl, rfl, rfl, by decide +kernel, rfl, by decide +kernel, by decide +kernel⟩
set_option maxHeartbeats 1000000 in
theorem ok__law_hands {f  : Addr} {fd  : FuncData} (F : Fun K "_law_hands" "_law_hands" s__law_hands f fd) (h_range : mg "range" = none) : FnOk P w K mg base CX0 1 f fd ["_law_cell"] (sp__law_hands K) := by
  refine F.ok sc__law_hands (fun vs H Q E h => ?_) (fun cdv A outer s H vs Q E hr h => ?_)
  · obtain ⟨c, rfl, _⟩ := h
    rfl
  obtain ⟨c, rfl, h⟩ := h
  have hu64 := hr.units
  have hu0 := hr.units0
  have hu := hu_of hr
  refine ⟨_, (pss_cons (ps_set (i := 1) sc__law_hands.nd rfl (Or.inl rfl) (pe_lst pa_nil))
      (pss_cons (ps_set (i := 2) sc__law_hands.nd rfl (Or.inl rfl) pe_int)
      (pss_cons (ps_for PassesOwn.never rfl (pi_range1 rfl h_range (pa_cons pe_int pa_nil)) (pg_name (i := 3) sc__law_hands.nd rfl (Or.inl rfl))
      (pss_cons (ps_set (i := 4) sc__law_hands.nd rfl (Or.inl rfl) (pe_op op_sub (pe_op op_add pe_int (pv 3)) (pv 2)))
      (pss_cons (ps_expr (pe_appendK (K := K) rfl (pe_bm PySem.F.plainAttrs_list PySem.F.slot_list_append PySem.F.type_list_append mt_append (pv 1) (pa_cons (pe_op op_add (pv 2) (pe_op op_mod (pv 0) (pv 4))) pa_nil))))
      (pss_cons (ps_set (i := 0) sc__law_hands.nd rfl (Or.inl rfl) (pe_op op_fdivB (pv 0) (pv 4)))
      (pss_one (ps_set (i := 2) sc__law_hands.nd rfl (Or.inl rfl) (pe_op op_add (pe_ix (ix_listK (K := K) rfl) (pv 1) (pe_un un_neg pe_int) (fun _ _ => rfl)) pe_int)))))))
      (pss_one (ps_ret (pv 1)))))), ?_⟩
  obtain ⟨c0, kk⟩ := h
  clean_wf
  intro l H1 hl s1 g1
  clean_wf
  refine ⟨_, rfl, by omega, by omega, ?_⟩
  refine for_range (fun i σ A => ∃ (c low : Int) (hs : List Int) (v3 v4 : Option V), σ = [some (.int c), some (.ref l), some (.int low), v3, v4] ∧ Same H A ∧ A l = some (.lst (hs.map V.int)) ∧ hs.length = i ∧ hs.Nodup ∧ (∀ h ∈ hs, 0 ≤ h ∧ h < low) ∧ 0 ≤ low ∧ low ≤ 59 + i ∧ 0 ≤ c) ⟨c, 0, [], none, none, rfl, s1, g1, rfl, List.nodup_nil, (fun _ z => nomatch z), by omega, by omega, c0⟩ ?_ ?_
  · rintro i σ A hi ⟨c, low, hs, v3, v4, rfl, sA, gA, lh, nd, rg, l0, l1, c0⟩
    clean_wf
    have rm : (0 : Int) < 60 + (0 + i) - low := by omega
    have ml := lit (c := c) rm
    refine x_append gA (small1000 (by rw [List.length_map]; omega)) fun A2 bA gA2 => ?_
    generalize hq : low + c % (60 + (0 + (i : Int)) - low) = hn at gA2 ⊢
    have gA3 : A2 l = some (.lst ((hs ++ [hn]).map V.int)) := by rw [gA2, List.map_append]; rfl
    have sl := SqL.of (K := K) gA3
    have al : atI ((hs ++ [hn]).map V.int) (-1) = some (.int hn) := by
      unfold atI
      have e1 : ixN ((hs ++ [hn]).map V.int).length (-1) = some hs.length := by
        rw [List.length_map, List.length_append]
        unfold ixN
        rw [if_neg (by decide)]
        simp
        omega
      rw [e1]
      simp
    clean_wf
    refine ⟨_, _, rfl, rfl, ⟨rm, by omega⟩, ?_⟩
    clean_wf
    refine ⟨c / (60 + (0 + i) - low), hn + 1, hs ++ [hn], _, _, rfl, bA.same sA hl, gA3, by rw [List.length_append, lh]; rfl, ?_, ?_, by omega, by omega, Int.ediv_nonneg c0 (by omega)⟩
    · rw [List.nodup_append]
      refine ⟨nd, by simp, fun x hx y hy e => ?_⟩
      rw [List.mem_singleton.mp hy] at e
      have := rg x hx
      omega
    · intro h hh
      rcases List.mem_append.mp hh with z | z
      · have := rg h z; omega
      · rw [List.mem_singleton.mp z]; omega
  rintro σ A ⟨c, low, hs, v3, v4, rfl, sA, gA, lh, nd, rg, l0, l1, c0⟩
  clean_wf
  exact kk A l hs sA hl gA ⟨lh, nd, fun h hh => by have := rg h hh; omega⟩
end
end K80


namespace K80
open PySem L2
abbrev s__law_set : Stmt := top 25
section
variable {P : Program} {w : World} {K : PySem.W.Frag} {mg : Str → Option Value} {base : Heap}
theorem add_bit {n h : Nat} (z : n.testBit h = false) (j : Nat) : (n + 2^h).testBit j = (n.testBit j || decide (h = j)) := by
  rcases Nat.lt_trichotomy j h with l | l | l
  · rw [Nat.add_comm, Nat.testBit_two_pow_add_gt l, decide_eq_false (by omega), Bool.or_false]
  · subst l
    rw [Nat.add_comm, Nat.testBit_two_pow_add_eq, z]
    simp
  · obtain ⟨d, rfl⟩ : ∃ d, j = (h + 1) + d := ⟨j - (h + 1), by omega⟩
    rw [decide_eq_false (by omega), Bool.or_false, Nat.add_comm (h + 1) d, ← Nat.testBit_div_two_pow, ← Nat.testBit_div_two_pow]
    have e : (n + 2 ^ h) / 2 ^ (h + 1) = n / 2 ^ (h + 1) := by
      have p : 0 < 2 ^ h := Nat.two_pow_pos h
      rw [Nat.pow_succ, ← Nat.div_div_eq_div_mul, ← Nat.div_div_eq_div_mul, Nat.add_div_right n p]
      have q : n / 2 ^ h % 2 = 0 := by
        rw [Nat.testBit_eq_decide_div_mod_eq] at z
        have := of_decide_eq_false z
        omega
      omega
    rw [e]
theorem and_nat {v n : Int} (v0 : 0 ≤ v) (n0 : 0 ≤ n) : Builtin.bitAnd v n = ((v.toNat &&& n.toNat : Nat) : Int) := by
  unfold Builtin.bitAnd
  rw [decide_eq_true v0, decide_eq_true n0]
theorem shr_bit {m : Int} (m0 : 0 ≤ m) (i : Nat) : decide (Builtin.bitAnd (m / 2 ^ (0 + (i : Int)).toNat) 1 = 1) = m.toNat.testBit i := by
  obtain ⟨k, rfl⟩ := Int.eq_ofNat_of_zero_le m0
  rw [show (0 + (i : Int)).toNat = i by omega]
  have e : ((k : Int) / 2 ^ i) = ((k / 2 ^ i : Nat) : Int) := by
    rw [Int.natCast_ediv]
    simp
  rw [e, and_nat (Int.natCast_nonneg _) (by decide), Int.toNat_natCast, Int.toNat_natCast, show Int.toNat 1 = 1 from rfl, Nat.and_one_is_mod, Nat.testBit_eq_decide_div_mod_eq]
  by_cases z : k / 2 ^ i % 2 = 1
  · rw [decide_eq_true z, decide_eq_true (by omega)]
  · rw [decide_eq_false z, decide_eq_false (by omega)]

def SetOf (hs : List Int) (m n : Int) : Prop := 0 ≤ n ∧ ∀ j : Nat, n.toNat.testBit j = true ↔ ∃ k, k < 4 ∧ m.toNat.testBit k = true ∧ hs[k]? = some (j : Int)
def sp__law_set (K : PySem.W.Frag) : Sp := fun vs H Q _ => ∃ (a : Addr) (m : Int), vs = [.ref a, .int m] ∧ ∃ hs : List Int, SqL K H a (hs.map V.int) ∧ Hs4 hs ∧ 0 ≤ m ∧ m < 16 ∧ ∀ n, SetOf hs m n → Q (.int n) H
theorem sc__law_set : FnScope ["_law_hands_here", "_law_mask", "_law_found", "_law_k"] ["_law_hands_here", "_law_mask"] (defScope s__law_set) := ⟨rfl, rfl, rfl, by decide +kernel, rfl, by decide +kernel, by decide +kernel⟩
set_option maxHeartbeats 1000000 in
theorem ok__law_set {f  : Addr} {fd  : FuncData} (F : Fun K "_law_set" "_law_set" s__law_set f fd) (h_range : mg "range" = none) : FnOk P w K mg base CX0 1 f fd ["_law_hands_here", "_law_mask"] (sp__law_set K) := by
  refine F.ok sc__law_set (fun vs H Q E h => ?_) (fun cdv A outer s H vs Q E hr h => ?_)
  · obtain ⟨a, m, rfl, _⟩ := h
    rfl
  obtain ⟨a, m, rfl, h⟩ := h
  have hu64 := hr.units
  have hu0 := hr.units0
  have hu := hu_of hr
  refine ⟨_, (pss_cons (ps_set (i := 2) sc__law_set.nd rfl (Or.inl rfl) pe_int)
      (pss_cons (ps_for PassesOwn.never rfl (pi_range1 rfl h_range (pa_cons pe_int pa_nil)) (pg_name (i := 3) sc__law_set.nd rfl (Or.inl rfl))
      (pss_one (ps_if (pt_cmpR op_eq (pe_op op_and (pe_op op_shr (pv 1) (pv 3)) pe_int) pe_int (nomark _)) (pss_one (ps_set (i := 2) sc__law_set.nd rfl (Or.inl rfl) (pe_op op_add (pv 2) (pe_op op_shl pe_int (pe_ix (ix_listK (K := K) rfl) (pv 0) (pv 3) (fun _ _ => rfl)))))) pss_nil)))
      (pss_one (ps_ret (pv 2))))), ?_⟩
  obtain ⟨hs, ha, h4, m0, m1, kk⟩ := h
  have ln := h4.ln
  clean_wf
  refine ⟨_, rfl, by omega, by omega, ?_⟩
  refine for_range (fun i σ A => H = A ∧ ∃ (n : Int) (v : Option V), σ = [some (.ref a), some (.int m), some (.int n), v] ∧ 0 ≤ n ∧ ∀ j : Nat, n.toNat.testBit j = true ↔ ∃ k, k < i ∧ m.toNat.testBit k = true ∧ hs[k]? = some (j : Int)) ⟨rfl, 0, none, rfl, by omega, fun j => by rw [show Int.toNat 0 = 0 from rfl, Nat.zero_testBit]; exact ⟨fun z => (Bool.false_ne_true z).elim, fun z => by obtain ⟨k, z, _⟩ := z; exact absurd z (Nat.not_lt_zero _)⟩⟩ ?_ ?_
  · rintro i σ _ hi ⟨rfl, n, v, rfl, n0, nb⟩
    have hi4 : i < 4 := by simpa using hi
    obtain ⟨h, hh⟩ : ∃ h, hs[i]? = some h := ⟨hs[i]'(by omega), List.getElem?_eq_getElem (by omega)⟩
    have hr := h4.rg h (List.mem_of_getElem? hh)
    have ah : atI (hs.map V.int) (0 + (i : Int)) = some (.int h) := by
      rw [Int.zero_add]; exact atI_nat (by rw [List.getElem?_map, hh]; rfl)
    clean_wf
    rw [shr_bit m0 i]
    have nobit : n.toNat.testBit h.toNat = false := by
      cases z : n.toNat.testBit h.toNat with
      | false => rfl
      | true =>
        obtain ⟨k, k1, _, k3⟩ := (nb h.toNat).mp z
        rw [Int.toNat_of_nonneg hr.1, ← hh] at k3
        have := (List.getElem?_inj (by omega) h4.nd).mp k3
        omega
    refine ite2 (fun c => ?_) fun c => ?_
    · clean_wf
      refine ⟨_, _, rfl, rfl, ⟨hr.1, by omega, by decide⟩, ?_⟩
      clean_wf
      refine ⟨rfl, _, _, rfl, ?_, fun j => ?_⟩
      · have e : (0 : Int) ≤ 1 * 2 ^ h.toNat := by rw [Int.one_mul]; exact two_pow_nn _
        exact Int.add_nonneg n0 e
      · have e : (n + 1 * 2 ^ h.toNat).toNat = n.toNat + 2 ^ h.toNat := by
          rw [Int.one_mul, Int.toNat_add n0 (two_pow_nn _)]
          rw [show (2 ^ h.toNat : Int) = ((2 ^ h.toNat : Nat) : Int) by simp, Int.toNat_natCast]
        rw [e, add_bit nobit, Bool.or_eq_true, nb j, decide_eq_true_iff]
        constructor
        · rintro (⟨k, k1, k2, k3⟩ | z)
          · exact ⟨k, by omega, k2, k3⟩
          · exact ⟨i, by omega, c, by rw [hh]; congr 1; omega⟩
        · rintro ⟨k, k1, k2, k3⟩
          by_cases ki : k = i
          · rw [ki, hh] at k3
            have := Option.some.inj k3
            exact .inr (by omega)
          · exact .inl ⟨k, by omega, k2, k3⟩
    · clean_wf
      refine ⟨rfl, _, _, rfl, n0, fun j => ?_⟩
      rw [nb j]
      constructor
      · rintro ⟨k, k1, k2, k3⟩
        exact ⟨k, by omega, k2, k3⟩
      · rintro ⟨k, k1, k2, k3⟩
        by_cases ki : k = i
        · rw [ki] at k2; exact absurd k2 c
        · exact ⟨k, by omega, k2, k3⟩
  rintro σ _ ⟨rfl, n, v, rfl, n0, nb⟩
  clean_wf
  exact kk n ⟨n0, nb⟩
end
end K80


namespace K80
open PySem L2
abbrev s__law_may_swap : Stmt := top 28
section
variable {P : Program} {w : World} {K : PySem.W.Frag} {mg : Str → Option Value} {base : Heap}

def KlA (H : Hp) (v : V) (x : Kal) : Prop := ∃ t nv cv, v = .ref t ∧ H t = some (.tup [nv, .str x.kd, .int x.wd, cv]) ∧ TrA H nv x.nm ∧ CsA H cv x.cs
theorem KlA.up {H H' : Hp} (s : SmH H H') {v : V} {x : Kal} (h : KlA H v x) : KlA H' v x := by
  obtain ⟨t, nv, cv, e1, e2, e3, e4⟩ := h
  exact ⟨t, nv, cv, e1, s _ _ e2, e3.up s, e4.up s⟩

def lean1 (x : Kal) (p : Int × Int) : Bool := decide (p.1 = x.c) && decide (x.k ≤ p.2)
def maySw (x y : Kal) : Bool := !(decide (x.c = y.c) || (isO x && isO y)) && !(y.cs.any (lean1 x))
def sp__law_may_swap (K : PySem.W.Frag) : Sp := fun vs H Q _ => ∃ (v u : V), vs = [v, u] ∧ ∃ x y, KlA H v x ∧ KlA H u y ∧ Q (.bl (maySw x y)) H
theorem sc__law_may_swap : FnScope ["_law_one", "_law_other", "_law_hand", "_law_much"] ["_law_one", "_law_other"] (defScope s__law_may_swap) := ⟨rfl, rfl, rfl, by decide +kernel, rfl, by decide +kernel, by decide +kernel⟩
set_option maxHeartbeats 1000000 in
theorem ok__law_may_swap {f  : Addr} {fd  : FuncData} (F : Fun K "_law_may_swap" "_law_may_swap" s__law_may_swap f fd) : FnOk P w K mg base CX0 1 f fd ["_law_one", "_law_other"] (sp__law_may_swap K) := by
  refine F.ok sc__law_may_swap (fun vs H Q E h => ?_) (fun cdv A outer s H vs Q E hr h => ?_)
  · obtain ⟨v, u, rfl, _⟩ := h
    rfl
  obtain ⟨v, u, rfl, h⟩ := h
  have hu64 := hr.units
  have hu0 := hr.units0
  have hu := hu_of hr
  refine ⟨_, (pss_cons (ps_if (PW.pt (pw_or (pt_cmpR op_eq (pe_ix (ix_tupK (K := K) rfl) (pe_ix (ix_tupK (K := K) rfl) (pv 0) pe_int (fun _ _ => rfl)) pe_int (fun _ _ => rfl)) (pe_ix (ix_tupK (K := K) rfl) (pe_ix (ix_tupK (K := K) rfl) (pv 1) pe_int (fun _ _ => rfl)) pe_int (fun _ _ => rfl)) (nomark _)) (pw_or1 (PW.pt (pw_and (pt_cmpR op_eq (pe_ix (ix_tupK (K := K) rfl) (pv 0) pe_int (fun _ _ => rfl)) pe_str (nomark _)) (pw_and1 (pt_cmpR op_eq (pe_ix (ix_tupK (K := K) rfl) (pv 1) pe_int (fun _ _ => rfl)) pe_str (nomark _)))))))) (pss_one (ps_ret pe_bl)) pss_nil)
      (pss_cons (ps_for PassesOwn.never rfl (pi_tupK (K := K) rfl (pe_ix (ix_tupK (K := K) rfl) (pv 1) pe_int (fun _ _ => rfl))) (pg_tupK (K := K) (n := 2) rfl rfl (pgs_cons (pg_name (i := 2) sc__law_may_swap.nd rfl (Or.inl rfl)) (pgs_cons (pg_name (i := 3) sc__law_may_swap.nd rfl (Or.inl rfl)) pgs_nil)))
      (pss_one (ps_if (PW.pt (pw_and (pt_cmpR op_eq (pv 2) (pe_ix (ix_tupK (K := K) rfl) (pe_ix (ix_tupK (K := K) rfl) (pv 0) pe_int (fun _ _ => rfl)) pe_int (fun _ _ => rfl)) (nomark _)) (pw_and1 (pt_cmpR op_ge (pv 3) (pe_ix (ix_tupK (K := K) rfl) (pe_ix (ix_tupK (K := K) rfl) (pv 0) pe_int (fun _ _ => rfl)) pe_int (fun _ _ => rfl)) (nomark _))))) (pss_one (ps_ret pe_bl)) pss_nil)))
      (pss_one (ps_ret pe_bl)))), ?_⟩
  obtain ⟨x, y, hv, hu', kk⟩ := h
  obtain ⟨t1, nv1, cv1, rfl, g1, ⟨n1, rfl, a1⟩, c1, xs1, rfl, b1, p1⟩ := hv
  obtain ⟨t2, nv2, cv2, rfl, g2, ⟨n2, rfl, a2⟩, c2, xs2, rfl, b2, p2⟩ := hu'
  have s1 := SqT.of (K := K) g1
  have s2 := SqT.of (K := K) g2
  have s3 := SqT.of (K := K) a1
  have s4 := SqT.of (K := K) a2
  have s5 := SqT.of (K := K) b2
  refine x_cut (fun σ' H' => H = H' ∧ σ' = [some (.ref t1), some (.ref t2), none, none] ∧ maySw x y = !(y.cs.any (lean1 x))) ?_ fun N rest => ?_
  rotate_left
  · clean_wf
    by_cases e1 : x.c = y.c
    · rw [decide_eq_true (show x.nm.2.1 = y.nm.2.1 from e1)]
      have em : maySw x y = false := by unfold maySw; rw [decide_eq_true e1]; rfl
      rw [em] at kk
      clean_wf
      exact kk
    · rw [decide_eq_false (show ¬ x.nm.2.1 = y.nm.2.1 from e1)]
      clean_wf
      by_cases e2 : x.kd = "one"
      · rw [decide_eq_true e2]
        clean_wf
        by_cases e3 : y.kd = "one"
        · rw [decide_eq_true e3]
          have em : maySw x y = false := by unfold maySw isO; rw [decide_eq_true e2, decide_eq_true e3]; simp
          rw [em] at kk
          clean_wf
          exact kk
        · rw [decide_eq_false e3]
          clean_wf
          exact rest _ _ ⟨rfl, rfl, by unfold maySw isO; rw [decide_eq_false e1, decide_eq_false e3]; simp⟩
      · rw [decide_eq_false e2]
        clean_wf
        exact rest _ _ ⟨rfl, rfl, by unfold maySw isO; rw [decide_eq_false e1, decide_eq_false e2]; simp⟩
  rintro σ' _ ⟨rfl, rfl, em⟩
  clean_wf
  refine for_tup (K := K) (a := c2) (xs := xs2) (fun i σ A => H = A ∧ (∃ u v, σ = [some (.ref t1), some (.ref t2), u, v]) ∧ (y.cs.take i).any (lean1 x) = false) ⟨rfl, ⟨none, none, rfl⟩, rfl⟩ (fun i σ A _ z => by rw [← z.1]; exact s5) ?_ ?_
  · rintro i z σ _ hz ⟨rfl, ⟨u, v, rfl⟩, no⟩
    obtain ⟨p, hp, b, rfl, hb⟩ := pair_to p2 hz
    have sb := SqT.of (K := K) hb
    clean_wf
    have ea : (y.cs.take (i + 1)).any (lean1 x) = lean1 x p := by
      rw [take_get hp, List.any_append, no]
      simp
    have all : lean1 x p = true → maySw x y = false := fun w => by
      rw [em, List.any_eq_true.mpr ⟨p, List.mem_of_getElem? hp, w⟩]
      rfl
    by_cases e1 : p.1 = x.c
    · rw [decide_eq_true (show p.1 = x.nm.2.1 from e1)]
      clean_wf
      by_cases e2 : x.k ≤ p.2
      · rw [decide_eq_true (show x.nm.2.2 ≤ p.2 from e2)]
        rw [all (by unfold lean1; rw [decide_eq_true e1, decide_eq_true e2]; rfl)] at kk
        clean_wf
        exact kk
      · rw [decide_eq_false (show ¬ x.nm.2.2 ≤ p.2 from e2)]
        clean_wf
        exact ⟨rfl, ⟨_, _, rfl⟩, by rw [ea]; unfold lean1; rw [decide_eq_false e2, Bool.and_false]⟩
    · rw [decide_eq_false (show ¬ p.1 = x.nm.2.1 from e1)]
      clean_wf
      exact ⟨rfl, ⟨_, _, rfl⟩, by rw [ea]; unfold lean1; rw [decide_eq_false e1, Bool.false_and]⟩
  rintro σ _ ⟨rfl, ⟨u, v, rfl⟩, no⟩
  rw [Paired.length p2, List.take_length] at no
  clean_wf
  rw [em, no] at kk
  exact kk
end
end K80


namespace K80
open PySem L2
section
variable {P : Program} {w : World} {K : PySem.W.Frag} {mg : Str → Option Value} {base : Heap}
def okP (A : List Kal) (x : Kal) : Prop := x.k = (cnt A x.c : Nat) + 1 ∧ (x.kd ≠ "own" → ∀ p ∈ x.cs, p.2 ≤ (cnt A p.1 : Nat))
def okF (A : List Kal) : List Kal → Prop
  | [] => True
  | x :: l => okP A x ∧ okF (A ++ [x]) l
theorem okP_congr {A B : List Kal} (h : ∀ k, cnt A k = cnt B k) {x : Kal} (o : okP A x) : okP B x := by
  obtain ⟨a, b⟩ := o
  exact ⟨by rw [← h]; exact a, fun z p hp => by rw [← h]; exact b z p hp⟩
theorem okF_congr : ∀ {l A B : List Kal}, (∀ k, cnt A k = cnt B k) → okF A l → okF B l
  | [], _, _, _, _ => True.intro
  | _ :: _, _, _, h, o => ⟨okP_congr h o.1, okF_congr (fun k => by rw [cnt_app, cnt_app, h]) o.2⟩
theorem okF_app : ∀ {l m A : List Kal}, okF A (l ++ m) ↔ okF A l ∧ okF (A ++ l) m
  | [], m, A => by rw [List.nil_append, List.append_nil]; exact ⟨fun h => ⟨True.intro, h⟩, fun h => h.2⟩
  | x :: l, m, A => by
    show okP A x ∧ okF (A ++ [x]) (l ++ m) ↔ (okP A x ∧ okF (A ++ [x]) l) ∧ okF (A ++ x :: l) m
    rw [okF_app, List.append_assoc, List.singleton_append, and_assoc]
theorem okF_of : ∀ {l A : List Kal}, (∀ (i : Nat) x, l[i]? = some x → okP (A ++ l.take i) x) → okF A l
  | [], _, _ => True.intro
  | x :: l, A, h => ⟨by have := h 0 x rfl; rwa [List.take_zero, List.append_nil] at this, okF_of fun i y hy => by
      have := h (i + 1) y (by simpa using hy)
      rwa [List.take_succ_cons, ← List.singleton_append, ← List.append_assoc] at this⟩
theorem okF_at : ∀ {l A : List Kal} {i : Nat} {x : Kal}, okF A l → l[i]? = some x → okP (A ++ l.take i) x
  | [], _, _, _, _, h => by simp at h
  | y :: l, A, 0, x, o, h => by
    have e : y = x := by simpa using h
    rw [List.take_zero, List.append_nil, ← e]
    exact o.1
  | y :: l, A, i + 1, x, o, h => by
    have := okF_at (i := i) o.2 (by simpa using h)
    rwa [List.take_succ_cons, ← List.singleton_append, ← List.append_assoc]
theorem Ok.f {n : Int} {O : List Kal} (o : Ok n O) : okF [] O := okF_of fun i x h => ⟨o.row i x h, fun z p hp => o.cau i x h z p hp⟩
theorem Ok.of {n : Int} {O : List Kal} (a : ∀ x ∈ O, x.n = n) (b : okF [] O) (c : ∀ x ∈ O, (0 ≤ x.c ∧ x.c < 63) ∧ Ck (posI x.cs)) : Ok n O :=
  ⟨a, fun i x h => (okF_at b h).1, fun i x h => (okF_at b h).2, c⟩
theorem okF_swap {A : List Kal} {x y : Kal} {B : List Kal} (m : maySw x y = true) (o : okF A (x :: y :: B)) : okF A (y :: x :: B) := by
  obtain ⟨⟨x1, x2⟩, ⟨y1, y2⟩, z⟩ := o
  unfold maySw at m
  simp only [Bool.and_eq_true, Bool.not_eq_true', Bool.or_eq_false_iff] at m
  obtain ⟨⟨m1, _⟩, m3⟩ := m
  have m1 := of_decide_eq_false m1
  have cx : ∀ k, k ≠ x.c → cnt (A ++ [x]) k = cnt A k := fun k hk => by rw [cnt_app, cnt_one, if_neg (fun e => hk e.symm), Nat.add_zero]
  refine ⟨⟨?_, fun kd p hp => ?_⟩, ⟨?_, fun kd p hp => ?_⟩, okF_congr (fun k => ?_) z⟩
  · rw [cx y.c (fun e => m1 e.symm)] at y1; exact y1
  · have q := y2 kd p hp
    by_cases e : p.1 = x.c
    · have nl : lean1 x p = false := by
        cases w : lean1 x p with
        | false => rfl
        | true => rw [List.any_eq_true.mpr ⟨p, hp, w⟩] at m3; cases m3
      unfold lean1 at nl
      rw [decide_eq_true e, Bool.true_and] at nl
      have := of_decide_eq_false nl
      rw [e]
      omega
    · rw [cx p.1 e] at q; exact q
  · rw [x1, cnt_app, cnt_one, if_neg (fun e => m1 e.symm), Nat.add_zero]
  · have := x2 kd p hp
    rw [cnt_app]
    omega
  · rw [cnt_app, cnt_app, cnt_app, cnt_app]; omega
theorem Ok.swap {n : Int} {A B : List Kal} {x y : Kal} (m : maySw x y = true) (o : Ok n (A ++ x :: y :: B)) : Ok n (A ++ y :: x :: B) := by
  have pm : ∀ z, z ∈ A ++ y :: x :: B → z ∈ A ++ x :: y :: B := fun z hz => by
    simp only [List.mem_append, List.mem_cons] at hz ⊢
    rcases hz with h | h | h | h
    · exact .inl h
    · exact .inr (.inr (.inl h))
    · exact .inr (.inl h)
    · exact .inr (.inr (.inr h))
  have f := okF_app.mp o.f
  exact .of (fun z hz => o.nn z (pm z hz)) (okF_app.mpr ⟨f.1, okF_swap m f.2⟩) (fun z hz => o.rg z (pm z hz))
theorem ones_swap {A B : List Kal} {x y : Kal} (m : maySw x y = true) : (A ++ y :: x :: B).filter isO = (A ++ x :: y :: B).filter isO := by
  unfold maySw at m
  simp only [Bool.and_eq_true, Bool.not_eq_true', Bool.or_eq_false_iff, Bool.and_eq_false_iff] at m
  obtain ⟨⟨_, m2⟩, _⟩ := m
  rw [List.filter_append, List.filter_append]
  congr 1
  rcases m2 with h | h <;> simp [List.filter_cons, h]
theorem perm_swap {A B : List Kal} {x y : Kal} : (A ++ y :: x :: B).Perm (A ++ x :: y :: B) := (List.Perm.swap x y B).append_left A
end
end K80


namespace K80
open PySem L2
abbrev s__law_order : Stmt := top 29
section
variable {P : Program} {w : World} {K : PySem.W.Frag} {mg : Str → Option Value} {base : Heap}
theorem two_at {α : Type} : ∀ {l : List α} {j : Nat} {x y : α}, l[j]? = some x → l[j + 1]? = some y → ∃ P T, l = P ++ x :: y :: T ∧ P.length = j
  | [], _, _, _, h, _ => by simp at h
  | [a], 0, _, _, _, h => by simp at h
  | a :: b :: l, 0, x, y, h, h2 => by
    have e1 : a = x := by simpa using h
    have e2 : b = y := by simpa using h2
    exact ⟨[], l, by rw [e1, e2]; rfl, rfl⟩
  | a :: l, j + 1, x, y, h, h2 => by
    obtain ⟨P, T, e, lp⟩ := two_at (l := l) (j := j) (x := x) (y := y) (by simpa using h) (by simpa using h2)
    exact ⟨a :: P, T, by rw [e]; rfl, by rw [List.length_cons, lp]⟩
theorem pair_swap {α β : Type} {R : α → β → Prop} {a b : α} {x y : β} {T : List α} {T' : List β} : ∀ {P : List α} {P' : List β}, P.length = P'.length → Paired R (P ++ a :: b :: T) (P' ++ x :: y :: T') → Paired R (P ++ b :: a :: T) (P' ++ y :: x :: T')
  | [], [], _, .cons h1 (.cons h2 t) => .cons h2 (.cons h1 t)
  | _ :: P, _ :: P', l, .cons h t => .cons h (pair_swap (by simpa using l) t)
  | [], _ :: _, l, _ => by simp at l
  | _ :: _, [], l, _ => by simp at l
def sp__law_order (K : PySem.W.Frag) : Sp := fun vs H Q _ => ∃ (a l : Addr) (t : Int), vs = [.ref a, .ref l, .int t] ∧ ∃ (ns : List Int) (xs : List V) (R : List Kal) (n : Int), SqL K H a (ns.map V.int) ∧ ns.length ≤ 1000 ∧ SqL K H l xs ∧ Paired (KlA H) xs R ∧ Ok n R ∧ R.length ≤ 5 ∧ 0 ≤ t ∧ t ≤ 900 ∧ ∀ H' f ys O, Same H H' → H f = none → H' f = some (.lst ys) → Paired (KlA H') ys O → Ok n O → O.Perm R → O.filter isO = R.filter isO → Q (.ref f) H'
theorem sc__law_order : FnScope ["_law_script", "_law_calls_here", "_law_at", "_law_found", "_law_k", "_law_cell", "_law_place"] ["_law_script", "_law_calls_here", "_law_at"] (defScope s__law_order) := ⟨rfl, rfl, rfl, by decide +kernel, rfl, by decide +kernel, by decide +kernel⟩
set_option maxHeartbeats 2000000 in
theorem ok__law_order {f f__law_pick f__law_may_swap : Addr} {fd fd__law_pick fd__law_may_swap : FuncData} (F : Fun K "_law_order" "_law_order" s__law_order f fd)
    (G__law_pick : FnOk P w K mg base CX0 1 f__law_pick fd__law_pick ["_law_script", "_law_k"] (sp__law_pick K)) (C__law_pick : Cal K mg "_law_pick" f__law_pick fd__law_pick ["_law_script", "_law_k"])
    (G__law_may_swap : FnOk P w K mg base CX0 1 f__law_may_swap fd__law_may_swap ["_law_one", "_law_other"] (sp__law_may_swap K)) (C__law_may_swap : Cal K mg "_law_may_swap" f__law_may_swap fd__law_may_swap ["_law_one", "_law_other"]) (h_len : mg "len" = none) (h_list : mg "list" = none) (h_range : mg "range" = none) : FnOk P w K mg base CX0 2 f fd ["_law_script", "_law_calls_here", "_law_at"] (sp__law_order K) := by
  refine F.ok sc__law_order (fun vs H Q E h => ?_) (fun cdv A outer s H vs Q E hr h => ?_)
  · obtain ⟨a, l, t, rfl, _⟩ := h
    rfl
  obtain ⟨a, l, t, rfl, h⟩ := h
  have hu64 := hr.units
  have hu0 := hr.units0
  have hu := hu_of hr
  refine ⟨_, (pss_cons (ps_set (i := 3) sc__law_order.nd rfl (Or.inl rfl) (pe_callTy (call_listK (K := K) rfl) (by rfl) h_list PyProof.Rows.boot_list (pa_cons (pv 1) pa_nil)))
      (pss_cons (ps_for PassesOwn.never rfl (pi_range1 rfl h_range (pa_cons (pe_callB (call_lenK (K := K) rfl) (by rfl) h_len PySem.boot_len (pa_cons (pv 1) pa_nil)) pa_nil)) (pg_name (i := 4) sc__law_order.nd rfl (Or.inl rfl))
      (pss_cons (ps_set (i := 5) sc__law_order.nd rfl (Or.inl rfl) (pcall G__law_pick C__law_pick hr (pa_cons (pv 0) (pa_cons (pe_op op_add (pv 2) (pv 4)) pa_nil))))
      (pss_cons (ps_set (i := 6) sc__law_order.nd rfl (Or.inl rfl) (pe_op op_mod (pv 5) (pe_callB (call_lenK (K := K) rfl) (by rfl) h_len PySem.boot_len (pa_cons (pv 1) pa_nil))))
      (pss_one (ps_if (PW.pt (pw_and (pt_cmpR op_gt (pv 6) pe_int (nomark _)) (pw_and1 (pt_callK K rfl (pcall G__law_may_swap C__law_may_swap hr (pa_cons (pe_ix (ix_listK (K := K) rfl) (pv 3) (pe_op op_sub (pv 6) pe_int) (fun _ _ => rfl)) (pa_cons (pe_ix (ix_listK (K := K) rfl) (pv 3) (pv 6) (fun _ _ => rfl)) pa_nil))))))) (pss_one (ps_expr (pe_bm PySem.F.plainAttrs_list PySem.F.slot_list_insert PySem.F.type_list_insert mt_insert (pv 3) (pa_cons (pe_op op_sub (pv 6) pe_int) (pa_cons (pe_popK (K := K) rfl (pe_bm PySem.F.plainAttrs_list PySem.F.slot_list_pop PySem.F.type_list_pop mt_popAt (pv 3) (pa_cons (pv 6) pa_nil))) pa_nil))))) pss_nil)))))
      (pss_one (ps_ret (pv 3))))), ?_⟩
  obtain ⟨ns, xs, R, n, ha, la, hl, hx, ok, lR, t0, t1, kk⟩ := h
  have lx := Paired.length hx
  clean_wf
  intro f H1 hf s1 g1
  have ha1 := s1.seq ha
  have hl1 := s1.seq hl
  clean_wf
  refine ⟨_, rfl, by omega, by omega, ?_⟩
  refine for_range (fun i σ A => ∃ (v4 v5 v6 : Option V) (ys : List V) (O : List Kal), σ = [some (.ref a), some (.ref l), some (.int t), some (.ref f), v4, v5, v6] ∧ Same H A ∧ A f = some (.lst ys) ∧ Paired (KlA A) ys O ∧ Ok n O ∧ O.Perm R ∧ O.filter isO = R.filter isO) ⟨none, none, none, xs, R, rfl, s1, g1, Paired.mapP hx fun _ _ y => y.up (.same s1), ok, .refl _, rfl⟩ ?_ ?_
  · rintro i σ A hi ⟨v4, v5, v6, ys, O, rfl, sA, gA, hO, okO, pm, fl⟩
    have haA := sA.seq ha
    have hlA := sA.seq hl
    have lO := pm.length_eq
    have lys := Paired.length hO
    have hi' : i < xs.length := by simpa using hi
    clean_wf
    refine ⟨a, _, rfl, ns, haA, by omega, by omega, la, fun c B c0 sB => ?_⟩
    have hlB := sB.seq hlA
    have gB := sB _ _ gA
    have slB := SqL.of (K := K) gB
    have hOB : Paired (KlA B) ys O := Paired.mapP hO fun _ _ y => y.up (.same sB)
    clean_wf
    have ml := lit (c := c) (m := (xs.length : Nat)) (by omega)
    generalize c % ((xs.length : Nat) : Int) = pl at ml ⊢
    refine ite2 (fun c1 => ?_) fun c1 => ?_
    · have c1 := of_decide_eq_true c1
      obtain ⟨j, rfl⟩ : ∃ j : Nat, pl = (j : Int) + 1 := ⟨(pl - 1).toNat, by omega⟩
      have j1 : j < O.length := by omega
      have j2 : j + 1 < O.length := by omega
      obtain ⟨vx, hvx, kx⟩ := pair_at hOB (List.getElem?_eq_getElem j1)
      obtain ⟨vy, hvy, ky⟩ := pair_at hOB (List.getElem?_eq_getElem j2)
      have ax : atI ys ((j : Int) + 1 - 1) = some vx := by rw [show (j : Int) + 1 - 1 = (j : Nat) by omega]; exact atI_nat hvx
      have ay : atI ys ((j : Int) + 1) = some vy := by rw [show (j : Int) + 1 = ((j + 1 : Nat) : Int) by omega]; exact atI_nat hvy
      clean_wf
      refine ⟨vx, vy, rfl, _, _, kx, ky, ?_⟩
      clean_wf
      refine ite2 (fun c2 => ?_) fun c2 => ?_
      · have ox := List.getElem?_eq_getElem j1
        have oy := List.getElem?_eq_getElem j2
        generalize O[j] = ex at ox c2 kx
        generalize O[j + 1] = ey at oy c2 ky
        obtain ⟨P, T, eys, lP⟩ := two_at hvx hvy
        obtain ⟨P', T', eO, lP'⟩ := two_at ox oy
        clean_wf
        have er : ys.eraseIdx (j + 1) = P ++ vx :: T := by
          rw [eys, List.eraseIdx_append_of_length_le (by omega), show j + 1 - P.length = 1 by omega]
          rfl
        refine ⟨f, ys, _, j + 1, vy, rfl, rfl, gB, by omega, by omega, ?_, hvy, ?_⟩
        · exact (ixN_seq (by unfold ixN; rw [if_pos (by omega), if_pos (by omega)]; congr 1)).1
        rw [er]
        have b1 : But f B (upd B f (.lst (P ++ vx :: T))) := .upd
        have gf : (upd B f (.lst (P ++ vx :: T))) f = some (.lst (P ++ vx :: T)) := upd_same
        generalize upd B f (.lst (P ++ vx :: T)) = B1 at b1 gf ⊢
        have lT : ys.length = P.length + (T.length + 2) := by rw [eys, List.length_append]; rfl
        clean_wf
        refine ⟨f, _, _, vy, rfl, rfl, gf, by omega, by omega, by rw [List.length_append, List.length_cons]; omega, ?_⟩
        have ei : (P ++ vx :: T).take (min ((j : Int) + 1 - 1).toNat (P ++ vx :: T).length) ++ [vy] ++ (P ++ vx :: T).drop (min ((j : Int) + 1 - 1).toNat (P ++ vx :: T).length) = P ++ vy :: vx :: T := by
          have : min ((j : Int) + 1 - 1).toNat (P ++ vx :: T).length = P.length := by rw [List.length_append, List.length_cons]; omega
          rw [this, List.take_left, List.drop_left, List.append_assoc]
          rfl
        rw [ei]
        have b2 : But f B1 (upd B1 f (.lst (P ++ vy :: vx :: T))) := .upd
        have gf2 : (upd B1 f (.lst (P ++ vy :: vx :: T))) f = some (.lst (P ++ vy :: vx :: T)) := upd_same
        generalize upd B1 f (.lst (P ++ vy :: vx :: T)) = B2 at b2 gf2 ⊢
        have su : SmH B B2 := fun u zs e => b2.at (ne_of (b1.at (ne_of e gB (fun w => nomatch w)) e) gf (fun w => nomatch w)) (b1.at (ne_of e gB (fun w => nomatch w)) e)
        rw [eO] at hOB okO pm fl
        rw [eys] at hOB
        exact ⟨_, _, _, P ++ vy :: vx :: T, P' ++ ey :: ex :: T', rfl, b2.same (b1.same (sA.trans sB) hf) hf, gf2, Paired.mapP (pair_swap (by omega) hOB) fun _ _ y => y.up su, okO.swap c2, perm_swap.trans pm, (ones_swap c2).trans fl⟩
      · clean_wf
        exact ⟨_, _, _, ys, O, rfl, sA.trans sB, gB, hOB, okO, pm, fl⟩
    · clean_wf
      exact ⟨_, _, _, ys, O, rfl, sA.trans sB, gB, hOB, okO, pm, fl⟩
  rintro σ A ⟨v4, v5, v6, ys, O, rfl, sA, gA, hO, okO, pm, fl⟩
  clean_wf
  exact kk A f ys O sA hf gA hO okO pm fl
end
end K80


namespace K80
open PySem L2
section
variable {P : Program} {w : World} {K : PySem.W.Frag} {mg : Str → Option Value} {base : Heap}
def bt (m : Int) (k : Nat) : Bool := m.toNat.testBit k
theorem f16 {P : Int → Prop} (h : ∀ i : Fin 16, P (i.val : Int)) {m : Int} (m0 : 0 ≤ m) (m1 : m < 16) : P m := by
  have := h ⟨m.toNat, by omega⟩
  rwa [show ((⟨m.toNat, by omega⟩ : Fin 16).val : Int) = m by simp; omega] at this
theorem bt_and {x y : Int} (x0 : 0 ≤ x) (x1 : x < 16) (y0 : 0 ≤ y) (y1 : y < 16) : (0 ≤ Builtin.bitAnd x y ∧ Builtin.bitAnd x y < 16) ∧ ∀ k, bt (Builtin.bitAnd x y) k = (bt x k && bt y k) := by
  rw [and_nat x0 y0]
  refine ⟨⟨Int.natCast_nonneg _, ?_⟩, fun k => ?_⟩
  · have : x.toNat &&& y.toNat ≤ y.toNat := Nat.and_le_right
    omega
  · unfold bt; rw [Int.toNat_natCast, Nat.testBit_and]
theorem bt_dif {x y : Int} (x0 : 0 ≤ x) (x1 : x < 16) (y0 : 0 ≤ y) (y1 : y < 16) : (0 ≤ Builtin.bitAnd x (Builtin.bitNot y) ∧ Builtin.bitAnd x (Builtin.bitNot y) < 16) ∧ ∀ k, k < 4 → bt (Builtin.bitAnd x (Builtin.bitNot y)) k = (bt x k && !bt y k) := by
  refine f16 (P := fun x => (0 ≤ Builtin.bitAnd x (Builtin.bitNot y) ∧ Builtin.bitAnd x (Builtin.bitNot y) < 16) ∧ ∀ k, k < 4 → bt (Builtin.bitAnd x (Builtin.bitNot y)) k = (bt x k && !bt y k)) (fun i => ?_) x0 x1
  refine f16 (P := fun y => (0 ≤ Builtin.bitAnd (i.val : Int) (Builtin.bitNot y) ∧ Builtin.bitAnd (i.val : Int) (Builtin.bitNot y) < 16) ∧ ∀ k, k < 4 → bt (Builtin.bitAnd (i.val : Int) (Builtin.bitNot y)) k = (bt (i.val : Int) k && !bt y k)) (fun j => ?_) y0 y1
  revert i j
  decide +kernel
theorem bt_or {x y : Int} (x0 : 0 ≤ x) (x1 : x < 16) (y0 : 0 ≤ y) (y1 : y < 16) : (0 ≤ Builtin.bitOr x y ∧ Builtin.bitOr x y < 16) ∧ ∀ k, k < 4 → bt (Builtin.bitOr x y) k = (bt x k || bt y k) := by
  refine f16 (P := fun x => (0 ≤ Builtin.bitOr x y ∧ Builtin.bitOr x y < 16) ∧ ∀ k, k < 4 → bt (Builtin.bitOr x y) k = (bt x k || bt y k)) (fun i => ?_) x0 x1
  refine f16 (P := fun y => (0 ≤ Builtin.bitOr (i.val : Int) y ∧ Builtin.bitOr (i.val : Int) y < 16) ∧ ∀ k, k < 4 → bt (Builtin.bitOr (i.val : Int) y) k = (bt (i.val : Int) k || bt y k)) (fun j => ?_) y0 y1
  revert i j
  decide +kernel

structure MkS (m : Int) (t : Nm3) : Prop where
  r1 : 0 < t.1 ∧ t.1 < 16
  r2 : 0 ≤ t.2.1 ∧ t.2.1 < 16
  r3 : 0 ≤ t.2.2 ∧ t.2.2 < 16
  on : ∀ k, k < 4 → bt t.2.1 k = true → bt m k = true
  nw : ∀ k, k < 4 → bt t.2.2 k = true → bt m k = false
  un : ∀ k, k < 4 → bt t.1 k = true → bt t.2.1 k = true ∨ bt t.2.2 k = true
  nm : ∀ k, k < 4 → bt t.2.2 k = true → bt t.1 k = true
end
end K80


namespace K80
open PySem L2
abbrev s__law_masks : Stmt := top 26
section
variable {P : Program} {w : World} {K : PySem.W.Frag} {mg : Str → Option Value} {base : Heap}

structure Mks (M : List Nm3) : Prop where
  p : 0 < M.length
  z : ∀ t, M[0]? = some t → 0 < t.1 ∧ t.1 < 16 ∧ t.2.1 = 0 ∧ t.2.2 = t.1
  s : ∀ i t u, M[i]? = some t → M[i + 1]? = some u → MkS t.1 u
theorem x_ir2 {ta : TA} {σ : St} {H : Hp} {R : It → Hp → Prop} (h : ta σ H fun vs H1 => ∃ i j : Int, vs = [.int i, .int j] ∧ (-(2 ^ 62) ≤ i ∧ i < 2 ^ 62 ∧ -(2 ^ 62) ≤ j ∧ j < 2 ^ 62) ∧ R (Itr i (j - i).toNat) H1) : iRng2 ta σ H R := h
def sp__law_masks (K : PySem.W.Frag) : Sp := fun vs H Q _ => ∃ (a : Addr) (m : Int), vs = [.ref a, .int m] ∧ ∃ ns : List Int, SqL K H a (ns.map V.int) ∧ ns.length ≤ 1000 ∧ 1 ≤ m ∧ m ≤ 4 ∧ ∀ H' l xs M, Same H H' → H l = none → H' l = some (.lst xs) → Paired (TrA H') xs M → M.length = m.toNat → Mks M → Q (.ref l) H'
theorem sc__law_masks : FnScope ["_law_script", "_law_much", "_law_mask", "_law_found", "_law_k", "_law_cell", "_law_on", "_law_new"] ["_law_script", "_law_much"] (defScope s__law_masks) := ⟨rfl, rfl, rfl, by decide +kernel, rfl, by decide +kernel, by decide +kernel⟩
set_option maxHeartbeats 2000000 in
theorem ok__law_masks {f f__law_pick : Addr} {fd fd__law_pick : FuncData} (F : Fun K "_law_masks" "_law_masks" s__law_masks f fd)
    (G__law_pick : FnOk P w K mg base CX0 1 f__law_pick fd__law_pick ["_law_script", "_law_k"] (sp__law_pick K)) (C__law_pick : Cal K mg "_law_pick" f__law_pick fd__law_pick ["_law_script", "_law_k"]) (h_range : mg "range" = none) : FnOk P w K mg base CX0 2 f fd ["_law_script", "_law_much"] (sp__law_masks K) := by
  refine F.ok sc__law_masks (fun vs H Q E h => ?_) (fun cdv A outer s H vs Q E hr h => ?_)
  · obtain ⟨a, m, rfl, _⟩ := h
    rfl
  obtain ⟨a, m, rfl, h⟩ := h
  have hu64 := hr.units
  have hu0 := hr.units0
  have hu := hu_of hr
  refine ⟨_, (pss_cons (ps_set (i := 2) sc__law_masks.nd rfl (Or.inl rfl) (pe_op op_add pe_int (pe_op op_mod (pcall G__law_pick C__law_pick hr (pa_cons (pv 0) (pa_cons pe_int pa_nil))) pe_int)))
      (pss_cons (ps_set (i := 3) sc__law_masks.nd rfl (Or.inl rfl) (pe_lst (pa_cons (pe_tup (pa_cons (pv 2) (pa_cons pe_int (pa_cons (pv 2) pa_nil)))) pa_nil)))
      (pss_cons (ps_for PassesOwn.never rfl (pi_range2 rfl h_range (pa_cons pe_int (pa_cons (pv 1) pa_nil))) (pg_name (i := 4) sc__law_masks.nd rfl (Or.inl rfl))
      (pss_cons (ps_set (i := 5) sc__law_masks.nd rfl (Or.inl rfl) (pcall G__law_pick C__law_pick hr (pa_cons (pv 0) (pa_cons (pe_op op_add pe_int (pv 4)) pa_nil))))
      (pss_cons (ps_set (i := 6) sc__law_masks.nd rfl (Or.inl rfl) (pe_op op_and (pv 2) (pe_op op_mod (pv 5) pe_int)))
      (pss_cons (ps_if (PW.pt (pw_or (pt_cmpR op_eq (pv 6) pe_int (nomark _)) (pw_or1 (pt_cmpR op_eq (pe_op op_mod (pe_op op_fdiv (pv 5) pe_int) pe_int) pe_int (nomark _))))) (pss_one (ps_set (i := 6) sc__law_masks.nd rfl (Or.inl rfl) (pv 2))) pss_nil)
      (pss_cons (ps_set (i := 7) sc__law_masks.nd rfl (Or.inl rfl) (pe_op op_and (pe_op op_mod (pe_op op_fdiv (pv 5) pe_int) pe_int) (pe_un un_inv (pv 2))))
      (pss_cons (ps_set (i := 2) sc__law_masks.nd rfl (Or.inl rfl) (pe_op op_or (pe_op op_and (pv 6) (pe_op op_mod (pe_op op_fdiv (pv 5) pe_int) pe_int)) (pv 7)))
      (pss_cons (ps_if (PW.pt (pw_or (pt_cmpR op_eq (pv 2) pe_int (nomark _)) (pw_or1 (pt_cmpR op_eq (pe_op op_mod (pe_op op_fdiv (pv 5) pe_int) pe_int) pe_int (nomark _))))) (pss_one (ps_set (i := 2) sc__law_masks.nd rfl (Or.inl rfl) (pe_op op_or (pv 6) (pv 7)))) pss_nil)
      (pss_one (ps_expr (pe_appendK (K := K) rfl (pe_bm PySem.F.plainAttrs_list PySem.F.slot_list_append PySem.F.type_list_append mt_append (pv 3) (pa_cons (pe_tup (pa_cons (pv 2) (pa_cons (pv 6) (pa_cons (pv 7) pa_nil)))) pa_nil))))))))))))
      (pss_one (ps_ret (pv 3)))))), ?_⟩
  obtain ⟨ns, ha, la, m0, m1, kk⟩ := h
  clean_wf
  refine ⟨a, _, rfl, ns, ha, by omega, by omega, la, fun c H1 c0 s1 => ?_⟩
  have ha1 := s1.seq ha
  clean_wf
  have l15 := lit (c := c) (m := 15) (by decide)
  generalize c % 15 = c1 at l15 ⊢
  intro t H2 ht s2 g2
  clean_wf
  intro l H3 hl s3 g3
  have s03 : Same H H3 := s1.trans (s2.trans s3)
  clean_wf
  refine x_ir2 ?_
  clean_wf
  refine ⟨1, m, rfl, by omega, ?_⟩
  have M0 : Mks [(1 + c1, 0, 1 + c1)] := ⟨Nat.one_pos, fun t h => by cases h; exact ⟨by show 0 < 1 + c1; omega, by show 1 + c1 < 16; omega, rfl, rfl⟩, fun i t u h h2 => by simp at h2⟩
  refine for_range (fun i σ A => ∃ (v4 v5 v6 v7 : Option V) (ma : Int) (xs : List V) (M : List Nm3) (lt : Nm3), σ = [some (.ref a), some (.int m), some (.int ma), some (.ref l), v4, v5, v6, v7] ∧ Same H A ∧ A l = some (.lst xs) ∧ Paired (TrA A) xs M ∧ M.length = i + 1 ∧ Mks M ∧ M[i]? = some lt ∧ lt.1 = ma ∧ 0 < ma ∧ ma < 16) ⟨none, none, none, none, 1 + c1, [.ref t], [(1 + c1, 0, 1 + c1)], (1 + c1, 0, 1 + c1), rfl, s03, g3, .cons ⟨t, rfl, s3 _ _ g2⟩ .nil, rfl, M0, rfl, rfl, by omega, by omega⟩ ?_ ?_
  · rintro i σ A hi ⟨v4, v5, v6, v7, ma, xs, M, lt, rfl, sA, gA, hM, lM, mk, hlt, elt, ma0, ma1⟩
    have haA := sA.seq ha
    have hi2 : i < 3 := by omega
    clean_wf
    refine ⟨a, _, rfl, ns, haA, by omega, by omega, la, fun c B c0 sB => ?_⟩
    have gB := sB _ _ gA
    clean_wf
    have q1 := lit (c := c) (m := 16) (by decide)
    obtain ⟨⟨o0, o1⟩, ob⟩ := bt_and (x := ma) (y := c % 16) (by omega) ma1 q1.1 q1.2
    refine x_cut (fun σ' H' => B = H' ∧ ∃ on : Int, σ' = [some (.ref a), some (.int m), some (.int ma), some (.ref l), some (.int (1 + i)), some (.int c), some (.int on), v7] ∧ 0 < on ∧ on < 16 ∧ ∀ k, k < 4 → bt on k = true → bt ma k = true) ?_ fun N rest => ?_
    rotate_left
    · have r1 := fun (h : 0 < Builtin.bitAnd ma (c % 16)) => rest _ B ⟨rfl, _, rfl, h, o1, fun k _ hb => by rw [ob k] at hb; exact (Bool.and_eq_true _ _ ▸ hb).1⟩
      have r2 := rest _ B ⟨rfl, _, rfl, ma0, ma1, fun k _ hb => hb⟩
      clean_wf
      refine ite2 (fun e => ?_) fun e => ?_
      · clean_wf
        exact r2
      · have e := of_decide_eq_false (Bool.eq_false_iff.mpr e)
        clean_wf
        refine ite2 (fun e2 => ?_) fun e2 => ?_
        · clean_wf
          exact r2
        · clean_wf
          exact r1 (by omega)
    rintro σ' _ ⟨rfl, on, rfl, on0, on1, onb⟩
    have q2 := lit (c := c / 48) (m := 16) (by decide)
    have q3 := lit (c := c / 768) (m := 16) (by decide)
    obtain ⟨⟨w0', w1'⟩, wb⟩ := bt_dif (x := c / 48 % 16) (y := ma) q2.1 q2.2 (by omega) ma1
    obtain ⟨⟨x0, x1⟩, xb⟩ := bt_and (x := on) (y := c / 768 % 16) (by omega) on1 q3.1 q3.2
    clean_wf
    generalize hnw : Builtin.bitAnd (c / 48 % 16) (Builtin.bitNot ma) = nw at w0' w1' wb ⊢
    generalize hom : Builtin.bitAnd on (c / 768 % 16) = om at x0 x1 xb ⊢
    obtain ⟨⟨y0, y1⟩, yb⟩ := bt_or (x := om) (y := nw) x0 x1 w0' w1'
    obtain ⟨⟨z0, z1⟩, zb⟩ := bt_or (x := on) (y := nw) (by omega) on1 w0' w1'
    have zp : 0 < Builtin.bitOr on nw := by
      refine f16 (P := fun on => 0 < on → 0 < Builtin.bitOr on nw) (fun p => ?_) (by omega) on1 on0
      refine f16 (P := fun nw => 0 < (p.val : Int) → 0 < Builtin.bitOr (p.val : Int) nw) (fun q => ?_) w0' w1'
      revert p q
      decide +kernel
    refine x_cut (fun σ' H' => B = H' ∧ ∃ mb : Int, σ' = [some (.ref a), some (.int m), some (.int mb), some (.ref l), some (.int (1 + i)), some (.int c), some (.int on), some (.int nw)] ∧ MkS ma (mb, on, nw)) ?_ fun N rest => ?_
    rotate_left
    · have nw2 : ∀ k, k < 4 → bt nw k = true → bt ma k = false := fun k hk hb => by
        rw [wb k hk] at hb
        rw [Bool.and_eq_true] at hb
        exact (Bool.not_eq_true' _ ▸ hb.2)
      have r1 := fun (h : 0 < Builtin.bitOr om nw) => rest _ B ⟨rfl, _, rfl, ⟨⟨h, y1⟩, ⟨by show 0 ≤ on; omega, on1⟩, ⟨w0', w1'⟩, onb, nw2, fun k hk hb => by
        have hb : bt (Builtin.bitOr om nw) k = true := hb
        rw [yb k hk, xb k, Bool.or_eq_true, Bool.and_eq_true] at hb
        rcases hb with hb | hb
        · exact .inl hb.1
        · exact .inr hb, fun k hk hb => by
        show bt (Builtin.bitOr om nw) k = true
        have hb : bt nw k = true := hb
        rw [yb k hk, hb, Bool.or_true]⟩⟩
      have r2 := rest _ B ⟨rfl, _, rfl, ⟨⟨zp, z1⟩, ⟨by show 0 ≤ on; omega, on1⟩, ⟨w0', w1'⟩, onb, nw2, fun k hk hb => by
        have hb : bt (Builtin.bitOr on nw) k = true := hb
        rw [zb k hk, Bool.or_eq_true] at hb
        exact hb, fun k hk hb => by
        show bt (Builtin.bitOr on nw) k = true
        have hb : bt nw k = true := hb
        rw [zb k hk, hb, Bool.or_true]⟩⟩
      clean_wf
      refine ite2 (fun e => ?_) fun e => ?_
      · clean_wf
        exact r2
      · have e := of_decide_eq_false (Bool.eq_false_iff.mpr e)
        clean_wf
        refine ite2 (fun e2 => ?_) fun e2 => ?_
        · clean_wf
          exact r2
        · clean_wf
          exact r1 (by omega)
    rintro σ' _ ⟨rfl, mb, rfl, ms⟩
    clean_wf
    intro t2 B1 ht2 s2' g2'
    clean_wf
    refine x_append (s2' _ _ gB) (small1000 (by have := Paired.length hM; omega)) fun B2 b2 gB2 => ?_
    have ntl : t2 ≠ l := ne_of g2' (s2' _ _ gB) (by intro z; cases z)
    have su : SmH A B2 := fun u zs e => b2.at (ne_of (s2' _ _ (sB _ _ e)) (s2' _ _ gB) (by intro z; cases z)) (s2' _ _ (sB _ _ e))
    have hl0 : H l = none := (s1.trans s2).free hl
    refine ⟨_, _, _, _, mb, xs ++ [.ref t2], M ++ [(mb, on, nw)], (mb, on, nw), rfl, b2.same (sA.trans (sB.trans s2')) hl0, gB2, pair_app (Paired.mapP hM fun _ _ y => y.up su) (.cons ⟨t2, rfl, b2.at ntl g2'⟩ .nil), by rw [List.length_append, lM]; rfl, ⟨by rw [List.length_append]; omega, fun u h => ?_, fun j u w h h2 => ?_⟩, by rw [List.getElem?_append_right (by omega), lM, Nat.sub_self]; rfl, rfl, ms.r1.1, ms.r1.2⟩
    · rw [List.getElem?_append_left mk.p] at h
      exact mk.z u h
    · rcases Nat.lt_or_ge (j + 1) M.length with k | k
      · rw [List.getElem?_append_left (by omega)] at h h2
        exact mk.s j u w h h2
      · have jl := (List.getElem?_eq_some_iff.mp h2).1
        rw [List.length_append, List.length_singleton] at jl
        have je : j = i := by omega
        rw [List.getElem?_append_left (by omega), je, hlt] at h
        rw [List.getElem?_append_right k, show j + 1 - M.length = 0 by omega] at h2
        cases h
        cases h2
        rw [elt]
        exact ms
  rintro σ A ⟨v4, v5, v6, v7, ma, xs, M, lt, rfl, sA, gA, hM, lM, mk, hlt, elt, ma0, ma1⟩
  clean_wf
  exact kk A l xs M sA ((s1.trans s2).free hl) gA hM (by omega) mk
end
end K80


namespace K80
open PySem L2
section
variable {P : Program} {w : World} {K : PySem.W.Frag} {mg : Str → Option Value} {base : Heap}
def KG (x : Kal) : Prop := (x.cs.map (·.1)).Nodup ∧ x.cs.length ≤ 100 ∧ 0 ≤ x.k ∧ (PyData.str x.kd).canLay0 = true

theorem Ok.snoc {n : Int} {R : List Kal} {x : Kal} (o : Ok n R) (a : x.n = n) (b : okP R x) (c : (0 ≤ x.c ∧ x.c < 63) ∧ Ck (posI x.cs)) : Ok n (R ++ [x]) := by
  refine .of (fun y hy => ?_) (okF_app.mpr ⟨o.f, ?_, True.intro⟩) (fun y hy => ?_)
  · rcases List.mem_append.mp hy with z | z
    · exact o.nn y z
    · rw [List.mem_singleton.mp z]; exact a
  · rw [List.nil_append]; exact b
  · rcases List.mem_append.mp hy with z | z
    · exact o.rg y z
    · rw [List.mem_singleton.mp z]; exact c
theorem Ok.le {n : Int} {R : List Kal} (o : Ok n R) {x : Kal} (h : x ∈ R) : 1 ≤ x.k ∧ x.k ≤ (cnt R x.c : Nat) := by
  obtain ⟨i, hi⟩ := List.getElem?_of_mem h
  have e := o.row i x hi
  have il := (List.getElem?_eq_some_iff.mp hi).1
  have h1 := cnt_le (l := R) (show i + 1 ≤ R.length from il) x.c
  have h2 : cnt (R.take (i + 1)) x.c = cnt (R.take i) x.c + 1 := by
    rw [take_get hi, cnt_app, cnt_one, if_pos rfl]
  rw [List.take_length] at h1
  omega

structure Cau (R : List Kal) (m : List (Int × Int)) : Prop where
  ck : Ck m
  le : ∀ p ∈ m, 1 ≤ p.2 ∧ p.2 ≤ (cnt R p.1 : Nat)
theorem Cau.put {R : List Kal} {m : List (Int × Int)} (c : Cau R m) {k v : Int} (k0 : 0 ≤ k) (k1 : k < 63) (h : 1 ≤ v ∧ v ≤ (cnt R k : Nat)) : Cau R (putI m k v) := by
  refine ⟨c.ck.put k0 k1 (by omega), fun p hp => ?_⟩
  rcases put_vals _ _ _ _ hp with z | z
  · rw [z]; exact h
  · exact c.le p z

def prs (S : List Int) (g : Int → Int) : List (Int × Int) := S.map fun k => (k, g k)
theorem prs_keys (S : List Int) (g : Int → Int) : (prs S g).map (·.1) = S := by unfold prs; rw [List.map_map]; exact List.map_id' _
theorem Cau.of {R : List Kal} {m : List (Int × Int)} {S : List Int} (c : Cau R m) (pm : S.Perm (m.map (·.1))) : Cau R (prs S (ct m)) := by
  have at1 : ∀ p ∈ prs S (ct m), ∃ q ∈ m, q.1 = p.1 ∧ q.2 = p.2 := fun p hp => by
    unfold prs at hp
    obtain ⟨k, hk, rfl⟩ := List.mem_map.mp hp
    obtain ⟨q, hq, e⟩ := List.mem_map.mp (pm.mem_iff.mp hk)
    refine ⟨q, hq, e, ?_⟩
    show q.2 = ct m k
    rw [← e]
    exact (ct_of c.ck.nd hq).symm
  refine ⟨⟨by rw [prs_keys]; exact pm.nodup_iff.mpr c.ck.nd, fun p hp => ?_, fun p hp => ?_⟩, fun p hp => ?_⟩
  all_goals obtain ⟨q, hq, e1, e2⟩ := at1 p hp
  · rw [← e2]; exact c.ck.nn q hq
  · rw [← e1]; exact c.ck.rg q hq
  · rw [← e1, ← e2]; exact c.le q hq
theorem Cau.pos {R : List Kal} {m : List (Int × Int)} (c : Cau R m) : posI m = m := by
  unfold posI
  exact List.filter_eq_self.mpr fun p hp => decide_eq_true (by have := (c.le p hp).1; omega)
theorem bit_ex {m : Int} (m0 : 0 < m) (m1 : m < 16) : ∃ k, k < 4 ∧ bt m k = true := by
  have h : (bt m 0 || bt m 1 || bt m 2 || bt m 3) = true := by
    refine f16 (P := fun m => 0 < m → (bt m 0 || bt m 1 || bt m 2 || bt m 3) = true) (fun i => ?_) (by omega) m1 m0
    revert i
    decide +kernel
  simp only [Bool.or_eq_true] at h
  rcases h with ((h | h) | h) | h
  · exact ⟨0, by decide, h⟩
  · exact ⟨1, by decide, h⟩
  · exact ⟨2, by decide, h⟩
  · exact ⟨3, by decide, h⟩
theorem cut_take (xs : List V) (k : Nat) (h : k ≤ xs.length) : cutV xs none (some (k : Int)) = xs.take k := by
  unfold cutV
  have e1 : HT.sIx xs.length 0 none = 0 := rfl
  have e2 : HT.sIx xs.length xs.length (some (k : Int)) = k := by
    show (if (k : Int) < 0 then ((k : Int) + (xs.length : Nat)).toNat else min (k : Int).toNat xs.length) = k
    rw [if_neg (by omega), Int.toNat_natCast]
    omega
  rw [e1, e2, List.drop_zero, Nat.sub_zero]
theorem kind3 (j : Int) (k0 : 0 ≤ j) (k1 : j < 3) : ∃ kd, atI [V.str "own", V.str "heard", V.str "one"] j = some (V.str kd) ∧ (PyData.str kd).canLay0 = true := by
  rcases (by omega : j = 0 ∨ j = 1 ∨ j = 2) with rfl | rfl | rfl
  · exact ⟨"own", rfl, by decide +kernel⟩
  · exact ⟨"heard", rfl, by decide +kernel⟩
  · exact ⟨"one", rfl, by decide +kernel⟩
theorem pair_take {α β : Type} {R : α → β → Prop} : ∀ {xs : List α} {ys : List β} (k : Nat), Paired R xs ys → Paired R (xs.take k) (ys.take k)
  | _, _, 0, _ => .nil
  | _, _, _ + 1, .nil => .nil
  | _, _, k + 1, .cons r t => .cons r (pair_take k t)
theorem Ok.nil (n : Int) : Ok n [] := ⟨(fun _ z => nomatch z), (fun _ _ z => by simp at z), (fun _ _ z => by simp at z), (fun _ z => nomatch z)⟩
end
end K80


namespace K80
open PySem L2
abbrev s__law_calls : Stmt := top 27
section
variable {P : Program} {w : World} {K : PySem.W.Frag} {mg : Str → Option Value} {base : Heap}
def sp__law_calls (K : PySem.W.Frag) : Sp := fun vs H Q _ => ∃ (a b : Addr) (m n t : Int), vs = [.ref a, .ref b, .int m, .int n, .int t] ∧ ∃ (ns hs : List Int), SqL K H a (ns.map V.int) ∧ ns.length ≤ 1000 ∧ SqL K H b (hs.map V.int) ∧ Hs4 hs ∧ 0 < m ∧ m < 16 ∧ 0 ≤ t ∧ t ≤ 900 ∧ ∀ H' l xs R, Same H H' → H l = none → H' l = some (.lst xs) → Paired (KlA H') xs R → Ok n R → R.length ≤ 5 → (∀ x ∈ R, KG x) → Q (.ref l) H'
theorem sc__law_calls : FnScope ["_law_script", "_law_hands_here", "_law_mask", "_law_number", "_law_at", "_law_members", "_law_calls_here", "_law_k", "_law_cell", "_law_caller", "_law_kind", "_law_counts", "_law_name", "_law_count", "_law_causes"] ["_law_script", "_law_hands_here", "_law_mask", "_law_number", "_law_at"] (defScope s__law_calls) := ⟨rfl, rfl, rfl, by decide +kernel, rfl, by decide +kernel, by decide +kernel⟩
set_option maxHeartbeats 4000000 in
theorem ok__law_calls {f f__law_pick : Addr} {fd fd__law_pick : FuncData} (F : Fun K "_law_calls" "_law_calls" s__law_calls f fd)
    (G__law_pick : FnOk P w K mg base CX0 1 f__law_pick fd__law_pick ["_law_script", "_law_k"] (sp__law_pick K)) (C__law_pick : Cal K mg "_law_pick" f__law_pick fd__law_pick ["_law_script", "_law_k"]) (h_len : mg "len" = none) (h_max : mg "max" = none) (h_range : mg "range" = none) (h_sorted : mg "sorted" = none) (h_tuple : mg "tuple" = none) : FnOk P w K mg base CX0 2 f fd ["_law_script", "_law_hands_here", "_law_mask", "_law_number", "_law_at"] (sp__law_calls K) := by
  refine F.ok sc__law_calls (fun vs H Q E h => ?_) (fun cdv A outer s H vs Q E hr h => ?_)
  · obtain ⟨a, b, m, n, t, rfl, _⟩ := h
    rfl
  obtain ⟨a, b, m, n, t, rfl, h⟩ := h
  have hu64 := hr.units
  have hu0 := hr.units0
  have hu := hu_of hr
  refine ⟨_, (pss_cons (ps_comp (i := 5) ["_law_hands_here", "_law_mask", "_law_k"] [some 1, some 2, none] sc__law_calls.nd rfl (Or.inl rfl) rfl rfl (by kernel_rfl) (pi_range1 rfl h_range (pa_cons pe_int pa_nil)) (fun _ _ _ _ _ nd => pg_name (i := 2) nd rfl (Or.inl rfl)) (fun _ _ _ _ _ => (pif_one (pt_cmpR op_eq (pe_op op_and (pe_op op_shr (pv 1) (pv 2)) pe_int) pe_int (nomark _)))) (fun _ _ _ _ _ => (pe_ix (ix_listK (K := K) rfl) (pv 0) (pv 2) (fun _ _ => rfl))))
      (pss_cons (ps_set (i := 6) sc__law_calls.nd rfl (Or.inl rfl) (pe_lst pa_nil))
      (pss_cons (ps_for PassesOwn.never rfl (pi_range1 rfl h_range (pa_cons (pe_op op_mod (pcall G__law_pick C__law_pick hr (pa_cons (pv 0) (pa_cons (pv 4) pa_nil))) pe_int) pa_nil)) (pg_name (i := 7) sc__law_calls.nd rfl (Or.inl rfl))
      (pss_cons (ps_set (i := 8) sc__law_calls.nd rfl (Or.inl rfl) (pcall G__law_pick C__law_pick hr (pa_cons (pv 0) (pa_cons (pe_op op_add (pe_op op_add (pv 4) pe_int) (pv 7)) pa_nil))))
      (pss_cons (ps_set (i := 9) sc__law_calls.nd rfl (Or.inr rfl) (pe_ix (ix_listK (K := K) rfl) (pv 5) (pe_op op_mod (pv 8) (pe_callB (call_lenK (K := K) rfl) (by rfl) h_len PySem.boot_len (pa_cons (pv 5) pa_nil))) (fun _ _ => rfl)))
      (pss_cons (ps_set (i := 10) sc__law_calls.nd rfl (Or.inl rfl) (pe_ix (ix_listK (K := K) rfl) (pe_lst (pa_cons pe_str (pa_cons pe_str (pa_cons pe_str pa_nil)))) (pe_op op_mod (pe_op op_fdiv (pv 8) pe_int) pe_int) (fun _ _ => rfl)))
      (pss_cons (ps_set (i := 11) sc__law_calls.nd rfl (Or.inr rfl) pe_dnewK)
      (pss_cons (ps_if (pt_cmpR op_ne (pv 10) pe_str (nomark _)) (pss_one (ps_for PassesOwn.never rfl (pi_listK (K := K) rfl (pe_comp ["_law_call"] [none] rfl rfl (by kernel_rfl) (pi_listK (K := K) rfl (pe_slice (sl_listK (K := K) rfl) (pv 6) po_none (po_some (pe_op op_mod (pe_op op_fdiv (pv 8) pe_int) (pe_op op_add (pv 7) pe_int))))) (fun _ _ _ _ _ nd => pg_name (i := 0) nd rfl (Or.inl rfl)) (fun _ _ _ _ _ => pif_nil) (fun _ _ _ _ _ => (pe_ix (ix_tupK (K := K) rfl) (pv 0) pe_int (fun _ _ => rfl))))) (pg_name (i := 12) sc__law_calls.nd rfl (Or.inl rfl))
      (pss_one (ps_dput hu (pv 11) (pe_ix (ix_tupK (K := K) rfl) (pv 12) pe_int (fun _ _ => rfl)) (pe_callB (call_max2 rfl) (by rfl) h_max PyProof.Rows.boot_max (pa_cons pe_int (pa_cons (pe_op op_sub (pe_ix (ix_tupK (K := K) rfl) (pv 12) pe_int (fun _ _ => rfl)) (pe_op op_fdiv (pe_op op_mod (pe_op op_fdiv (pv 8) pe_int) pe_int) pe_int)) pa_nil))) rfl)))) pss_nil)
      (pss_cons (ps_set (i := 13) sc__law_calls.nd rfl (Or.inl rfl) (pe_op op_add pe_int (pe_callB (call_lenK (K := K) rfl) (by rfl) h_len PySem.boot_len (pa_cons (pe_comp ["_law_caller", "_law_call"] [some 9, none] rfl rfl (by kernel_rfl) (pi_listK (K := K) rfl (pv 6)) (fun _ _ _ _ _ nd => pg_name (i := 1) nd rfl (Or.inl rfl)) (fun _ _ _ _ _ => (pif_one (pt_cmpR op_eq (pe_ix (ix_tupK (K := K) rfl) (pe_ix (ix_tupK (K := K) rfl) (pv 1) pe_int (fun _ _ => rfl)) pe_int (fun _ _ => rfl)) (pv 0) (nomark _)))) (fun _ _ _ _ _ => (pv 1))) pa_nil))))
      (pss_cons (ps_set (i := 14) sc__law_calls.nd rfl (Or.inl rfl) (pe_callTy (call_tupleK (K := K) rfl) (by rfl) h_tuple PyProof.Rows.boot_tuple (pa_cons (pe_comp ["_law_counts", "_law_hand"] [some 11, none] rfl rfl (by kernel_rfl) (pi_listK (K := K) rfl (pe_callB (call_sortedD rfl) (by rfl) h_sorted PyProof.Rows.boot_sorted (pa_cons (pv 11) pa_nil))) (fun _ _ _ _ _ nd => pg_name (i := 1) nd rfl (Or.inl rfl)) (fun _ _ _ _ _ => pif_nil) (fun _ _ _ _ _ => (pe_tup (pa_cons (pv 1) (pa_cons (pe_dget hu (pv 0) (pv 1) (fun _ _ => rfl)) pa_nil))))) pa_nil)))
      (pss_one (ps_expr (pe_appendK (K := K) rfl (pe_bm PySem.F.plainAttrs_list PySem.F.slot_list_append PySem.F.type_list_append mt_append (pv 6) (pa_cons (pe_tup (pa_cons (pe_tup (pa_cons (pv 3) (pa_cons (pv 9) (pa_cons (pv 13) pa_nil)))) (pa_cons (pv 10) (pa_cons (pe_op op_sub (pe_op op_mod (pe_op op_fdiv (pe_op op_mul (pv 8) (pv 8)) pe_int) (pe_op op_pow pe_int pe_int)) pe_int) (pa_cons (pv 14) pa_nil))))) pa_nil)))))))))))))
      (pss_one (ps_ret (pv 6)))))), ?_⟩
  obtain ⟨ns, hs, ha, la, hb, h4, m0, m1, t0, t1, kk⟩ := h
  have ln := h4.ln
  clean_wf
  refine ⟨4, rfl, by decide, by decide, fun D hD => ?_⟩
  refine comp_range (fun i σ A => ∃ (v : Option V) (ms : List Int), σ = [some (.ref b), some (.int m), v] ∧ Same H A ∧ A D = some (.lst (ms.map V.int)) ∧ ms.length ≤ i ∧ (∀ h ∈ ms, h ∈ hs) ∧ ((∃ k, k < i ∧ bt m k = true) → ms ≠ [])) ⟨none, [], rfl, same_upd hD, upd_same, Nat.le_refl _, (fun _ z => nomatch z), fun z => by obtain ⟨k, z, _⟩ := z; exact absurd z (Nat.not_lt_zero _)⟩ ?_ ?_
  · rintro i σ A hi ⟨v, ms, rfl, sA, gD, lm, sb, ne⟩
    have hi4 : i < 4 := hi
    have hbA := sA.seq hb
    obtain ⟨h, hh⟩ : ∃ h, hs[i]? = some h := ⟨hs[i]'(by omega), List.getElem?_eq_getElem (by omega)⟩
    have ah : atI (hs.map V.int) (0 + (i : Int)) = some (.int h) := by
      rw [Int.zero_add]; exact atI_nat (by rw [List.getElem?_map, hh]; rfl)
    clean_wf
    rw [shr_bit (by omega) i]
    refine ite2 (fun c => ?_) fun c => ?_
    · clean_wf
      refine ⟨_, gD, small1000 (by rw [List.length_map]; omega), _, ms ++ [h], rfl, fun b o z => ?_, ?_, ?_, fun k hk => ?_, fun _ z => ?_⟩
      · rw [upd_ne (ne_of_none z hD)]
        exact sA b o z
      · rw [upd_same, List.map_append]; rfl
      · rw [List.length_append]; exact Nat.succ_le_succ lm
      · rcases List.mem_append.mp hk with z | z
        · exact sb k z
        · rw [List.mem_singleton.mp z]; exact List.mem_of_getElem? hh
      · simp at z
    · refine ⟨_, ms, rfl, sA, gD, by omega, sb, fun z => ne ?_⟩
      obtain ⟨k, k1, k2⟩ := z
      refine ⟨k, ?_, k2⟩
      by_cases e : k = i
      · rw [e] at k2; exact absurd k2 c
      · omega
  rintro σ A ⟨v, ms, rfl, sA, gD, lm, sb, ne⟩
  have lm : ms.length ≤ 4 := lm
  have gD0 := gD
  have lmp : 0 < ms.length := List.length_pos_iff.mpr (ne (bit_ex m0 m1))
  clean_wf
  intro l B hl s1 g1
  have ha1 := (sA.trans s1).seq ha
  clean_wf
  refine ⟨a, _, rfl, ns, ha1, by omega, by omega, la, fun c0 B0 hc0 s2 => ?_⟩
  have q6 := lit (c := c0) (m := 6) (by decide)
  clean_wf
  refine ⟨_, rfl, by omega, by omega, ?_⟩
  have hl0 : H l = none := sA.free hl
  have sm0 : Same H B0 := sA.trans (s1.trans s2)
  refine for_range (fun i σ A => ∃ (w7 w8 w9 w10 w11 w12 w13 w14 : Option V) (xs : List V) (R : List Kal), σ = [some (.ref a), some (.ref b), some (.int m), some (.int n), some (.int t), some (.ref D), some (.ref l), w7, w8, w9, w10, w11, w12, w13, w14] ∧ Same H A ∧ A D = some (.lst (ms.map V.int)) ∧ A l = some (.lst xs) ∧ Paired (KlA A) xs R ∧ Ok n R ∧ R.length = i ∧ ∀ x ∈ R, KG x) ⟨none, none, none, none, none, none, none, none, [], [], rfl, sm0, s2 _ _ (s1 _ _ gD), s2 _ _ g1, .nil, Ok.nil n, rfl, (fun _ z => nomatch z)⟩ ?_ ?_
  · rintro i σ A hi ⟨w7, w8, w9, w10, w11, w12, w13, w14, xs, R, rfl, sA, gD, gl, hR, ok, lR, kg⟩
    have hi6 : i < 6 := by omega
    have haA := sA.seq ha
    have lx := Paired.length hR
    clean_wf
    refine ⟨a, _, rfl, ns, haA, by omega, by omega, la, fun c B hc sB => ?_⟩
    have gDB := SqL.of (K := K) (sB _ _ gD)
    have glB := sB _ _ gl
    have lq := lit (c := c) (m := ((ms.map V.int).length : Nat)) (by rw [List.length_map]; omega)
    obtain ⟨h, hh, ah⟩ : ∃ h, h ∈ ms ∧ atI (ms.map V.int) (c % ((ms.map V.int).length : Nat)) = some (V.int h) := by
      have l1 := lq.1
      have l2 := lq.2
      generalize c % ((ms.map V.int).length : Nat) = j at l1 l2 ⊢
      rw [List.length_map] at l2
      exact ⟨ms[j.toNat]'(by omega), List.getElem_mem _, atI_int l1 (by rw [List.getElem?_map, List.getElem?_eq_getElem (by omega)]; rfl)⟩
    have hr := h4.rg h (sb h hh)
    have k3' := lit (c := c / 4) (m := 3) (by decide)
    obtain ⟨kd, hkd, lkd⟩ := kind3 (c / 4 % 3) k3'.1 k3'.2
    clean_wf
    intro k0 A1 hk0 t1' gk1
    have sk1 : SqL K A1 k0 [V.str "own", V.str "heard", V.str "one"] := SqL.of gk1
    clean_wf
    intro d A2 hd t2 g2
    have q12 := lit (c := c / 12) (m := 0 + (i : Int) + 1) (by omega)
    have hRB : Paired (KlA B) xs R := Paired.mapP hR fun _ _ y => y.up (.same sB)
    have sB2 : Same B A2 := t1'.trans t2
    have hdB : B d = none := t1'.free hd
    refine x_cut (fun σ' A' => ∃ (u12 : Option V) (mm : List (Int × Int)), σ' = [some (.ref a), some (.ref b), some (.int m), some (.int n), some (.int t), some (.ref D), some (.ref l), some (.int (0 + (i : Int))), some (.int c), some (.int h), some (.str kd), some (.ref d), u12, w13, w14] ∧ Same B A' ∧ A' d = some (.dK (dI mm)) ∧ Cau R mm) ?_ fun N rest => ?_
    rotate_left
    · have done := rest _ A2 ⟨w12, [], rfl, sB2, g2, ⟨Ck.nil, (fun _ z => nomatch z)⟩⟩
      have gl2 := SqL.of (K := K) (sB2 _ _ glB)
      clean_wf
      refine ite2 (fun _ => ?_) fun _ => ?_
      · clean_wf
        intro q B3 hq s3 g3
        obtain ⟨j, ej⟩ : ∃ j : Nat, c / 12 % (0 + (i : Int) + 1) = (j : Int) := ⟨(c / 12 % (0 + (i : Int) + 1)).toNat, by omega⟩
        rw [ej, cut_take xs j (by omega)] at g3
        refine ⟨q, rfl, ⟨_, SqL.of g3⟩, fun E hE => ?_⟩
        have sB3 : Same B B3 := sB2.trans s3
        have hRj : Paired (KlA B) (xs.take j) (R.take j) := pair_take j hRB
        have lj := Paired.length hRj
        refine comp_list (K := K) (a := q) (xs := xs.take j) (fun i' σ A' => ∃ (v : Option V) (ys : List V), σ = [v] ∧ Same B3 A' ∧ A' E = some (.lst ys) ∧ ys.length = i' ∧ Paired (TrA A') ys (((R.take j).take i').map Kal.nm)) ⟨none, [], rfl, same_upd hE, upd_same, rfl, .nil⟩ (fun i' σ A' _ z => by obtain ⟨_, _, _, z, _⟩ := z; exact SqL.of (z _ _ g3)) ?_ ?_
        · rintro i' x σ A' hx ⟨v, ys, rfl, sA', gE, ly, py⟩
          obtain ⟨xk, hxk, kx⟩ := pair_to hRj hx
          obtain ⟨tt, nv, cv, rfl, f1, f2, f3⟩ := kx.up (.same (sB3.trans sA'))
          have st := SqT.of (K := K) f1
          have il := (List.getElem?_eq_some_iff.mp hx).1
          have lt5 : (xs.take j).length ≤ xs.length := List.length_take_le' ..
          clean_wf
          have su : SmH A' (upd A' E (.lst (ys ++ [nv]))) := fun u zs e => by rw [upd_ne (ne_of e gE (by intro z; cases z))]; exact e
          refine ⟨ys, gE, small1000 (by omega), _, _, rfl, fun b o z => ?_, upd_same, by rw [List.length_append, ly]; rfl, ?_⟩
          · rw [upd_ne (ne_of_none z hE)]
            exact sA' b o z
          · rw [take_get hxk, List.map_append]
            exact pair_app (Paired.mapP py fun _ _ y => y.up su) (.cons (f2.up su) .nil)
        rintro σ A3 ⟨v, ys, rfl, sA3, gE, ly, py⟩
        rw [List.take_of_length_le (by omega)] at py
        refine ⟨E, rfl, ⟨_, SqL.of gE⟩, ?_⟩
        refine for_list (K := K) (a := E) (xs := ys) (fun i' σ A' => ∃ (u12 : Option V) (mm : List (Int × Int)), σ = [some (.ref a), some (.ref b), some (.int m), some (.int n), some (.int t), some (.ref D), some (.ref l), some (.int (0 + (i : Int))), some (.int c), some (.int h), some (.str kd), some (.ref d), u12, w13, w14] ∧ Same B A' ∧ SmH A3 A' ∧ A' E = some (.lst ys) ∧ A' d = some (.dK (dI mm)) ∧ Cau R mm) ⟨w12, [], rfl, sB3.trans sA3, .refl _, gE, sA3 _ _ (s3 _ _ g2), ⟨Ck.nil, (fun _ z => nomatch z)⟩⟩ (fun i' σ A' _ z => by obtain ⟨_, _, _, _, _, z, _⟩ := z; exact SqL.of z) ?_ ?_
        · rintro i' x σ A' hx ⟨u12, mm, rfl, sA', su', gE', gd', cau⟩
          obtain ⟨nm, hnm, tr⟩ := pair_to py hx
          obtain ⟨tt, rfl, f1⟩ := tr.up su'
          obtain ⟨xk, hxk, rfl⟩ := List.mem_map.mp (List.mem_of_getElem? hnm)
          have hxR : xk ∈ R := List.mem_of_mem_take hxk
          have le := ok.le hxR
          have rg := (ok.rg xk hxR).1
          have st := SqT.of (K := K) f1
          have nd := cau.ck.nd
          have lm := cau.ck.len
          have e3 := lit (c := c / 128) (m := 3) (by decide)
          clean_wf
          refine ⟨_, _, rfl, ?_⟩
          clean_wf
          intro A4 b4 g4
          have nEd : E ≠ d := ne_of gE' gd' (by intro z; cases z)
          refine ⟨_, _, rfl, b4.same sA' hdB, su'.trans (SmH.but b4 gd' (by intro _ z; cases z)), b4.at nEd gE', g4, cau.put rg.1 rg.2 ?_⟩
          show 1 ≤ (if xk.k - c / 128 % 3 / 2 > 1 then xk.k - c / 128 % 3 / 2 else 1) ∧ (if xk.k - c / 128 % 3 / 2 > 1 then xk.k - c / 128 % 3 / 2 else 1) ≤ (cnt R xk.c : Nat)
          split <;> omega
        rintro σ A4 ⟨u12, mm, rfl, sA', su', gE', gd', cau⟩
        exact rest _ _ ⟨_, mm, rfl, sA', gd', cau⟩
      · exact done
    rintro σ' A3 ⟨u12, mm, rfl, sB3, gd3, cau⟩
    have gl3 := sB3 _ _ glB
    have gl3' := SqL.of (K := K) gl3
    have hR3 : Paired (KlA A3) xs R := Paired.mapP hRB fun _ _ y => y.up (.same sB3)
    clean_wf
    intro E hE
    refine comp_list (K := K) (a := l) (xs := xs) (fun i' σ A' => ∃ (v : Option V) (ys : List V), σ = [some (.int h), v] ∧ Same A3 A' ∧ A' E = some (.lst ys) ∧ ys.length = cnt (R.take i') h) ⟨none, [], rfl, same_upd hE, upd_same, rfl⟩ (fun i' σ A' _ z => by obtain ⟨_, _, _, z, _⟩ := z; exact SqL.of (z _ _ gl3)) ?_ ?_
    · rintro i' x σ A' hx ⟨v, ys, rfl, sA', gE, ly⟩
      obtain ⟨xk, hxk, kx⟩ := pair_to hR3 hx
      obtain ⟨tt, nv, cv, rfl, f1, ⟨t3', rfl, f2⟩, f3⟩ := kx.up (.same sA')
      have st := SqT.of (K := K) f1
      have st2 := SqT.of (K := K) f2
      have lc : cnt (R.take i') h ≤ 6 := by
        have : cnt (R.take i') h ≤ (R.take i').length := List.length_filter_le _ _
        have := List.length_take_le i' R
        have := (List.getElem?_eq_some_iff.mp hx).1
        omega
      clean_wf
      refine ite2 (fun e => ?_) fun e => ?_
      · have e : xk.c = h := of_decide_eq_true e
        clean_wf
        refine ⟨ys, gE, small1000 (by omega), _, _, rfl, fun b o z => ?_, upd_same, ?_⟩
        · rw [upd_ne (ne_of_none z hE)]
          exact sA' b o z
        · rw [take_get hxk, cnt_app, cnt_one, if_pos e, List.length_append, ly]
          rfl
      · have e : ¬ xk.c = h := fun z => e (decide_eq_true z)
        exact ⟨_, ys, rfl, sA', gE, by rw [take_get hxk, cnt_app, cnt_one, if_neg e, Nat.add_zero, ly]⟩
    rintro σ A4 ⟨v, ys, rfl, sA4, gE, ly⟩
    rw [lx, List.take_length] at ly
    have slE := SqL.of (K := K) gE
    have gd4 := sA4 _ _ gd3
    clean_wf
    refine ⟨d, mm, rfl, .inl gd4, cau.ck.len, fun p T hp pT sT => ?_⟩
    have s5 := same_upd (o := .lst (T.map V.int)) hp
    have g5 : (upd A4 p (.lst (T.map V.int))) p = some (.lst (T.map V.int)) := upd_same
    generalize upd A4 p (.lst (T.map V.int)) = A5 at s5 g5 ⊢
    have lT : T.length < 64 := by rw [pT.length_eq, List.length_map]; exact cau.ck.len
    refine ⟨p, rfl, ⟨_, SqL.of g5⟩, fun E1 hE1 => ?_⟩
    refine comp_list (K := K) (a := p) (xs := T.map V.int) (fun i' σ A => ∃ v zs, σ = [some (.ref d), v] ∧ Same A5 A ∧ A E1 = some (.lst zs) ∧ zs.length ≤ i' ∧ Prs A zs (prs (T.take i') (ct mm))) ⟨none, [], rfl, same_upd hE1, upd_same, Nat.le_refl _, .nil⟩ ?_ ?_ ?_
    · rintro i' σ A _ ⟨_, _, _, z, _⟩
      exact SqL.of (z _ _ g5)
    · rintro i' x σ A hx' ⟨v, zs, rfl, sA, hEx, lz, pz⟩
      obtain ⟨cl, hcl, rfl⟩ := int_get hx'
      have hi' := (List.getElem?_eq_some_iff.mp hcl).1
      have hrA := sA _ _ (s5 _ _ gd4)
      have hlc : lkI mm cl = some (ct mm cl) := lk_ct (pT.mem_iff.mp (List.mem_of_getElem? hcl))
      clean_wf
      intro u A1 hu' sA1 gA1
      have hE1' := sA1 _ _ hEx
      refine ⟨zs, hE1', small1000 (by omega), _, _, rfl, fun b o z => ?_, upd_same, by rw [List.length_append]; exact Nat.succ_le_succ lz, ?_⟩
      · rw [upd_ne (ne_of_none z hE1)]
        exact sA1 _ _ (sA b o z)
      · have kp : ∀ a xs, A1 a = some (.tup xs) → (upd A1 E1 (.lst (zs ++ [V.ref u]))) a = some (.tup xs) := fun a xs z => by
          rw [upd_ne (ne_of z hE1' (by intro z; cases z))]
          exact z
        have e : prs (T.take (i' + 1)) (ct mm) = prs (T.take i') (ct mm) ++ [(cl, ct mm cl)] := by
          unfold prs
          rw [take_get hcl, List.map_append]
          rfl
        rw [e]
        exact Prs.snoc (pz.mono fun a xs z => kp _ _ (sA1 _ _ z)) ⟨u, rfl, kp _ _ gA1⟩
    rintro σ A6 ⟨v6, zs, rfl, sA6, hEx, lz, pz⟩
    rw [show T.take (T.map V.int).length = T by rw [List.length_map, List.take_length]] at pz
    have cauT := cau.of pT
    clean_wf
    intro u A7 hu7 s7 g7
    have h60 : (0 : Int) < (10 : Int) ^ (60 : Int).toNat := Int.pow_pos (by decide)
    have gl7 := (sB3.trans (sA4.trans (s5.trans (sA6.trans s7)))) _ _ glB
    have mcc : CMul c c := .inl ⟨by omega, by omega⟩
    clean_wf
    intro z1 A8 hz1 s8 g8
    clean_wf
    intro z2 A9 hz2 s9 g9
    have s49 : Same B A9 := sB3.trans (sA4.trans (s5.trans (sA6.trans (s7.trans (s8.trans s9)))))
    clean_wf
    refine x_append (s49 _ _ glB) (small1000 (by omega)) fun A10 b10 g10 => ?_
    have su : SmH A9 A10 := SmH.but b10 (s49 _ _ glB) (by intro _ z; cases z)
    have kz : KlA A10 (.ref z2) ⟨n, h, 1 + (ys.length : Nat), kd, c * c / 512 % 10 ^ (60 : Int).toNat - 5, prs T (ct mm)⟩ := ⟨z2, .ref z1, .ref u, rfl, su _ _ g9, ⟨z1, rfl, su _ _ (s9 _ _ g8)⟩, ⟨u, zs, rfl, su _ _ (s9 _ _ (s8 _ _ g7)), pz.mono fun a xs z => su _ _ (s9 _ _ (s8 _ _ (s7 _ _ z)))⟩⟩
    refine ⟨_, _, _, _, _, _, _, _, xs ++ [.ref z2], R ++ [⟨n, h, 1 + (ys.length : Nat), kd, c * c / 512 % 10 ^ (60 : Int).toNat - 5, prs T (ct mm)⟩], rfl, b10.same (sA.trans (sB.trans s49)) hl0, b10.at ?_ (s49 _ _ (sB _ _ gD)), g10, pair_app (Paired.mapP hRB fun _ _ y => y.up ((SmH.same s49).trans su)) (.cons kz .nil), ok.snoc rfl ⟨?_, ?_⟩ ⟨hr, ?_⟩, by rw [List.length_append, lR]; rfl, fun y hy => ?_⟩
    · exact ne_of_none gD0 hl
    · show 1 + ((ys.length : Nat) : Int) = _
      rw [ly]; exact Int.add_comm _ _
    · intro _ p hp
      exact (cauT.le p hp).2
    · show Ck (posI (prs T (ct mm)))
      rw [cauT.pos]; exact cauT.ck
    · rcases List.mem_append.mp hy with z | z
      · exact kg y z
      · rw [List.mem_singleton.mp z]
        refine ⟨?_, ?_, by show 0 ≤ 1 + ((ys.length : Nat) : Int); omega, lkd⟩
        · show ((prs T (ct mm)).map (·.1)).Nodup
          exact cauT.ck.nd
        · show (prs T (ct mm)).length ≤ 100
          have := cauT.ck.len
          omega
  rintro σ A ⟨w7, w8, w9, w10, w11, w12, w13, w14, xs, R, rfl, sA, gD, gl, hR, ok, lR, kg⟩
  clean_wf
  exact kk A l xs R sA hl0 gl hR ok (by omega) kg
end
end K80


namespace K80
open PySem L2
section
variable {P : Program} {w : World} {K : PySem.W.Frag} {mg : Str → Option Value} {base : Heap}
theorem SetOf.uniq {hs : List Int} {m n n' : Int} (a : SetOf hs m n) (b : SetOf hs m n') : n = n' := by
  have e : n.toNat = n'.toNat := Nat.eq_of_testBit_eq fun j => by
    rw [Bool.eq_iff_iff, a.2 j, b.2 j]
  have := a.1
  have := b.1
  omega
open Classical in

noncomputable def setN (hs : List Int) (m : Int) : Int := if h : ∃ n, SetOf hs m n then Classical.choose h else 0
theorem SetOf.eq {hs : List Int} {m n : Int} (a : SetOf hs m n) : n = setN hs m := by
  unfold setN
  rw [dif_pos ⟨n, a⟩]
  exact a.uniq (Classical.choose_spec (⟨n, a⟩ : ∃ n, SetOf hs m n))
theorem SetOf.has {hs : List Int} {m n : Int} (a : SetOf hs m n) (h4 : Hs4 hs) {k : Nat} {h : Int} (hk : hs[k]? = some h) : hasB n h = bt m k := by
  have kl := (List.getElem?_eq_some_iff.mp hk).1
  have ln := h4.ln
  have rg := h4.rg h (List.mem_of_getElem? hk)
  unfold hasB
  rw [Bool.eq_iff_iff, a.2 h.toNat, Int.toNat_of_nonneg rg.1]
  constructor
  · rintro ⟨j, j1, j2, j3⟩
    rw [← hk] at j3
    have := (List.getElem?_inj (by omega) h4.nd).mp j3
    rw [← this]
    exact j2
  · intro z
    exact ⟨k, by omega, z, hk⟩

inductive Rn (C : Ctx) (O : Nat → List Kal) (hand : Int) : List Ev → Pst → Prop
  | nil : Rn C O hand [] (.idle 0)
  | come {k0 k : Nat} {es : List Ev} : Rn C O hand es (.idle k0) → k0 ≤ k → k < C.L → hasB (C.S k).1 hand = true → hasB (C.S k).2.2 hand = true → Rn C O hand (es ++ [.L (C.num + k) (C.S k)]) (.inn k 0)
  | take {k j : Nat} {x : Kal} {why : Str} {es : List Ev} : Rn C O hand es (.inn k j) → (O k)[j]? = some x → Rn C O hand (es ++ [.T x why]) (.inn k (j + 1))
  | on {k : Nat} {es : List Ev} : Rn C O hand es (.inn k (O k).length) → k + 1 < C.L → hasB (C.S (k + 1)).1 hand = true → hasB (C.S (k + 1)).2.1 hand = true → Rn C O hand (es ++ [.L (C.num + (k + 1 : Nat)) (C.S (k + 1))]) (.inn (k + 1) 0)
  | out {k j : Nat} {es : List Ev} : Rn C O hand es (.inn k j) → Rn C O hand (es ++ [.O (C.num + k)]) (.idle (k + 1))
theorem Rn.pth {C : Ctx} {O : Nat → List Kal} {hand : Int} {es : List Ev} {s : Pst} (r : Rn C O hand es s) : ∀ {fs : List Ev}, Pth C O hand s fs → Pth C O hand (.idle 0) (es ++ fs) := by
  induction r with
  | nil => intro fs p; exact p
  | come _ a b c d ih => intro fs p; rw [List.append_assoc]; exact ih (.come a b c d p)
  | take _ a ih => intro fs p; rw [List.append_assoc]; exact ih (.take a p)
  | on _ a b c ih => intro fs p; rw [List.append_assoc]; exact ih (.on a b c p)
  | out _ ih => intro fs p; rw [List.append_assoc]; exact ih (.out p)
def Pst.top : Pst → Nat
  | .idle k => k
  | .inn k _ => k + 1
theorem Rn.congr {C : Ctx} {O O' : Nat → List Kal} {hand : Int} {es : List Ev} {s : Pst} (r : Rn C O hand es s) : (∀ k, k < s.top → O' k = O k) → Rn C O' hand es s := by
  induction r with
  | nil => intro _; exact .nil
  | come _ a b c d ih => intro h; exact .come (ih fun k hk => h k (Nat.lt_of_lt_of_le hk (Nat.le_trans a (Nat.le_succ _)))) a b c d
  | take _ a ih => intro h; exact .take (ih h) (by rw [h _ (Nat.lt_succ_self _)]; exact a)
  | @on k es _ a b c ih =>
    intro h
    have e := h k (Nat.lt_succ_of_lt (Nat.lt_succ_self _))
    refine .on ?_ a b c
    rw [e]
    exact ih fun k hk => h k (Nat.lt_succ_of_lt hk)
  | out _ ih => intro h; exact .out (ih h)
theorem Rn.takes {C : Ctx} {O : Nat → List Kal} {hand : Int} {es : List Ev} {k : Nat} {why : Str} (r : Rn C O hand es (.inn k 0)) : ∀ j, j ≤ (O k).length → Rn C O hand (es ++ ((O k).take j).map fun x => .T x why) (.inn k j) := by
  intro j
  induction j with
  | zero => intro _; rw [List.take_zero, List.map_nil, List.append_nil]; exact r
  | succ j ih =>
    intro h
    have hj := List.getElem?_eq_getElem (l := O k) (i := j) (by omega)
    rw [take_get hj, List.map_append, ← List.append_assoc]
    exact .take (ih (by omega)) hj

noncomputable def Cof (hs : List Int) (M : List Nm3) (Rs : List (List Kal)) (n : Int) : Ctx where
  L := M.length
  num := n
  R := fun k => Rs.getD k []
  S := fun k => (setN hs (M.getD k (0, 0, 0)).1, setN hs (M.getD k (0, 0, 0)).2.1, setN hs (M.getD k (0, 0, 0)).2.2)

def Stn (M : List Nm3) (O : Nat → List Kal) (q : Nat) (i : Nat) (s : Pst) : Prop :=
  ∀ t, M[i]? = some t → if bt t.2.1 q = true ∧ bt t.1 q = true then ∃ k, i = k + 1 ∧ s = .inn k (O k).length else ∃ k0, k0 ≤ i ∧ s = .idle k0

def RwA (H : Hp) (v : V) (R : List Kal) : Prop := ∃ l xs, v = .ref l ∧ H l = some (.lst xs) ∧ Paired (KlA H) xs R
theorem RwA.same {H H' : Hp} (s : Same H H') {v : V} {R : List Kal} (h : RwA H v R) : RwA H' v R := by
  obtain ⟨l, xs, e1, e2, e3⟩ := h
  exact ⟨l, xs, e1, s _ _ e2, Paired.mapP e3 fun _ _ y => y.up (.same s)⟩

structure RwsOk (n : Int) (Rs : List (List Kal)) : Prop where
  ok : ∀ (k : Nat) R, Rs[k]? = some R → Ok (n + k) R ∧ R.length ≤ 5 ∧ ∀ x ∈ R, KG x
end
end K80


namespace K80
open PySem L2
section
variable {P : Program} {w : World} {K : PySem.W.Frag} {mg : Str → Option Value} {base : Heap}
theorem shrN {m : Int} (m0 : 0 ≤ m) (i : Nat) : decide (Builtin.bitAnd (m / 2 ^ ((i : Nat) : Int).toNat) 1 = 1) = bt m i := by
  have := shr_bit m0 i
  rwa [Int.zero_add] at this
theorem shrZ {m : Int} (m0 : 0 ≤ m) (i : Nat) : decide (Builtin.bitAnd (m / 2 ^ ((i : Nat) : Int).toNat) 1 = 0) = !bt m i := by
  have h := shrN m0 i
  obtain ⟨k, rfl⟩ := Int.eq_ofNat_of_zero_le m0
  have e : ((k : Int) / 2 ^ i) = ((k / 2 ^ i : Nat) : Int) := by
    rw [Int.natCast_ediv]
    simp
  rw [Int.toNat_natCast, e, and_nat (Int.natCast_nonneg _) (by decide), Int.toNat_natCast, show Int.toNat 1 = 1 from rfl, Nat.and_one_is_mod] at h ⊢
  rw [← h]
  by_cases z : k / 2 ^ i % 2 = 1
  · rw [decide_eq_true (show ((k / 2 ^ i % 2 : Nat) : Int) = 1 by omega), decide_eq_false (by omega)]; rfl
  · rw [decide_eq_false (show ¬ ((k / 2 ^ i % 2 : Nat) : Int) = 1 by omega), decide_eq_true (by omega)]; rfl
theorem bt0 (k : Nat) : bt 0 k = false := by unfold bt; rw [show Int.toNat 0 = 0 from rfl, Nat.zero_testBit]
theorem Mks.at {M : List Nm3} (m : Mks M) {i : Nat} {t : Nm3} (h : M[i]? = some t) : (0 < t.1 ∧ t.1 < 16) ∧ (0 ≤ t.2.1 ∧ t.2.1 < 16) ∧ (0 ≤ t.2.2 ∧ t.2.2 < 16) ∧ ∀ k, k < 4 → bt t.1 k = true → bt t.2.1 k = true ∨ bt t.2.2 k = true := by
  cases i with
  | zero =>
    obtain ⟨a, b, c, d⟩ := m.z t h
    exact ⟨⟨a, b⟩, by omega, by omega, fun k _ z => .inr (by rw [d]; exact z)⟩
  | succ i =>
    have il := (List.getElem?_eq_some_iff.mp h).1
    have q := m.s i _ t (List.getElem?_eq_getElem (by omega)) h
    exact ⟨q.r1, q.r2, q.r3, q.un⟩

def stB (M : List Nm3) (i q : Nat) : Bool := match M[i + 1]? with
  | none => false
  | some u => bt u.2.1 q

theorem Stn.no {M : List Nm3} {O : Nat → List Kal} {q i : Nat} {s : Pst} {t : Nm3} (mk : Mks M) (q4 : q < 4) (st : Stn M O q i s) (h : M[i]? = some t) (nb : bt t.1 q = false) : Stn M O q (i + 1) s := by
  intro u hu
  have ms := mk.s i t u h hu
  have z : ¬ (bt u.2.1 q = true ∧ bt u.1 q = true) := fun z => by
    have := ms.on q q4 z.1
    rw [nb] at this
    cases this
  rw [if_neg z]
  have := st t h
  rw [if_neg (fun w => by rw [nb] at w; cases w.2)] at this
  obtain ⟨k0, h1, h2⟩ := this
  exact ⟨k0, by omega, h2⟩

theorem Rn.more {C : Ctx} {M : List Nm3} {O : Nat → List Kal} {hand : Int} {es : List Ev} {s : Pst} {q i : Nat} {t : Nm3} (r : Rn C O hand es s) (mk : Mks M) (q4 : q < 4) (st : Stn M O q i s) (h : M[i]? = some t) (b : bt t.1 q = true) (iL : i < C.L) (h1 : hasB (C.S i).1 hand = bt t.1 q) (h2 : hasB (C.S i).2.1 hand = bt t.2.1 q) (h3 : hasB (C.S i).2.2 hand = bt t.2.2 q) : Rn C O hand (es ++ [.L (C.num + i) (C.S i)]) (.inn i 0) := by
  have := st t h
  by_cases on : bt t.2.1 q = true
  · rw [if_pos ⟨on, b⟩] at this
    obtain ⟨k, rfl, rfl⟩ := this
    exact .on r iL (by rw [h1]; exact b) (by rw [h2]; exact on)
  · rw [if_neg (fun w => on w.1)] at this
    obtain ⟨k0, le, rfl⟩ := this
    refine .come r le iL (by rw [h1]; exact b) ?_
    rw [h3]
    exact ((mk.at h).2.2.2 q q4 b).resolve_left on
def updO (O : Nat → List Kal) (i : Nat) (R : List Kal) : Nat → List Kal := fun k => if k = i then R else O k
theorem updO_at (O : Nat → List Kal) (i : Nat) (R : List Kal) : updO O i R i = R := if_pos rfl
theorem Ords.upd {C : Ctx} {O : Nat → List Kal} (o : Ords C O) {i : Nat} {R : List Kal} (a : K80.Ok (C.num + i) R) (b : R.Perm (C.R i)) (c : R.filter isO = (C.R i).filter isO) : Ords C (updO O i R) := by
  refine ⟨fun k hk => ?_, fun k hk => ?_, fun k hk => ?_⟩
  all_goals
    unfold updO
    split
  · rename_i e; rw [e]; exact a
  · exact o.ok k hk
  · rename_i e; rw [e]; exact b
  · exact o.pm k hk
  · rename_i e; rw [e]; exact c
  · exact o.on k hk
theorem x_catT {K : PySem.W.Frag} {H : Hp} {Q : VK} {a b : Addr} {x : V} {xs ys : List V} {y : V} (h1 : H a = some (.tup (x :: xs))) (h2 : H b = some (.tup (y :: ys))) (hl : (x :: xs).length + (y :: ys).length ≤ 1000) (h : ∀ p H', H p = none → Same H H' → H' p = some (.tup (x :: xs ++ y :: ys)) → Q (.ref p) H') : rCatT K (.ref a) (.ref b) H Q :=
  ⟨a, b, _, _, rfl, rfl, SqT.of h1, SqT.of h2, List.cons_ne_nil _ _, Nat.le_of_lt (small1000 hl), fun z => absurd z (List.cons_ne_nil _ _), fun _ p hp => h p _ hp (same_upd hp) upd_same⟩
def wyO : Ev → Prop
  | .T _ w => (PyData.str w).canLay0 = true
  | _ => True
theorem why3 (j : Int) (k0 : 0 ≤ j) (k1 : j < 3) : ∃ y, atI [V.str "ready", V.str "sure", V.str "cut"] j = some (V.str y) ∧ (PyData.str y).canLay0 = true := by
  rcases (by omega : j = 0 ∨ j = 1 ∨ j = 2) with rfl | rfl | rfl
  · exact ⟨"ready", rfl, by decide +kernel⟩
  · exact ⟨"sure", rfl, by decide +kernel⟩
  · exact ⟨"cut", rfl, by decide +kernel⟩
theorem wy_takes {es : List Ev} {n : Int} {s : Int × Int × Int} {l : List Kal} {y : Str} (h : ∀ e ∈ es, wyO e) (hy : (PyData.str y).canLay0 = true) : ∀ e ∈ es ++ [Ev.L n s] ++ l.map (fun x => Ev.T x y), wyO e := by
  intro e he
  rcases List.mem_append.mp he with z | z
  · rcases List.mem_append.mp z with z | z
    · exact h e z
    · rw [List.mem_singleton.mp z]; exact True.intro
  · obtain ⟨x, _, rfl⟩ := List.mem_map.mp z
    exact hy
theorem wy_out {es : List Ev} {n : Int} (h : ∀ e ∈ es, wyO e) : ∀ e ∈ es ++ [Ev.O n], wyO e := by
  intro e he
  rcases List.mem_append.mp he with z | z
  · exact h e z
  · rw [List.mem_singleton.mp z]; exact True.intro
end
end K80


namespace K80
open PySem L2
abbrev s__law_events : Stmt := top 30
section
variable {P : Program} {w : World} {K : PySem.W.Frag} {mg : Str → Option Value} {base : Heap}
def sp__law_events (K : PySem.W.Frag) : Sp := fun vs H Q _ => ∃ (a b c d : Addr) (q n : Int), vs = [.ref a, .ref b, .ref c, .ref d, .int q, .int n] ∧ ∃ (ns hs : List Int) (xm xr : List V) (M : List Nm3) (Rs : List (List Kal)) (hand : Int), SqL K H a (ns.map V.int) ∧ ns.length ≤ 1000 ∧ SqL K H b (hs.map V.int) ∧ Hs4 hs ∧ SqL K H c xm ∧ Paired (TrA H) xm M ∧ Mks M ∧ M.length ≤ 4 ∧ SqL K H d xr ∧ Paired (RwA H) xr Rs ∧ Rs.length = M.length ∧ RwsOk n Rs ∧ 0 ≤ q ∧ hs[q.toNat]? = some hand ∧
  ∀ H' l evs es O, Same H H' → H l = none → H' l = some (.lst evs) → Paired (EvA H') evs es → es.length ≤ 28 → Ords (Cof hs M Rs n) O → Pth (Cof hs M Rs n) O hand (.idle 0) es → (∀ e ∈ es, wyO e) → Q (.ref l) H'
theorem sc__law_events : FnScope ["_law_script", "_law_hands_here", "_law_masks_here", "_law_rows", "_law_who", "_law_number", "_law_events_here", "_law_k", "_law_mask", "_law_on", "_law_new", "_law_much", "_law_stays", "_law_cell", "_law_call", "_law_leaves"] ["_law_script", "_law_hands_here", "_law_masks_here", "_law_rows", "_law_who", "_law_number"] (defScope s__law_events) := ⟨rfl, rfl, rfl, by decide +kernel, rfl, by decide +kernel, by decide +kernel⟩
set_option maxHeartbeats 8000000 in
theorem ok__law_events {f f__law_pick f__law_set f__law_order : Addr} {fd fd__law_pick fd__law_set fd__law_order : FuncData} (F : Fun K "_law_events" "_law_events" s__law_events f fd)
    (G__law_pick : FnOk P w K mg base CX0 2 f__law_pick fd__law_pick ["_law_script", "_law_k"] (sp__law_pick K)) (C__law_pick : Cal K mg "_law_pick" f__law_pick fd__law_pick ["_law_script", "_law_k"])
    (G__law_set : FnOk P w K mg base CX0 2 f__law_set fd__law_set ["_law_hands_here", "_law_mask"] (sp__law_set K)) (C__law_set : Cal K mg "_law_set" f__law_set fd__law_set ["_law_hands_here", "_law_mask"])
    (G__law_order : FnOk P w K mg base CX0 2 f__law_order fd__law_order ["_law_script", "_law_calls_here", "_law_at"] (sp__law_order K)) (C__law_order : Cal K mg "_law_order" f__law_order fd__law_order ["_law_script", "_law_calls_here", "_law_at"]) (h_len : mg "len" = none) (h_range : mg "range" = none) : FnOk P w K mg base CX0 3 f fd ["_law_script", "_law_hands_here", "_law_masks_here", "_law_rows", "_law_who", "_law_number"] (sp__law_events K) := by
  refine F.ok sc__law_events (fun vs H Q E h => ?_) (fun cdv A outer s H vs Q E hr h => ?_)
  · obtain ⟨a, b, c, d, q, n, rfl, _⟩ := h
    rfl
  obtain ⟨a, b, c, d, q, n, rfl, h⟩ := h
  have hu64 := hr.units
  have hu0 := hr.units0
  have hu := hu_of hr
  refine ⟨_, (pss_cons (ps_set (i := 6) sc__law_events.nd rfl (Or.inl rfl) (pe_lst pa_nil))
      (pss_cons (ps_for PassesOwn.never rfl (pi_range1 rfl h_range (pa_cons (pe_callB (call_lenK (K := K) rfl) (by rfl) h_len PySem.boot_len (pa_cons (pv 2) pa_nil)) pa_nil)) (pg_name (i := 7) sc__law_events.nd rfl (Or.inl rfl))
      (pss_cons (ps_asg (pe_ix (ix_listK (K := K) rfl) (pv 2) (pv 7) (fun _ _ => rfl)) (pg_tupK (K := K) (n := 3) rfl rfl (pgs_cons (pg_name (i := 8) sc__law_events.nd rfl (Or.inl rfl)) (pgs_cons (pg_name (i := 9) sc__law_events.nd rfl (Or.inl rfl)) (pgs_cons (pg_name (i := 10) sc__law_events.nd rfl (Or.inl rfl)) pgs_nil)))))
      (pss_one (ps_if (pt_cmpR op_eq (pe_op op_and (pe_op op_shr (pv 8) (pv 4)) pe_int) pe_int (nomark _)) (pss_cons (ps_expr (pe_appendK (K := K) rfl (pe_bm PySem.F.plainAttrs_list PySem.F.slot_list_append PySem.F.type_list_append mt_append (pv 6) (pa_cons (pe_tup (pa_cons pe_str (pa_cons (pe_op op_add (pv 5) (pv 7)) (pa_cons (pcall G__law_set C__law_set hr (pa_cons (pv 1) (pa_cons (pv 8) pa_nil))) (pa_cons (pcall G__law_set C__law_set hr (pa_cons (pv 1) (pa_cons (pv 9) pa_nil))) (pa_cons (pcall G__law_set C__law_set hr (pa_cons (pv 1) (pa_cons (pv 10) pa_nil))) pa_nil)))))) pa_nil))))
      (pss_cons (ps_set (i := 11) sc__law_events.nd rfl (Or.inl rfl) (pe_callB (call_lenK (K := K) rfl) (by rfl) h_len PySem.boot_len (pa_cons (pe_ix (ix_listK (K := K) rfl) (pv 3) (pv 7) (fun _ _ => rfl)) pa_nil)))
      (pss_cons (ps_set (i := 12) sc__law_events.nd rfl (Or.inl rfl) (pe_and (pe_cmpR op_lt (pe_op op_add (pv 7) pe_int) (pe_callB (call_lenK (K := K) rfl) (by rfl) h_len PySem.boot_len (pa_cons (pv 2) pa_nil)) (nomark _)) (pe_one (pe_cmpR op_eq (pe_op op_and (pe_op op_shr (pe_ix (ix_tupK (K := K) rfl) (pe_ix (ix_listK (K := K) rfl) (pv 2) (pe_op op_add (pv 7) pe_int) (fun _ _ => rfl)) pe_int (fun _ _ => rfl)) (pv 4)) pe_int) pe_int (nomark _)))))
      (pss_cons (ps_set (i := 13) sc__law_events.nd rfl (Or.inl rfl) (pcall G__law_pick C__law_pick hr (pa_cons (pv 0) (pa_cons (pe_op op_add (pe_op op_add pe_int (pe_op op_mul pe_int (pv 4))) (pv 7)) pa_nil))))
      (pss_cons (ps_if (pt_not (pt_nameK (K := K) rfl (pv 12))) (pss_one (ps_set (i := 11) sc__law_events.nd rfl (Or.inl rfl) (pe_op op_mod (pv 13) (pe_op op_add (pv 11) pe_int)))) pss_nil)
      (pss_cons (ps_for PassesOwn.never rfl (pi_listK (K := K) rfl (pe_slice (sl_listK (K := K) rfl) (pcall G__law_order C__law_order hr (pa_cons (pv 0) (pa_cons (pe_ix (ix_listK (K := K) rfl) (pv 3) (pv 7) (fun _ _ => rfl)) (pa_cons (pe_op op_add (pe_op op_add pe_int (pe_op op_mul pe_int (pv 4))) (pe_op op_mul pe_int (pv 7))) pa_nil)))) po_none (po_some (pv 11)))) (pg_name (i := 14) sc__law_events.nd rfl (Or.inl rfl))
      (pss_one (ps_expr (pe_appendK (K := K) rfl (pe_bm PySem.F.plainAttrs_list PySem.F.slot_list_append PySem.F.type_list_append mt_append (pv 6) (pa_cons (pe_op (op_catTK (K := K) rfl) (pe_op (op_catTK (K := K) rfl) (pe_tup (pa_cons pe_str pa_nil)) (pv 14)) (pe_tup (pa_cons (pe_ix (ix_listK (K := K) rfl) (pe_lst (pa_cons pe_str (pa_cons pe_str (pa_cons pe_str pa_nil)))) (pe_op op_mod (pv 13) pe_int) (fun _ _ => rfl)) pa_nil))) pa_nil))))))
      (pss_cons (ps_set (i := 15) sc__law_events.nd rfl (Or.inl rfl) (pe_and (pv 12) (pe_one (pe_cmpR op_eq (pe_op op_and (pe_op op_shr (pe_ix (ix_tupK (K := K) rfl) (pe_ix (ix_listK (K := K) rfl) (pv 2) (pe_op op_add (pv 7) pe_int) (fun _ _ => rfl)) pe_int (fun _ _ => rfl)) (pv 4)) pe_int) pe_int (nomark _)))))
      (pss_one (ps_if (PW.pt (pw_or (pt_nameK (K := K) rfl (pv 15)) (pw_or1 (PW.pt (pw_and (pt_not (pt_nameK (K := K) rfl (pv 12))) (pw_and1 (pt_cmpR op_lt (pe_op op_add (pv 7) pe_int) (pe_callB (call_lenK (K := K) rfl) (by rfl) h_len PySem.boot_len (pa_cons (pv 2) pa_nil)) (nomark _)))))))) (pss_one (ps_expr (pe_appendK (K := K) rfl (pe_bm PySem.F.plainAttrs_list PySem.F.slot_list_append PySem.F.type_list_append mt_append (pv 6) (pa_cons (pe_tup (pa_cons pe_str (pa_cons (pe_op op_add (pv 5) (pv 7)) pa_nil))) pa_nil))))) pss_nil))))))))) pss_nil))))
      (pss_one (ps_ret (pv 6))))), ?_⟩
  obtain ⟨ns, hs, xm, xr, M, Rs, hand, ha, la, hb, h4, hc, hm, mk, lM, hd, hr, lR, rw', q0, hq, kk⟩ := h
  obtain ⟨q, rfl⟩ : ∃ z : Nat, q = (z : Int) := ⟨q.toNat, by omega⟩
  rw [Int.toNat_natCast] at hq
  have q4 : q < 4 := by have := (List.getElem?_eq_some_iff.mp hq).1; have := h4.ln; omega
  have lm := Paired.length hm
  have lr := Paired.length hr
  have O0 : Ords (Cof hs M Rs n) (Cof hs M Rs n).R := by
    refine ⟨fun k hk => ?_, fun k _ => .refl _, fun k _ => rfl⟩
    have hk : k < M.length := hk
    have e : Rs[k]? = some (Rs.getD k []) := by rw [List.getD_eq_getElem?_getD, List.getElem?_eq_getElem (by omega)]; rfl
    exact (rw'.ok k _ e).1
  have hM0 : Stn M (Cof hs M Rs n).R q 0 (.idle 0) := fun t ht => by
    have := mk.z t ht
    rw [if_neg (fun z => by rw [this.2.2.1, bt0] at z; cases z.1)]
    exact ⟨0, Nat.le_refl _, rfl⟩
  generalize hC : Cof hs M Rs n = C at *
  have CL : C.L = M.length := by rw [← hC]; rfl
  have Cn : C.num = n := by rw [← hC]; rfl
  have CR : ∀ k R, Rs[k]? = some R → C.R k = R := fun k R h => by rw [← hC]; show Rs.getD k [] = R; rw [List.getD_eq_getElem?_getD, h]; rfl
  have CS : ∀ k t, M[k]? = some t → C.S k = (setN hs t.1, setN hs t.2.1, setN hs t.2.2) := fun k t h => by
    rw [← hC]
    show (setN hs (M.getD k (0, 0, 0)).1, setN hs (M.getD k (0, 0, 0)).2.1, setN hs (M.getD k (0, 0, 0)).2.2) = _
    rw [List.getD_eq_getElem?_getD, h]
    rfl
  clean_wf
  intro l H1 hl s1 g1
  have hc1 := s1.seq hc
  clean_wf
  refine ⟨_, rfl, by omega, by omega, ?_⟩
  refine for_range (fun i σ A => ∃ (w7 w8 w9 w10 w11 w12 w13 w14 w15 : Option V) (evs : List V) (es : List Ev) (O : Nat → List Kal) (s : Pst), σ = [some (.ref a), some (.ref b), some (.ref c), some (.ref d), some (.int q), some (.int n), some (.ref l), w7, w8, w9, w10, w11, w12, w13, w14, w15] ∧ Same H A ∧ A l = some (.lst evs) ∧ Paired (EvA A) evs es ∧ es.length ≤ 7 * i ∧ Ords C O ∧ Rn C O hand es s ∧ s.top ≤ i ∧ Stn M O q i s ∧ ∀ e ∈ es, wyO e) ⟨none, none, none, none, none, none, none, none, none, [], [], C.R, .idle 0, rfl, s1, g1, .nil, Nat.zero_le _, O0, .nil, Nat.le_refl _, hM0, (fun _ z => nomatch z)⟩ ?_ ?_
  · rintro i σ A hi ⟨w7, w8, w9, w10, w11, w12, w13, w14, w15, evs, es, O, s, rfl, sA, gl, hev, le, ord, rn, top, stn, wy⟩
    have hi' : i < M.length := by have : i < xm.length := by simpa using hi
                                  omega
    obtain ⟨tm, htm⟩ : ∃ t, M[i]? = some t := ⟨_, List.getElem?_eq_getElem hi'⟩
    obtain ⟨R, hRi⟩ : ∃ R, Rs[i]? = some R := ⟨_, List.getElem?_eq_getElem (by omega)⟩
    obtain ⟨vm, hvm, tA⟩ := pair_at hm htm
    obtain ⟨vr, hvr, rA⟩ := pair_at hr hRi
    obtain ⟨t', rfl, ft⟩ := tA.up (.same sA)
    obtain ⟨l2, xs, rfl, fl, px⟩ := rA.same sA
    have hcA := sA.seq hc
    have hdA := sA.seq hd
    have ac : atI xm (0 + (i : Int)) = some (.ref t') := by rw [Int.zero_add]; exact atI_nat hvm
    have ad : atI xr (0 + (i : Int)) = some (.ref l2) := by rw [Int.zero_add]; exact atI_nat hvr
    have st := SqT.of (K := K) ft
    obtain ⟨m1, m2, m3, un⟩ := mk.at htm
    obtain ⟨okR, lR5, kgR⟩ := rw'.ok i R hRi
    have lev := Paired.length hev
    clean_wf
    rw [shrN (by omega) q]
    refine ite2 (fun bit => ?_) fun bit => ?_
    · have hbA := sA.seq hb
      have glA := SqL.of (K := K) gl
      clean_wf
      refine ⟨b, _, rfl, hs, hbA, h4, by omega, by omega, fun n1 S1 => ?_⟩
      clean_wf
      refine ⟨b, _, rfl, hs, hbA, h4, by omega, by omega, fun n2 S2 => ?_⟩
      clean_wf
      refine ⟨b, _, rfl, hs, hbA, h4, by omega, by omega, fun n3 S3 => ?_⟩
      have eS : C.S i = (n1, n2, n3) := by rw [CS i tm htm, ← S1.eq, ← S2.eq, ← S3.eq]
      clean_wf
      intro z B1 hz s2 g2
      have gl1 := s2 _ _ gl
      clean_wf
      intro B2 b2 gl2
      have su1 : SmH A B2 := (SmH.same s2).trans (SmH.but b2 gl1 (by intro _ z; cases z))
      have sB2 : Same H B2 := b2.same (sA.trans s2) hl
      have nzl : z ≠ l := ne_of g2 gl1 (by intro z; cases z)
      have ev1 : EvA B2 (.ref z) (.L (C.num + i) (C.S i)) := by
        rw [eS, Cn]
        have := b2.at nzl g2
        rw [Int.zero_add] at this
        exact ⟨z, rfl, this, S1.1, S2.1, S3.1⟩
      have hev2 : Paired (EvA B2) (evs ++ [.ref z]) (es ++ [.L (C.num + i) (C.S i)]) := pair_app (Paired.mapP hev fun _ _ y => y.up su1) (.cons ev1 .nil)
      have h1 : hasB (C.S i).1 hand = bt tm.1 q := by rw [eS]; exact S1.has h4 hq
      have h2 : hasB (C.S i).2.1 hand = bt tm.2.1 q := by rw [eS]; exact S2.has h4 hq
      have h3 : hasB (C.S i).2.2 hand = bt tm.2.2 q := by rw [eS]; exact S3.has h4 hq
      have hcB := sB2.seq hc
      have hdB := sB2.seq hd
      obtain ⟨l3, xs3, el3, fl3, px3⟩ := rA.same sB2
      cases el3
      have slB := SqL.of (K := K) fl3
      have lxs := Paired.length px3
      refine x_cut (fun σ' A' => B2 = A' ∧ σ' = [some (.ref a), some (.ref b), some (.ref c), some (.ref d), some (.int q), some (.int n), some (.ref l), some (.int (0 + (i : Int))), some (.int tm.1), some (.int tm.2.1), some (.int tm.2.2), some (.int (xs3.length : Nat)), w12, w13, w14, w15]) ?_ fun N rest => ?_
      rotate_left
      · clean_wf
        exact rest _ _ ⟨rfl, rfl⟩
      rintro σ' _ ⟨rfl, rfl⟩
      refine x_cut (fun σ' A' => B2 = A' ∧ σ' = [some (.ref a), some (.ref b), some (.ref c), some (.ref d), some (.int q), some (.int n), some (.ref l), some (.int (0 + (i : Int))), some (.int tm.1), some (.int tm.2.1), some (.int tm.2.2), some (.int (xs3.length : Nat)), some (.bl (stB M i q)), w13, w14, w15]) ?_ fun N rest => ?_
      rotate_left
      · by_cases e : i + 1 < M.length
        · obtain ⟨u, hu'⟩ : ∃ u, M[i + 1]? = some u := ⟨_, List.getElem?_eq_getElem e⟩
          obtain ⟨vu, hvu, uA⟩ := pair_at hm hu'
          obtain ⟨tu, rfl, fu⟩ := uA.up (.same sB2)
          have stu := SqT.of (K := K) fu
          have au : atI xm (0 + (i : Int) + 1) = some (.ref tu) := by rw [show 0 + (i : Int) + 1 = ((i + 1 : Nat) : Int) by omega]; exact atI_nat hvu
          have eb : stB M i q = bt u.2.1 q := by unfold stB; rw [hu']
          have ub := (mk.at hu').2.1
          clean_wf
          rw [decide_eq_true (show 0 + (i : Int) + 1 < ((xm.length : Nat) : Int) by omega)]
          clean_wf
          rw [shrN ub.1 q, ← eb]
          exact rest _ _ ⟨rfl, rfl⟩
        · have eb : stB M i q = false := by unfold stB; rw [List.getElem?_eq_none (by omega)]
          rw [eb] at rest
          clean_wf
          rw [decide_eq_false (show ¬ 0 + (i : Int) + 1 < ((xm.length : Nat) : Int) by omega)]
          clean_wf
          exact rest _ _ ⟨rfl, rfl⟩
      rintro σ' _ ⟨rfl, rfl⟩
      have haB := sB2.seq ha
      have m5 : CMul 5 (q : Int) := .inl ⟨by decide, by decide⟩
      have m9 : CMul 9 (q : Int) := .inl ⟨by decide, by decide⟩
      have m4' : CMul 4 (0 + (i : Int)) := .inl ⟨by decide, by decide⟩
      clean_wf
      refine ⟨a, _, rfl, ns, haB, by omega, by omega, la, fun cl B3 hcl s3 => ?_⟩
      refine x_cut (fun σ' A' => B3 = A' ∧ ∃ j : Nat, σ' = [some (.ref a), some (.ref b), some (.ref c), some (.ref d), some (.int q), some (.int n), some (.ref l), some (.int (0 + (i : Int))), some (.int tm.1), some (.int tm.2.1), some (.int tm.2.2), some (.int j), some (.bl (stB M i q)), some (.int cl), w14, w15] ∧ j ≤ R.length ∧ (stB M i q = true → j = R.length)) ?_ fun N rest => ?_
      rotate_left
      · cases e : stB M i q with
        | true =>
          rw [e] at rest
          clean_wf
          exact rest _ _ ⟨rfl, _, rfl, by omega, fun _ => by omega⟩
        | false =>
          rw [e] at rest
          have lj := lit (c := cl) (m := ((xs3.length : Nat) : Int) + 1) (by omega)
          clean_wf
          refine rest _ _ ⟨rfl, (cl % (((xs3.length : Nat) : Int) + 1)).toNat, ?_, by omega, fun z => by cases z⟩
          rw [Int.toNat_of_nonneg lj.1]
          rfl
      rintro σ' _ ⟨rfl, j, rfl, jle, jall⟩
      have haB3 := s3.seq haB
      have hdB3 := s3.seq hdB
      have fl33 := SqL.of (K := K) (s3 _ _ fl3)
      clean_wf
      refine ⟨a, l2, _, rfl, ns, xs3, R, n + i, haB3, la, fl33, Paired.mapP px3 fun _ _ y => y.up (.same s3), okR, lR5, by omega, by omega, fun B4 f ys Oi s4 hf gf pO okO pm fl' => ?_⟩
      have lO := pm.length_eq
      have lys := Paired.length pO
      have slf := SqL.of (K := K) gf
      clean_wf
      intro g B5 hg s5 gg
      rw [cut_take ys j (by omega)] at gg
      refine ⟨g, rfl, ⟨_, SqL.of gg⟩, ?_⟩
      have s35 : Same B2 B5 := s3.trans (s4.trans s5)
      have gl5 := s35 _ _ gl2
      obtain ⟨why, hwhy, lwhy⟩ := why3 (cl % 3) (lit (c := cl) (m := 3) (by decide)).1 (lit (c := cl) (m := 3) (by decide)).2
      have pO5 : Paired (KlA B5) (ys.take j) (Oi.take j) := pair_take j (Paired.mapP pO fun _ _ y => y.up (.same s5))
      have nlg : l ≠ g := ne_of_none (s3.trans s4 _ _ gl2) hg
      refine for_list (K := K) (a := g) (xs := ys.take j) (fun i' σ A' => ∃ (w14 : Option V) (evs' : List V), σ = [some (.ref a), some (.ref b), some (.ref c), some (.ref d), some (.int q), some (.int n), some (.ref l), some (.int (0 + (i : Int))), some (.int tm.1), some (.int tm.2.1), some (.int tm.2.2), some (.int j), some (.bl (stB M i q)), some (.int cl), w14, w15] ∧ Same H A' ∧ SmH B5 A' ∧ A' g = some (.lst (ys.take j)) ∧ A' l = some (.lst evs') ∧ Paired (EvA A') evs' (es ++ [.L (C.num + i) (C.S i)] ++ ((Oi.take j).take i').map fun x => .T x why) ∧ i' ≤ j) ⟨w14, _, rfl, sB2.trans s35, .refl _, gg, gl5, by rw [List.take_zero, List.map_nil, List.append_nil]; exact Paired.mapP hev2 fun _ _ y => y.up (.same s35), Nat.zero_le _⟩ (fun i' σ A' _ z => by obtain ⟨_, _, _, _, _, z, _⟩ := z; exact SqL.of z) ?_ ?_
      · rintro i' x σ A' hx ⟨v14, evs', rfl, sA', su', gg', gl', hev', ij⟩
        obtain ⟨xk, hxk, kx⟩ := pair_to pO5 hx
        obtain ⟨tt, nv, cv, rfl, f1, f2, f3⟩ := kx.up su'
        have il := (List.getElem?_eq_some_iff.mp hx).1
        have il2 := List.length_take_le j ys
        have lev' := Paired.length hev'
        rw [List.length_append, List.length_append, List.length_map, List.length_singleton] at lev'
        have le3 := List.length_take_le i' (Oi.take j)
        have xR : xk ∈ R := pm.mem_iff.mp (List.mem_of_mem_take (List.mem_of_getElem? hxk))
        obtain ⟨k1, k2, k3', k4⟩ := kgR xk xR
        obtain ⟨k5, k6⟩ := okR.rg xk xR
        clean_wf
        intro z1 A1 hz1 t1 e1
        clean_wf
        refine x_catT e1 (t1 _ _ f1) (by show 1 + 4 ≤ 1000; omega) fun z2 A2 hz2 t2 e2 => ?_
        clean_wf
        intro z3 A3 hz3 t3 e3
        have sk := SqL.of (K := K) e3
        clean_wf
        intro z4 A4 hz4 t4 e4
        clean_wf
        refine x_catT (t4 _ _ (t3 _ _ e2)) e4 (by show 5 + 1 ≤ 1000; omega) fun z5 A5 hz5 t5 e5 => ?_
        have t05 := t1.trans (t2.trans (t3.trans (t4.trans t5)))
        have gl5' := t05 _ _ gl'
        have ls : evs'.length < sizeLine := small1000 (by omega)
        clean_wf
        intro A6 b6 g6
        have su6 : SmH A5 A6 := SmH.but b6 gl5' (by intro _ z; cases z)
        have su06 : SmH A' A6 := (SmH.same t05).trans su6
        have ez : EvA A6 (.ref z5) (.T xk why) := ⟨z5, nv, cv, rfl, su6 _ _ e5, f2.up su06, f3.up su06, k1, k2, k6, k5, k3', k4⟩
        refine ⟨_, _, rfl, b6.same (sA'.trans t05) hl, su'.trans su06, b6.at nlg.symm (t05 _ _ gg'), g6, ?_, by omega⟩
        rw [take_get hxk, List.map_append, ← List.append_assoc]
        exact pair_app (Paired.mapP hev' fun _ _ y => y.up su06) (.cons ez .nil)
      rintro σ A' ⟨v14, evs', rfl, sA', su', gg', gl', hev', _⟩
      rw [List.take_of_length_le (by rw [List.length_take, List.length_take]; omega)] at hev'
      have okO' : K80.Ok (C.num + i) Oi := by rw [Cn]; exact okO
      have eR := CR i R hRi
      have ord' := ord.upd (i := i) okO' (by rw [eR]; exact pm) (by rw [eR]; exact fl')
      have rn' : Rn C (updO O i Oi) hand es s := rn.congr fun k hk => if_neg (by omega)
      have stn' : Stn M (updO O i Oi) q i s := fun t ht => by
        have := stn t ht
        split
        · rename_i c1
          rw [if_pos c1] at this
          obtain ⟨k, e1, e2⟩ := this
          refine ⟨k, e1, ?_⟩
          rw [e2, show updO O i Oi k = O k from if_neg (by omega)]
        · rename_i c1
          rw [if_neg c1] at this
          exact this
      have r1 := rn'.more mk q4 stn' htm bit (by omega) h1 h2 h3
      have wy2 := wy_takes (n := C.num + i) (s := C.S i) (l := Oi.take j) wy lwhy
      have r2 := r1.takes (why := why) j (by rw [updO_at]; omega)
      rw [updO_at] at r2
      have lev2 : (es ++ [Ev.L (C.num + i) (C.S i)] ++ (Oi.take j).map fun x => Ev.T x why).length ≤ 7 * i + 6 := by
        rw [List.length_append, List.length_append, List.length_map, List.length_singleton, List.length_take]; omega
      have lev3 := Paired.length hev'
      have ls : evs'.length < sizeLine := small1000 (by omega)
      have hcC := sA'.seq hc
      dsimp only
      have slc := hcC
      cases hu1 : M[i + 1]? with
      | none =>
        have e : stB M i q = false := by unfold stB; rw [hu1]
        have il := List.getElem?_eq_none_iff.mp hu1
        rw [e]
        clean_wf
        rw [decide_eq_false (show ¬ 0 + (i : Int) + 1 < ((xm.length : Nat) : Int) by omega)]
        clean_wf
        exact ⟨_, _, _, _, _, _, _, _, _, _, _, _, _, rfl, sA', gl', hev', by omega, ord', r2, Nat.le_refl _, (fun t ht => by rw [hu1] at ht; cases ht), wy2⟩
      | some u =>
        have il := (List.getElem?_eq_some_iff.mp hu1).1
        obtain ⟨vu, hvu, uA⟩ := pair_at hm hu1
        obtain ⟨tu, rfl, fu⟩ := uA.up (.same sA')
        have stu := SqT.of (K := K) fu
        have au : atI xm (0 + (i : Int) + 1) = some (.ref tu) := by rw [show 0 + (i : Int) + 1 = ((i + 1 : Nat) : Int) by omega]; exact atI_nat hvu
        have eb : stB M i q = bt u.2.1 q := by unfold stB; rw [hu1]
        have ub := (mk.at hu1).1
        have goOut : (¬ (bt u.2.1 q = true ∧ bt u.1 q = true)) → ∀ (z : Addr) (A1 A2 : Hp), A' z = none → Same A' A1 → A1 z = some (.tup [.str "out", .int (n + (0 + (i : Int)))]) → But l A1 A2 → A2 l = some (.lst (evs' ++ [.ref z])) → Same H A2 ∧ Paired (EvA A2) (evs' ++ [.ref z]) (es ++ [Ev.L (C.num + i) (C.S i)] ++ ((Oi.take j).map fun x => Ev.T x why) ++ [.O (C.num + i)]) ∧ Rn C (updO O i Oi) hand (es ++ [Ev.L (C.num + i) (C.S i)] ++ ((Oi.take j).map fun x => Ev.T x why) ++ [.O (C.num + i)]) (.idle (i + 1)) ∧ Stn M (updO O i Oi) q (i + 1) (.idle (i + 1)) := fun nu z A1 A2 hz t1 e1 b1 e2 => by
          have gl1 := t1 _ _ gl'
          have su1 : SmH A1 A2 := SmH.but b1 gl1 (by intro _ z; cases z)
          refine ⟨b1.same (sA'.trans t1) hl, pair_app (Paired.mapP hev' fun _ _ y => y.up ((SmH.same t1).trans su1)) (.cons ⟨z, rfl, ?_⟩ .nil), .out r2, fun t ht => ?_⟩
          · have := su1 _ _ e1
            rw [Int.zero_add] at this
            rw [Cn]
            exact this
          · rw [hu1] at ht
            cases ht
            rw [if_neg nu]
            exact ⟨_, Nat.le_refl _, rfl⟩
        have sC : ((i : Int) + 1 < ((xm.length : Nat) : Int)) := by omega
        cases e1 : bt u.2.1 q with
        | false =>
          rw [eb, e1]
          clean_wf
          rw [decide_eq_true (show 0 + (i : Int) + 1 < ((xm.length : Nat) : Int) by omega)]
          clean_wf
          intro z A1 hz t1 g1'
          have gl1 := t1 _ _ gl'
          clean_wf
          intro A2 b2' g2'
          obtain ⟨x1, x2, x3, x4⟩ := goOut (fun w => by rw [e1] at w; cases w.1) z A1 A2 hz t1 g1' b2' g2'
          exact ⟨_, _, _, _, _, _, _, _, _, _, _, _, _, rfl, x1, g2', x2, by rw [List.length_append, List.length_singleton]; omega, ord', x3, Nat.le_refl _, x4, wy_out wy2⟩
        | true =>
          rw [eb, e1]
          have jR : j = R.length := jall (by rw [eb]; exact e1)
          clean_wf
          rw [shrZ (by omega) q]
          cases e2 : bt u.1 q with
          | false =>
            clean_wf
            intro z A1 hz t1 g1'
            have gl1 := t1 _ _ gl'
            clean_wf
            intro A2 b2' g2'
            obtain ⟨x1, x2, x3, x4⟩ := goOut (fun w => by rw [e2] at w; cases w.2) z A1 A2 hz t1 g1' b2' g2'
            exact ⟨_, _, _, _, _, _, _, _, _, _, _, _, _, rfl, x1, g2', x2, by rw [List.length_append, List.length_singleton]; omega, ord', x3, Nat.le_refl _, x4, wy_out wy2⟩
          | true =>
            clean_wf
            refine ⟨_, _, _, _, _, _, _, _, _, _, _, _, _, rfl, sA', gl', hev', by omega, ord', r2, Nat.le_refl _, fun t ht => ?_, wy2⟩
            rw [hu1] at ht
            cases ht
            rw [if_pos ⟨e1, e2⟩]
            refine ⟨i, rfl, ?_⟩
            rw [updO_at]
            congr 1
            omega
    · have bit := Bool.eq_false_iff.mpr bit
      exact ⟨_, _, _, _, _, _, _, _, _, evs, es, O, s, rfl, sA, gl, hev, by omega, ord, rn, by omega, stn.no mk q4 htm bit, wy⟩
  rintro σ A ⟨w7, w8, w9, w10, w11, w12, w13, w14, w15, evs, es, O, s, rfl, sA, gl, hev, le, ord, rn, top, stn, wy⟩
  clean_wf
  refine kk A l evs es O sA hl gl hev (by omega) ord ?_ wy
  have := rn.pth (fs := []) .nil
  rwa [List.append_nil] at this
end
end K80


namespace K80
open PySem L2
abbrev s__law_told : Stmt := top 31
section
variable {P : Program} {w : World} {K : PySem.W.Frag} {mg : Str → Option Value} {base : Heap}

structure Told (C : Ctx) (ts : List (Int × List Ev)) : Prop where
  ln : ts.length ≤ 4
  ok : ∀ t ∈ ts, (0 ≤ t.1 ∧ t.1 < 63) ∧ ∃ O, Ords C O ∧ Pth C O t.1 (.idle 0) t.2
  le : ∀ t ∈ ts, t.2.length ≤ 28
  wy : ∀ t ∈ ts, ∀ e ∈ t.2, wyO e
theorem Told.n {C : Ctx} {ts : List (Int × List Ev)} (h : Told C ts) : evN ts ≤ 200 := by
  have key : ∀ l : List (Int × List Ev), (∀ t ∈ l, t.2.length ≤ 28) → evN l ≤ 28 * l.length := by
    intro l
    induction l with
    | nil => intro _; exact Nat.zero_le _
    | cons t l ih =>
      intro h
      have h1 := h t List.mem_cons_self
      have h2 := ih fun t ht => h t (List.mem_cons_of_mem _ ht)
      have e : evN (t :: l) = t.2.length + evN l := by
        unfold evN
        rw [List.map_cons, List.sum_cons]
      rw [e, List.length_cons]
      omega
  have := key ts h.le
  have := h.ln
  omega
theorem Told.of {C : Ctx} {ts us : List (Int × List Ev)} (h : Told C ts) (l : us.length ≤ 4) (s : ∀ u ∈ us, ∃ t ∈ ts, u.1 = t.1 ∧ ∃ k, u.2 = t.2.take k) : Told C us := by
  refine ⟨l, fun u hu => ?_, fun u hu => ?_, fun u hu e he => ?_⟩
  · obtain ⟨t, ht, e1, k, e2⟩ := s u hu
    obtain ⟨a, O, b, c⟩ := h.ok t ht
    rw [e1, e2]
    exact ⟨a, O, b, c.take_pre k⟩
  · obtain ⟨t, ht, e1, k, e2⟩ := s u hu
    have := h.le t ht
    rw [e2, List.length_take]
    omega
  · obtain ⟨t, ht, e1, k, e2⟩ := s u hu
    rw [e2] at he
    exact h.wy t ht e (List.mem_of_mem_take he)
theorem RwsOk.snoc {n : Int} {Rs : List (List Kal)} (h : RwsOk n Rs) {R : List Kal} (a : Ok (n + (Rs.length : Nat)) R) (b : R.length ≤ 5) (c : ∀ x ∈ R, KG x) : RwsOk n (Rs ++ [R]) := by
  refine ⟨fun k S hk => ?_⟩
  rcases Nat.lt_or_ge k Rs.length with l | l
  · rw [List.getElem?_append_left l] at hk
    exact h.ok k S hk
  · rw [List.getElem?_append_right l] at hk
    have hl := (List.getElem?_eq_some_iff.mp hk).1
    rw [List.length_singleton] at hl
    have e : k = Rs.length := by omega
    rw [e, Nat.sub_self] at hk
    cases hk
    rw [e]
    exact ⟨a, b, c⟩

def HsB (D : Addr) (H : Hp) (v : V) (h : Int × List Ev) : Prop := ∃ t l evs, v = .ref t ∧ H t = some (.tup [.int h.1, .ref l]) ∧ H l = some (.lst evs) ∧ l ≠ D ∧ Paired (EvA H) evs h.2
theorem HsB.a {D : Addr} {H : Hp} {v : V} {h : Int × List Ev} (x : HsB D H v h) : HsA H v h := by
  obtain ⟨t, l, evs, e1, e2, e3, _, e4⟩ := x
  exact ⟨t, l, evs, e1, e2, e3, e4⟩
theorem HsB.but {D : Addr} {H H1 : Hp} {xs ys : List V} {v : V} {h : Int × List Ev} (x : HsB D H v h) (s : Same H H1) (g : H1 D = some (.lst xs)) : HsB D (upd H1 D (.lst ys)) v h := by
  obtain ⟨t, l, evs, e1, e2, e3, ne, e4⟩ := x
  refine ⟨t, l, evs, e1, ?_, ?_, ne, Paired.mapP e4 fun _ _ y => y.up fun u zs e => ?_⟩
  · rw [upd_ne (ne_of (s _ _ e2) g (by intro z; cases z))]; exact s _ _ e2
  · rw [upd_ne ne]; exact s _ _ e3
  · rw [upd_ne (ne_of (s _ _ e) g (by intro z; cases z))]; exact s _ _ e
def sp__law_told (K : PySem.W.Frag) : Sp := fun vs H Q _ => ∃ (a : Addr), vs = [.ref a] ∧ ∃ (ns : List Int), SqL K H a (ns.map V.int) ∧ ns.length ≤ 1000 ∧ ∀ H' l xs ts C, Same H H' → H l = none → H' l = some (.lst xs) → Paired (HsA H') xs ts → ts.length = 4 → Told C ts → Q (.ref l) H'
theorem sc__law_told : FnScope ["_law_script", "_law_hands_here", "_law_number", "_law_masks_here", "_law_rows", "_law_k"] ["_law_script"] (defScope s__law_told) := ⟨rfl, rfl, rfl, by decide +kernel, rfl, by decide +kernel, by decide +kernel⟩
set_option maxHeartbeats 8000000 in
theorem ok__law_told {f f__law_pick f__law_hands f__law_masks f__law_calls f__law_events : Addr} {fd fd__law_pick fd__law_hands fd__law_masks fd__law_calls fd__law_events : FuncData} (F : Fun K "_law_told" "_law_told" s__law_told f fd)
    (G__law_pick : FnOk P w K mg base CX0 3 f__law_pick fd__law_pick ["_law_script", "_law_k"] (sp__law_pick K)) (C__law_pick : Cal K mg "_law_pick" f__law_pick fd__law_pick ["_law_script", "_law_k"])
    (G__law_hands : FnOk P w K mg base CX0 3 f__law_hands fd__law_hands ["_law_cell"] (sp__law_hands K)) (C__law_hands : Cal K mg "_law_hands" f__law_hands fd__law_hands ["_law_cell"])
    (G__law_masks : FnOk P w K mg base CX0 3 f__law_masks fd__law_masks ["_law_script", "_law_much"] (sp__law_masks K)) (C__law_masks : Cal K mg "_law_masks" f__law_masks fd__law_masks ["_law_script", "_law_much"])
    (G__law_calls : FnOk P w K mg base CX0 3 f__law_calls fd__law_calls ["_law_script", "_law_hands_here", "_law_mask", "_law_number", "_law_at"] (sp__law_calls K)) (C__law_calls : Cal K mg "_law_calls" f__law_calls fd__law_calls ["_law_script", "_law_hands_here", "_law_mask", "_law_number", "_law_at"])
    (G__law_events : FnOk P w K mg base CX0 3 f__law_events fd__law_events ["_law_script", "_law_hands_here", "_law_masks_here", "_law_rows", "_law_who", "_law_number"] (sp__law_events K)) (C__law_events : Cal K mg "_law_events" f__law_events fd__law_events ["_law_script", "_law_hands_here", "_law_masks_here", "_law_rows", "_law_who", "_law_number"]) (h_len : mg "len" = none) (h_range : mg "range" = none) : FnOk P w K mg base CX0 4 f fd ["_law_script"] (sp__law_told K) := by
  refine F.ok sc__law_told (fun vs H Q E h => ?_) (fun cdv A outer s H vs Q E hr h => ?_)
  · obtain ⟨a, rfl, _⟩ := h
    rfl
  obtain ⟨a, rfl, h⟩ := h
  have hu64 := hr.units
  have hu0 := hr.units0
  have hu := hu_of hr
  refine ⟨_, (pss_cons (ps_set (i := 1) sc__law_told.nd rfl (Or.inr rfl) (pcall G__law_hands C__law_hands hr (pa_cons (pcall G__law_pick C__law_pick hr (pa_cons (pv 0) (pa_cons pe_int pa_nil))) pa_nil)))
      (pss_cons (ps_set (i := 2) sc__law_told.nd rfl (Or.inr rfl) (pe_op op_mod (pe_op op_mul (pcall G__law_pick C__law_pick hr (pa_cons (pv 0) (pa_cons pe_int pa_nil))) pe_int) (pe_op op_pow pe_int pe_int)))
      (pss_cons (ps_set (i := 3) sc__law_told.nd rfl (Or.inr rfl) (pcall G__law_masks C__law_masks hr (pa_cons (pv 0) (pa_cons (pe_op op_add pe_int (pe_op op_mod (pcall G__law_pick C__law_pick hr (pa_cons (pv 0) (pa_cons pe_int pa_nil))) pe_int)) pa_nil))))
      (pss_cons (ps_set (i := 4) sc__law_told.nd rfl (Or.inr rfl) (pe_lst pa_nil))
      (pss_cons (ps_for PassesOwn.never rfl (pi_range1 rfl h_range (pa_cons (pe_callB (call_lenK (K := K) rfl) (by rfl) h_len PySem.boot_len (pa_cons (pv 3) pa_nil)) pa_nil)) (pg_name (i := 5) sc__law_told.nd rfl (Or.inl rfl))
      (pss_one (ps_expr (pe_appendK (K := K) rfl (pe_bm PySem.F.plainAttrs_list PySem.F.slot_list_append PySem.F.type_list_append mt_append (pv 4) (pa_cons (pcall G__law_calls C__law_calls hr (pa_cons (pv 0) (pa_cons (pv 1) (pa_cons (pe_ix (ix_tupK (K := K) rfl) (pe_ix (ix_listK (K := K) rfl) (pv 3) (pv 5) (fun _ _ => rfl)) pe_int (fun _ _ => rfl)) (pa_cons (pe_op op_add (pv 2) (pv 5)) (pa_cons (pe_op op_add pe_int (pe_op op_mul pe_int (pv 5))) pa_nil)))))) pa_nil))))))
      (pss_one (ps_ret (pe_comp ["_law_hands_here", "_law_script", "_law_masks_here", "_law_rows", "_law_number", "_law_who"] [some 1, some 0, some 3, some 4, some 2, none] rfl rfl (by kernel_rfl) (pi_range1 rfl h_range (pa_cons pe_int pa_nil)) (fun _ _ _ _ _ nd => pg_name (i := 5) nd rfl (Or.inl rfl)) (fun _ _ _ _ _ => pif_nil) (fun _ _ _ _ _ => (pe_tup (pa_cons (pe_ix (ix_listK (K := K) rfl) (pv 0) (pv 5) (fun _ _ => rfl)) (pa_cons (pcall G__law_events C__law_events hr (pa_cons (pv 1) (pa_cons (pv 0) (pa_cons (pv 2) (pa_cons (pv 3) (pa_cons (pv 5) (pa_cons (pv 4) pa_nil))))))) pa_nil)))))))))))), ?_⟩
  obtain ⟨ns, ha, la, kk⟩ := h
  clean_wf
  refine ⟨a, _, rfl, ns, ha, by omega, by omega, la, fun c1 H1 hc1 s1 => ?_⟩
  clean_wf
  refine ⟨c1, rfl, hc1.1, fun H2 hl hs s2 fhl ghl h4 => ?_⟩
  have s02 := s1.trans s2
  have ha2 := s02.seq ha
  have p18 : (0 : Int) < (10 : Int) ^ (18 : Int).toNat := Int.pow_pos (by decide)
  clean_wf
  refine ⟨a, _, rfl, ns, ha2, by omega, by omega, la, fun c2 H3 hc2 s3 => ?_⟩
  have mc2 : CMul c2 65537 := .inr ⟨by decide, by decide⟩
  have ha3 := s3.seq ha2
  clean_wf
  generalize c2 * 65537 % 10 ^ (18 : Int).toNat = n
  refine ⟨a, _, rfl, ns, ha3, by omega, by omega, la, fun c3 H4 hc3 s4 => ?_⟩
  have ha4 := s4.seq ha3
  have l4 := lit (c := c3) (m := 4) (by decide)
  clean_wf
  refine ⟨a, _, rfl, ns, ha4, la, by omega, by omega, fun H5 lm xm M s5 flm glm pM lM mk => ?_⟩
  clean_wf
  intro lr H6 flr s6 glr
  have lxm := Paired.length pM
  have s06 : Same H H6 := s02.trans (s3.trans (s4.trans (s5.trans s6)))
  have ghl6 := (s3.trans (s4.trans (s5.trans s6))) _ _ ghl
  have glm6 := s6 _ _ glm
  have pM6 : Paired (TrA H6) xm M := Paired.mapP pM fun _ _ y => y.up (.same s6)
  have slm := SqL.of (K := K) glm6
  clean_wf
  refine ⟨_, rfl, by omega, by omega, ?_⟩
  have hlr0 : H lr = none := (s02.trans (s3.trans (s4.trans s5))).free flr
  have nlh : hl ≠ lr := ne_of_none ((s3.trans (s4.trans s5)) _ _ ghl) flr
  have nlm : lm ≠ lr := ne_of_none glm flr
  refine for_range (fun i σ A => ∃ (w5 : Option V) (xr : List V) (Rs : List (List Kal)), σ = [some (.ref a), some (.ref hl), some (.int n), some (.ref lm), some (.ref lr), w5] ∧ Same H A ∧ SmH H6 A ∧ A hl = some (.lst (hs.map V.int)) ∧ A lm = some (.lst xm) ∧ A lr = some (.lst xr) ∧ Paired (fun v R => RwA A v R ∧ v ≠ .ref lr) xr Rs ∧ Rs.length = i ∧ RwsOk n Rs) ⟨none, [], [], rfl, s06, .refl _, ghl6, glm6, glr, .nil, rfl, ⟨fun k R h => by simp at h⟩⟩ ?_ ?_
  · rintro i σ A hi ⟨w5, xr, Rs, rfl, sA, su, gh, gm, gr, pr, lR, rok⟩
    have hi' : i < M.length := by have : i < xm.length := by simpa using hi
                                  omega
    obtain ⟨tm, htm⟩ : ∃ t, M[i]? = some t := ⟨_, List.getElem?_eq_getElem hi'⟩
    obtain ⟨vm, hvm, tA⟩ := pair_at pM6 htm
    obtain ⟨t', rfl, ft⟩ := tA.up su
    have haA := sA.seq ha
    have ac : atI xm (0 + (i : Int)) = some (.ref t') := by rw [Int.zero_add]; exact atI_nat hvm
    have st := SqT.of (K := K) ft
    have smA := SqL.of (K := K) gm
    have shA := SqL.of (K := K) gh
    have m1 := (mk.at htm).1
    have m7 : CMul 7 (0 + (i : Int)) := .inl ⟨by decide, by decide⟩
    clean_wf
    refine ⟨a, hl, _, _, _, rfl, ns, hs, haA, la, shA, h4, m1.1, m1.2, by omega, by omega, fun B l xs R sB hl' gl' pR okR lR5 kgR => ?_⟩
    have grB := sB _ _ gr
    have lxr := Paired.length pr
    have ls : xr.length < sizeLine := small1000 (by omega)
    clean_wf
    intro B2 b2 g2
    have suB : SmH B B2 := SmH.but b2 grB (by intro _ z; cases z)
    have nl : l ≠ lr := fun z => by rw [z, gr] at hl'; cases hl'
    refine ⟨_, _, Rs ++ [R], rfl, b2.same (sA.trans sB) hlr0, su.trans ((SmH.same sB).trans suB), b2.at nlh (sB _ _ gh), b2.at nlm (sB _ _ gm), g2, pair_app (Paired.mapP pr fun v S y => ?_) (.cons ⟨⟨l, xs, rfl, b2.at nl gl', Paired.mapP pR fun _ _ y => y.up suB⟩, fun z => nl (by cases z; rfl)⟩ .nil), by rw [List.length_append, lR]; rfl, rok.snoc ?_ lR5 kgR⟩
    · obtain ⟨⟨l1, x1, rfl, e2, e3⟩, ne⟩ := y
      exact ⟨⟨l1, x1, rfl, b2.at (fun z => ne (by rw [z])) (sB _ _ e2), Paired.mapP e3 fun _ _ y => y.up ((SmH.same sB).trans suB)⟩, ne⟩
    · rw [lR]
      rw [Int.zero_add] at okR
      exact okR
  rintro σ A ⟨w5, xr, Rs, rfl, sA, su, gh, gm, gr, pr, lR, rok⟩
  have pr' : Paired (RwA A) xr Rs := Paired.mapP pr fun _ _ y => y.1
  have pMA : Paired (TrA A) xm M := Paired.mapP pM6 fun _ _ y => y.up su
  have haA := sA.seq ha
  have l4h := h4.ln
  clean_wf
  refine ⟨4, rfl, by decide, by decide, fun D hD => ?_⟩
  have mA : Mks M := mk
  refine comp_range (fun i σ B => ∃ (v : Option V) (zs : List V) (ts : List (Int × List Ev)), σ = [some (.ref hl), some (.ref a), some (.ref lm), some (.ref lr), some (.int n), v] ∧ Same A B ∧ B D = some (.lst zs) ∧ Paired (HsB D B) zs ts ∧ ts.length = i ∧ Told (Cof hs M Rs n) ts) ⟨none, [], [], rfl, same_upd hD, upd_same, .nil, rfl, ⟨by decide, (fun _ z => nomatch z), (fun _ z => nomatch z), (fun _ z => nomatch z)⟩⟩ ?_ ?_
  · rintro i σ B hi ⟨v, zs, ts, rfl, sB, gD, pz, lt, told⟩
    have hi4 : i < 4 := hi
    obtain ⟨h, hh⟩ : ∃ h, hs[i]? = some h := ⟨hs[i]'(by omega), List.getElem?_eq_getElem (by omega)⟩
    have hr := h4.rg h (List.mem_of_getElem? hh)
    have ah : atI (hs.map V.int) (0 + (i : Int)) = some (.int h) := by
      rw [Int.zero_add]; exact atI_nat (by rw [List.getElem?_map, hh]; rfl)
    have haB := sB.seq haA
    have shB := SqL.of (K := K) (sB _ _ gh)
    have smB := SqL.of (K := K) (sB _ _ gm)
    have srB := SqL.of (K := K) (sB _ _ gr)
    have lz := Paired.length pz
    clean_wf
    refine ⟨a, hl, lm, lr, _, n, rfl, ns, hs, xm, xr, M, Rs, h, haB, la, shB, h4, smB, Paired.mapP pMA fun _ _ y => y.up (.same sB), mk, by omega, srB, Paired.mapP pr' fun _ _ y => y.same sB, by omega, rok, by omega, by rw [show (0 + (i : Int)).toNat = i by omega]; exact hh, fun B1 l evs es O s1 hl1 g1 pe le28 ord pth wy => ?_⟩
    clean_wf
    intro t B2 ht s2 g2
    have s12 := s1.trans s2
    refine ⟨zs, s12 _ _ gD, small1000 (by omega), _, _, ts ++ [(h, es)], rfl, fun b o z => ?_, upd_same, pair_app (Paired.mapP pz fun _ _ y => y.but s12 (s12 _ _ gD)) (.cons ?_ .nil), by rw [List.length_append, lt]; rfl, ⟨by rw [List.length_append, lt]; exact hi4, fun u hu => ?_, fun u hu => ?_, fun u hu => ?_⟩⟩
    · rw [upd_ne (ne_of_none z hD)]
      exact s12 _ _ (sB b o z)
    · have nl : l ≠ D := fun z => by rw [z, gD] at hl1; cases hl1
      have nt : t ≠ D := ne_of g2 (s12 _ _ gD) (by intro z; cases z)
      refine ⟨t, l, evs, rfl, ?_, ?_, nl, Paired.mapP pe fun _ _ y => y.up fun u xs e => ?_⟩
      · rw [upd_ne nt]; exact g2
      · rw [upd_ne nl]; exact s2 _ _ g1
      · rw [upd_ne (ne_of (s2 _ _ e) (s12 _ _ gD) (by intro z; cases z))]; exact s2 _ _ e
    · rcases List.mem_append.mp hu with z | z
      · exact told.ok u z
      · rw [List.mem_singleton.mp z]; exact ⟨hr, O, ord, pth⟩
    · rcases List.mem_append.mp hu with z | z
      · exact told.le u z
      · rw [List.mem_singleton.mp z]; exact le28
    · rcases List.mem_append.mp hu with z | z
      · exact told.wy u z
      · rw [List.mem_singleton.mp z]; exact wy
  rintro σ B ⟨v, zs, ts, rfl, sB, gD, pz, lt, told⟩
  exact kk B D zs ts _ (sA.trans sB) (sA.free hD) gD (Paired.mapP pz fun _ _ y => y.a) lt told
end
end K80


namespace K80
open PySem L2
section
variable {P : Program} {w : World} {K : PySem.W.Frag} {mg : Str → Option Value} {base : Heap}
def evD : Ev → PyData
  | .L n s => .tuple [.str "list", .int n, .int s.1, .int s.2.1, .int s.2.2]
  | .T x why => .tuple [.str "take", .tuple [.int x.nm.1, .int x.nm.2.1, .int x.nm.2.2], .str x.kd, .int x.wd, .tuple (x.cs.map prD), .str why]
  | .O n => .tuple [.str "out", .int n]
theorem EvA.dp {H : Hp} {v : V} {e : Ev} (h : EvA H v e) : Dp K H v (evD e) := by
  cases e with
  | L n s =>
    obtain ⟨t, rfl, ht, _⟩ := h
    exact .tup (SqT.of ht) (.cons (.str _) (.cons (.int _) (.cons (.int _) (.cons (.int _) (.cons (.int _) .nil)))))
  | T x why =>
    obtain ⟨t, nv, cv, rfl, ht, ⟨t2, rfl, h2⟩, ⟨t3, ys, rfl, h3, h4⟩, _⟩ := h
    exact .tup (SqT.of ht) (.cons (.str _) (.cons (.tup (SqT.of h2) (.cons (.int _) (.cons (.int _) (.cons (.int _) .nil)))) (.cons (.str _) (.cons (.int _) (.cons (.tup (SqT.of h3) h4.dps) (.cons (.str _) .nil))))))
  | O n =>
    obtain ⟨t, rfl, ht⟩ := h
    exact .tup (SqT.of ht) (.cons (.str _) (.cons (.int _) .nil))
theorem evs_dps {H : Hp} : ∀ {xs : List V} {es : List Ev}, Paired (EvA H) xs es → Dps K H xs (es.map evD)
  | _, _, .nil => .nil
  | _, _, .cons h t => .cons h.dp (evs_dps t)
theorem lay_tup {ds : List PyData} (h : PyData.canLayAll0 ds = true) : (PyData.tuple ds).canLay0 = true := by
  first | (rw [PyData.canLay0.eq_5]; exact h) | (rw [PyData.canLay0.eq_6]; exact h) | (rw [PyData.canLay0.eq_7]; exact h)
theorem lay_lst {ds : List PyData} (h : PyData.canLayAll0 ds = true) : (PyData.list ds).canLay0 = true := by
  rw [PyData.canLay0.eq_5]; exact h
theorem lay_all : ∀ {ds : List PyData}, (∀ d ∈ ds, d.canLay0 = true) → PyData.canLayAll0 ds = true
  | [], _ => rfl
  | d :: ds, h => by rw [PyData.canLayAll0.eq_2, h d List.mem_cons_self, lay_all fun d hd => h d (List.mem_cons_of_mem _ hd)]; rfl
theorem dep_all {k : Nat} : ∀ {ds : List PyData}, (∀ d ∈ ds, d.depth ≤ k) → PyData.depthAll ds ≤ k
  | [], _ => by rw [PyData.depthAll.eq_1]; omega
  | d :: ds, h => by
    have e : PyData.depthAll (d :: ds) = max d.depth (PyData.depthAll ds) := rfl
    have := h d List.mem_cons_self
    have := dep_all (ds := ds) fun d hd => h d (List.mem_cons_of_mem _ hd)
    omega
theorem lay_s1 : (PyData.str "take").canLay0 = true := by decide +kernel
theorem lay_s2 : (PyData.str "list").canLay0 = true := by decide +kernel
theorem lay_s3 : (PyData.str "out").canLay0 = true := by decide +kernel
theorem evD_lay {e : Ev} (w : wyO e) (h : ∀ x y, e = .T x y → (PyData.str x.kd).canLay0 = true) : (evD e).canLay0 = true := by
  cases e with
  | L n s =>
    refine lay_tup (lay_all fun d hd => ?_)
    simp only [List.mem_cons, List.not_mem_nil, or_false] at hd
    rcases hd with rfl | rfl | rfl | rfl | rfl
    · exact lay_s2
    all_goals rfl
  | T x why =>
    refine lay_tup (lay_all fun d hd => ?_)
    have hk := h x why rfl
    have w : (PyData.str why).canLay0 = true := w
    simp only [List.mem_cons, List.not_mem_nil, or_false] at hd
    rcases hd with rfl | rfl | rfl | rfl | rfl | rfl
    · exact lay_s1
    · rfl
    · exact hk
    · rfl
    · exact lay_tup (prs_lay _)
    · exact w
  | O n =>
    refine lay_tup (lay_all fun d hd => ?_)
    simp only [List.mem_cons, List.not_mem_nil, or_false] at hd
    rcases hd with rfl | rfl
    · exact lay_s3
    · rfl
theorem evD_dep (e : Ev) : (evD e).depth ≤ 3 := by
  cases e with
  | L n s => exact (by decide : 1 ≤ 3)
  | T x why =>
    have e : (evD (.T x why)).depth = max 0 (max 1 (max 0 (max 0 (max (PyData.depthAll (x.cs.map prD) + 1) (max 0 0))))) + 1 := rfl
    rw [e]
    have := prs_dep x.cs
    omega
  | O n => exact (by decide : 1 ≤ 3)
def hsD (t : Int × List Ev) : PyData := .tuple [.int t.1, .list (t.2.map evD)]
theorem HsA.dt {H : Hp} {v : V} {t : Int × List Ev} (h : HsA H v t) : DtL K H v (hsD t) := by
  obtain ⟨p, l, evs, rfl, e2, e3, e4⟩ := h
  exact ⟨p, _, _, rfl, rfl, SqT.of e2, .cons (.inl (.int _)) (.cons (.inr ⟨l, evs, _, rfl, rfl, SqL.of e3, evs_dps e4⟩) .nil)⟩
theorem hss_dts {H : Hp} : ∀ {xs : List V} {ts : List (Int × List Ev)}, Paired (HsA H) xs ts → Paired (DtL K H) xs (ts.map hsD)
  | _, _, .nil => .nil
  | _, _, .cons h t => .cons h.dt (hss_dts t)
theorem hs_kd {H : Hp} {v : V} {t : Int × List Ev} (h : HsA H v t) : ∀ e ∈ t.2, ∀ x y, e = .T x y → (PyData.str x.kd).canLay0 = true := by
  obtain ⟨p, l, evs, _, _, _, e4⟩ := h
  intro e he x y hxy
  obtain ⟨i, hi⟩ := List.getElem?_of_mem he
  obtain ⟨v, _, hv⟩ := pair_at e4 hi
  rw [hxy] at hv
  obtain ⟨_, _, _, _, _, _, _, _, _, _, _, _, z⟩ := hv
  exact z
theorem x_neT {H : Hp} {Q : VK} {a b : Addr} {xs ys : List V} {ts : List (Int × List Ev)} {C : Ctx} (ha : SqL K H a xs) (hb : SqL K H b ys) (hx : Paired (HsA H) xs ts) (hy : Paired (HsA H) ys ts) (t : Told C ts) (q : Q (.bl false) H) : rNeLT K (.ref a) (.ref b) H Q := by
  refine ⟨.list (ts.map hsD), ⟨a, xs, _, rfl, rfl, ha, hss_dts hx⟩, ⟨b, ys, _, rfl, rfl, hb, hss_dts hy⟩, lay_lst (lay_all fun d hd => ?_), ?_, q⟩
  · obtain ⟨u, hu, rfl⟩ := List.mem_map.mp hd
    obtain ⟨i, hi⟩ := List.getElem?_of_mem hu
    obtain ⟨v, _, hv⟩ := pair_at hx hi
    refine lay_tup (lay_all fun d hd => ?_)
    simp only [List.mem_cons, List.not_mem_nil, or_false] at hd
    rcases hd with rfl | rfl
    · rfl
    · refine lay_lst (lay_all fun d hd => ?_)
      obtain ⟨e, he, rfl⟩ := List.mem_map.mp hd
      exact evD_lay (t.wy u hu e he) (hs_kd hv e he)
  · have e : (PyData.list (ts.map hsD)).depth = PyData.depthAll (ts.map hsD) + 1 := rfl
    rw [e]
    have : PyData.depthAll (ts.map hsD) ≤ 5 := dep_all fun d hd => by
      obtain ⟨u, hu, rfl⟩ := List.mem_map.mp hd
      have e : (hsD u).depth = max 0 (max (PyData.depthAll (u.2.map evD) + 1) 0) + 1 := rfl
      rw [e]
      have : PyData.depthAll (u.2.map evD) ≤ 3 := dep_all fun d hd => by
        obtain ⟨e, _, rfl⟩ := List.mem_map.mp hd
        exact evD_dep e
      omega
    omega
theorem cut_drop (xs : List V) (k : Nat) (h : k ≤ xs.length) : cutV xs (some (k : Int)) none = xs.drop k := by
  unfold cutV
  have e1 : HT.sIx xs.length xs.length none = xs.length := rfl
  have e2 : HT.sIx xs.length 0 (some (k : Int)) = k := by
    show (if (k : Int) < 0 then ((k : Int) + (xs.length : Nat)).toNat else min (k : Int).toNat xs.length) = k
    rw [if_neg (by omega), Int.toNat_natCast]
    omega
  rw [e1, e2, List.take_of_length_le (by rw [List.length_drop]; omega)]
theorem pair_drop {α β : Type} {R : α → β → Prop} : ∀ {xs : List α} {ys : List β} (k : Nat), Paired R xs ys → Paired R (xs.drop k) (ys.drop k)
  | _, _, 0, h => h
  | _, _, _ + 1, .nil => .nil
  | _, _, k + 1, .cons _ t => pair_drop k t
theorem pair_rev {α β : Type} {R : α → β → Prop} : ∀ {xs : List α} {ys : List β}, Paired R xs ys → Paired R xs.reverse ys.reverse
  | _, _, .nil => .nil
  | _, _, .cons h t => by
    rw [List.reverse_cons, List.reverse_cons]
    exact pair_app (pair_rev t) (.cons h .nil)
theorem flt {H : Hp} {Q : VK} {E : XK} {a : Addr} {xs : List V} {ts : List (Int × List Ev)} {C : Ctx} (ha : SqL K H a xs) (px : Paired (HsA H) xs ts) (t : Told C ts) (q : ∀ H', Same H H' → Q .non H') : sp_fault K [.ref a] H Q E := ⟨a, rfl, C, xs, ts, ha, px, t.ok, t.n, q⟩
theorem Told.nil (C : Ctx) : Told C [] := ⟨by decide, (fun _ z => nomatch z), (fun _ z => nomatch z), (fun _ z => nomatch z)⟩
theorem Told.sub {C : Ctx} {ts us : List (Int × List Ev)} (h : Told C ts) (l : us.length ≤ 4) (s : ∀ u ∈ us, u ∈ ts) : Told C us := h.of l fun u hu => ⟨u, s u hu, rfl, u.2.length, (List.take_length).symm⟩
theorem hss_same {H H' : Hp} {xs : List V} {ts : List (Int × List Ev)} (px : Paired (HsA H) xs ts) (s : Same H H') : Paired (HsA H') xs ts := Paired.mapP px fun _ _ y => y.same s
theorem cut_ints' (ns : List Int) (lo hi : Option Int) : ∃ ms : List Int, cutV (ns.map V.int) lo hi = ms.map V.int ∧ ms.length ≤ ns.length := cut_ints ns lo hi
end
end K80


namespace K80
open PySem L2
abbrev s_law : Stmt := top 32
section
variable {P : Program} {w : World} {K : PySem.W.Frag} {mg : Str → Option Value} {base : Heap}
def sp_law (K : PySem.W.Frag) : Sp := fun vs H Q _ => ∃ (a : Addr) (ns : List Int), vs = [.ref a] ∧ SqL K H a (ns.map V.int) ∧ ns.length ≤ 63 ∧ ∀ H', Q (.bl true) H'
theorem sc_law : FnScope ["_law_script", "_law_told_here", "_law_handed", "_law_turn", "_law_cut"] ["_law_script"] (defScope s_law) := ⟨rfl, rfl, rfl, by decide +kernel, rfl, by decide +kernel, by decide +kernel⟩
set_option maxHeartbeats 8000000 in
theorem ok_law {f f_fault f__law_pick f__law_told : Addr} {fd fd_fault fd__law_pick fd__law_told : FuncData} (F : Fun K "law" "law" s_law f fd)
    (G_fault : FnOk P w K mg base CX0 5 f_fault fd_fault ["told"] (sp_fault K)) (C_fault : Cal K mg "fault" f_fault fd_fault ["told"])
    (G__law_pick : FnOk P w K mg base CX0 5 f__law_pick fd__law_pick ["_law_script", "_law_k"] (sp__law_pick K)) (C__law_pick : Cal K mg "_law_pick" f__law_pick fd__law_pick ["_law_script", "_law_k"])
    (G__law_told : FnOk P w K mg base CX0 5 f__law_told fd__law_told ["_law_script"] (sp__law_told K)) (C__law_told : Cal K mg "_law_told" f__law_told fd__law_told ["_law_script"]) (h_len : mg "len" = none) (h_list : mg "list" = none) : FnOk P w K mg base CX0 6 f fd ["_law_script"] (sp_law K) := by
  refine F.ok sc_law (fun vs H Q E h => ?_) (fun cdv A outer s H vs Q E hr h => ?_)
  · obtain ⟨a, ks, rfl, _⟩ := h
    rfl
  obtain ⟨a, ks, rfl, h⟩ := h
  have hu64 := hr.units
  have hu0 := hr.units0
  have hu := hu_of hr
  refine ⟨_, (pss_cons (ps_set (i := 0) sc_law.nd rfl (Or.inr rfl) (pe_slice (sl_listK (K := K) rfl) (pv 0) po_none (po_some pe_int)))
      (pss_cons (ps_set (i := 1) sc_law.nd rfl (Or.inl rfl) (pcall G__law_told C__law_told hr (pa_cons (pv 0) pa_nil)))
      (pss_cons (ps_comp (i := 2) ["_law_hand", "_law_events_here"] [none, none] sc_law.nd rfl (Or.inl rfl) rfl rfl (by kernel_rfl) (pi_listK (K := K) rfl (pv 1)) (fun _ _ _ _ _ nd => pg_tupK (K := K) (n := 2) rfl rfl (pgs_cons (pg_name (i := 0) nd rfl (Or.inl rfl)) (pgs_cons (pg_name (i := 1) nd rfl (Or.inl rfl)) pgs_nil))) (fun _ _ _ _ _ => pif_nil) (fun _ _ _ _ _ => (pe_tup (pa_cons (pv 0) (pa_cons (pe_callTy (call_listK (K := K) rfl) (by rfl) h_list PyProof.Rows.boot_list (pa_cons (pv 1) pa_nil)) pa_nil)))))
      (pss_cons (ps_if (PW.pt (pw_or (pt_cmpR op_notN (pcall G_fault C_fault hr (pa_cons (pv 2) pa_nil)) pe_non (nomark _)) (pw_or1 (pt_cmpR (op_neLT (K := K) rfl hu64) (pv 2) (pv 1) (nomark _))))) (pss_one (ps_ret pe_bl)) pss_nil)
      (pss_cons (ps_set (i := 3) sc_law.nd rfl (Or.inl rfl) (pe_op op_mod (pcall G__law_pick C__law_pick hr (pa_cons (pv 0) (pa_cons pe_int pa_nil))) pe_int))
      (pss_cons (ps_if (PW.pt (pw_or (pt_cmpR op_notN (pcall G_fault C_fault hr (pa_cons (pe_op op_cat (pe_slice (sl_listK (K := K) rfl) (pv 2) (po_some (pv 3)) po_none) (pe_slice (sl_listK (K := K) rfl) (pv 2) po_none (po_some (pv 3)))) pa_nil)) pe_non (nomark _)) (pw_or1 (pt_cmpR op_notN (pcall G_fault C_fault hr (pa_cons (pe_slice3 sl3_rev (pv 2) po_none po_none (po_some (pe_un un_neg pe_int))) pa_nil)) pe_non (nomark _))))) (pss_one (ps_ret pe_bl)) pss_nil)
      (pss_cons (ps_comp (i := 4) ["_law_script", "_law_hand", "_law_events_here"] [some 0, none, none] sc_law.nd rfl (Or.inl rfl) rfl rfl (by kernel_rfl) (pi_listK (K := K) rfl (pv 1)) (fun _ _ _ _ _ nd => pg_tupK (K := K) (n := 2) rfl rfl (pgs_cons (pg_name (i := 1) nd rfl (Or.inl rfl)) (pgs_cons (pg_name (i := 2) nd rfl (Or.inl rfl)) pgs_nil))) (fun _ _ _ _ _ => pif_nil) (fun _ _ _ _ _ => (pe_tup (pa_cons (pv 1) (pa_cons (pe_slice (sl_listK (K := K) rfl) (pv 2) po_none (po_some (pe_op op_mod (pcall G__law_pick C__law_pick hr (pa_cons (pv 0) (pa_cons (pv 1) pa_nil))) (pe_op op_add (pe_callB (call_lenK (K := K) rfl) (by rfl) h_len PySem.boot_len (pa_cons (pv 2) pa_nil)) pe_int)))) pa_nil)))))
      (pss_one (ps_ret (pe_and (pe_cmpR op_isN (pcall G_fault C_fault hr (pa_cons (pv 4) pa_nil)) pe_non (nomark _)) (pe_and (pe_cmpR op_isN (pcall G_fault C_fault hr (pa_cons (pe_slice3 sl3_rev (pv 4) po_none po_none (po_some (pe_un un_neg pe_int))) pa_nil)) pe_non (nomark _)) (pe_and (pe_cmpR op_isN (pcall G_fault C_fault hr (pa_cons (pv 1) pa_nil)) pe_non (nomark _)) (pe_one (pe_cmpR op_isN (pcall G_fault C_fault hr (pa_cons (pe_lst pa_nil) pa_nil)) pe_non (nomark _))))))))))))))), ?_⟩
  obtain ⟨hS, hlen, k⟩ := h
  clean_wf
  intro b H1 hb s1 g1
  obtain ⟨ns, ew, lw⟩ := cut_ints' ks none (some 63)
  rw [ew] at g1
  have sb := SqL.of (K := K) g1
  clean_wf
  refine ⟨b, rfl, ns, sb, by omega, fun H2 l xs ts C s2 hl gl px lt told => ?_⟩
  have gb2 := s2 _ _ g1
  have lx := Paired.length px
  have sl := SqL.of (K := K) gl
  clean_wf
  intro D hD
  refine comp_list (K := K) (a := l) (xs := xs) (fun i σ A => ∃ (v w : Option V) (zs : List V), σ = [v, w] ∧ Same H2 A ∧ A D = some (.lst zs) ∧ Paired (HsB D A) zs (ts.take i)) ⟨none, none, [], rfl, same_upd hD, upd_same, .nil⟩ (fun i σ A _ z => by obtain ⟨_, _, _, _, z, _⟩ := z; exact SqL.of (z _ _ gl)) ?_ ?_
  · rintro i x σ A hx ⟨v, w', zs, rfl, sA, gD, pz⟩
    obtain ⟨t, ht, hsa⟩ := pair_to px hx
    obtain ⟨p, l1, evs, rfl, f1, f2, f3⟩ := hsa.same sA
    have st := SqT.of (K := K) f1
    have sl1 := SqL.of (K := K) f2
    have lz := Paired.length pz
    have lt4 := List.length_take_le i ts
    have hit := (List.getElem?_eq_some_iff.mp ht).1
    have le28 := told.le t (List.mem_of_getElem? ht)
    have lev := Paired.length f3
    clean_wf
    intro q A1 hq s1' g1'
    clean_wf
    intro p2 A2 hp2 s2' g2'
    have s12 := s1'.trans s2'
    have nq : q ≠ D := fun z => by rw [z, gD] at hq; cases hq
    have np : p2 ≠ D := ne_of g2' (s12 _ _ gD) (by intro z; cases z)
    refine ⟨zs, s12 _ _ gD, small1000 (by omega), _, _, _, rfl, fun b o z => ?_, upd_same, ?_⟩
    · rw [upd_ne (ne_of_none z hD)]
      exact s12 _ _ (sA b o z)
    · rw [take_get ht]
      refine pair_app (Paired.mapP pz fun _ _ y => y.but s12 (s12 _ _ gD)) (.cons ⟨p2, q, evs, rfl, ?_, ?_, nq, Paired.mapP f3 fun _ _ y => y.up fun u xs e => ?_⟩ .nil)
      · rw [upd_ne np]; exact g2'
      · rw [upd_ne nq]; exact s2' _ _ g1'
      · rw [upd_ne (ne_of (s12 _ _ e) (s12 _ _ gD) (by intro z; cases z))]; exact s12 _ _ e
  rintro σ H3 ⟨v, w', zs, rfl, s3, gD, pz⟩
  rw [lx, List.take_length] at pz
  have pz : Paired (HsA H3) zs ts := Paired.mapP pz fun _ _ y => y.a
  have lz := Paired.length pz
  have px3 := hss_same px s3
  have gl3 := s3 _ _ gl
  have gb3 := s3 _ _ gb2
  clean_wf
  refine flt (SqL.of gD) pz told fun H4 s4 => ?_
  have gD4 := s4 _ _ gD
  have gl4 := s4 _ _ gl3
  have gb4 := s4 _ _ gb3
  have pz4 := hss_same pz s4
  have px4 := hss_same px3 s4
  clean_wf
  rw [nn_dec]
  clean_wf
  refine x_neT (SqL.of gD4) (SqL.of gl4) pz4 px4 told ?_
  have sD4 := SqL.of (K := K) gD4
  have sb4 := SqL.of (K := K) gb4
  have sl4 := SqL.of (K := K) gl4
  clean_wf
  refine ⟨b, _, rfl, ns, sb4, by omega, by omega, by omega, fun c H5 hc s5 => ?_⟩
  have l4 := lit (c := c) (m := 4) (by decide)
  have sD5 := SqL.of (K := K) (s5 _ _ gD4)
  clean_wf
  obtain ⟨j, ej⟩ : ∃ j : Nat, c % 4 = (j : Int) := ⟨(c % 4).toNat, by omega⟩
  rw [ej]
  intro e1 H6 he1 s6 g6
  rw [cut_drop zs j (by omega)] at g6
  have sD6 := s6.seq sD5
  clean_wf
  intro e2 H7 he2 s7 g7
  rw [cut_take zs j (by omega)] at g7
  clean_wf
  refine x_cat (s7 _ _ g6) g7 (by rw [List.length_drop, List.length_take]; omega) fun e3 H8 he3 s8 g8 => ?_
  have s58 : Same H4 H8 := s5.trans (s6.trans (s7.trans s8))
  have pz8 := hss_same pz4 s58
  clean_wf
  refine flt (SqL.of g8) (pair_app (pair_drop j pz8) (pair_take j pz8)) (told.sub ?_ ?_) fun H9 s9 => ?_
  · rw [List.length_append, List.length_drop, List.length_take]; omega
  · intro u hu
    rcases List.mem_append.mp hu with z | z
    · exact List.mem_of_mem_drop z
    · exact List.mem_of_mem_take z
  have s49 := s58.trans s9
  have sD9 := s49.seq sD4
  clean_wf
  rw [nn_dec]
  clean_wf
  refine ⟨rfl, rfl, rfl, D, zs, rfl, sD9, fun p10 hp10 => ?_⟩
  have s10 := same_upd (o := .lst zs.reverse) hp10
  have g10 : (upd H9 p10 (.lst zs.reverse)) p10 = some (.lst zs.reverse) := upd_same
  generalize upd H9 p10 (.lst zs.reverse) = H10 at s10 g10 ⊢
  clean_wf
  refine flt (SqL.of g10) (pair_rev (hss_same pz8 (s9.trans s10))) (told.sub (by rw [List.length_reverse]; omega) (fun u hu => List.mem_reverse.mp hu)) fun H11 s11 => ?_
  have s411 := s49.trans (s10.trans s11)
  have sb11 := s411.seq sb4
  have gl11 := s411 _ _ gl4
  have sl11 := SqL.of (K := K) gl11
  have px11 := hss_same px4 s411
  clean_wf
  rw [nn_dec]
  clean_wf
  intro E hE
  refine comp_list (K := K) (a := l) (xs := xs) (fun i σ A => ∃ (v w : Option V) (zs : List V) (us : List (Int × List Ev)), σ = [some (.ref b), v, w] ∧ Same H11 A ∧ A E = some (.lst zs) ∧ Paired (HsB E A) zs us ∧ us.length = i ∧ ∀ u ∈ us, ∃ t ∈ ts, u.1 = t.1 ∧ ∃ k, u.2 = t.2.take k) ⟨none, none, [], [], rfl, same_upd hE, upd_same, .nil, rfl, (fun _ z => nomatch z)⟩ (fun i σ A _ z => by obtain ⟨_, _, _, _, _, z, _⟩ := z; exact SqL.of (z _ _ gl11)) ?_ ?_
  · rintro i x σ A hx ⟨v, w', zs', us, rfl, sA, gE, pz', lu, hu'⟩
    obtain ⟨t, ht, hsa⟩ := pair_to px11 hx
    have rg := (told.ok t (List.mem_of_getElem? ht)).1
    obtain ⟨p, l1, evs, rfl, f1, f2, f3⟩ := hsa.same sA
    have st := SqT.of (K := K) f1
    have sbA := sA.seq sb11
    have lz' := Paired.length pz'
    have hit := (List.getElem?_eq_some_iff.mp ht).1
    have le28 := told.le t (List.mem_of_getElem? ht)
    have lev := Paired.length f3
    clean_wf
    refine ⟨b, _, rfl, ns, sbA, by omega, by omega, by omega, fun c A1 hc s1' => ?_⟩
    have f2' := SqL.of (K := K) (s1' _ _ f2)
    have lj := lit (c := c) (m := ((evs.length : Nat) : Int) + 1) (by omega)
    clean_wf
    intro q A2 hq s2' g2'
    obtain ⟨j', ej'⟩ : ∃ j : Nat, c % (((evs.length : Nat) : Int) + 1) = (j : Int) := ⟨(c % (((evs.length : Nat) : Int) + 1)).toNat, by omega⟩
    rw [ej', cut_take evs j' (by omega)] at g2'
    clean_wf
    intro p2 A3 hp2 s3' g3'
    have s13 := s1'.trans (s2'.trans s3')
    have nq : q ≠ E := fun z => by rw [z, s1' _ _ gE] at hq; cases hq
    have np : p2 ≠ E := ne_of g3' (s13 _ _ gE) (by intro z; cases z)
    refine ⟨zs', s13 _ _ gE, small1000 (by omega), _, _, _, us ++ [(t.1, t.2.take j')], rfl, fun b o z => ?_, upd_same, ?_, by rw [List.length_append, lu]; rfl, fun u hu => ?_⟩
    · rw [upd_ne (ne_of_none z hE)]
      exact s13 _ _ (sA b o z)
    · refine pair_app (Paired.mapP pz' fun _ _ y => y.but s13 (s13 _ _ gE)) (.cons ⟨p2, q, evs.take j', rfl, ?_, ?_, nq, Paired.mapP (pair_take j' f3) fun _ _ y => y.up fun u xs e => ?_⟩ .nil)
      · rw [upd_ne np]; exact g3'
      · rw [upd_ne nq]; exact s3' _ _ g2'
      · rw [upd_ne (ne_of (s13 _ _ e) (s13 _ _ gE) (by intro z; cases z))]; exact s13 _ _ e
    · rcases List.mem_append.mp hu with z | z
      · exact hu' u z
      · rw [List.mem_singleton.mp z]; exact ⟨t, List.mem_of_getElem? ht, rfl, j', rfl⟩
  rintro σ H12 ⟨v, w', zs', us, rfl, s12, gE, pz', lu, hu'⟩
  have pz' : Paired (HsA H12) zs' us := Paired.mapP pz' fun _ _ y => y.a
  have tc : Told C us := told.of (by omega) hu'
  clean_wf
  refine flt (SqL.of gE) pz' tc fun H13 s13 => ?_
  have sE13 := SqL.of (K := K) (s13 _ _ gE)
  clean_wf
  rw [nn_dec]
  clean_wf
  refine ⟨rfl, rfl, rfl, E, zs', rfl, sE13, fun p14 hp14 => ?_⟩
  have s14 := same_upd (o := .lst zs'.reverse) hp14
  have g14 : (upd H13 p14 (.lst zs'.reverse)) p14 = some (.lst zs'.reverse) := upd_same
  generalize upd H13 p14 (.lst zs'.reverse) = H14 at s14 g14 ⊢
  clean_wf
  refine flt (SqL.of g14) (pair_rev (hss_same pz' (s13.trans s14))) (tc.sub (by rw [List.length_reverse]; omega) (fun u hu => List.mem_reverse.mp hu)) fun H15 s15 => ?_
  have s1115 := s12.trans (s13.trans (s14.trans s15))
  clean_wf
  rw [nn_dec]
  clean_wf
  refine flt (SqL.of (s1115 _ _ gl11)) (hss_same px11 s1115) told fun H16 s16 => ?_
  clean_wf
  rw [nn_dec]
  clean_wf
  intro p17 H17 hp17 s17 g17
  clean_wf
  refine flt (SqL.of g17) .nil (Told.nil C) fun H18 s18 => ?_
  clean_wf
  exact k H18
end
end K80


namespace K80
open PySem L2
set_option maxHeartbeats 8000000 in
theorem all_mk {l : W.OpenLaw} {w : World} {K : W.Frag} {h : Heap} {mg : Str → Option Value} {fa f_0 f_1 f_2 f_3 f_4 f_5 f_6 f_7 f_8 f_9 f_10 f_11 f_12 f_13 f_14 f_15 f_16 f_17 f_18 f_19 f_20 f_21 f_22 f_23 f_24 f_25 f_26 f_27 f_28 f_29 f_30 f_31 f_32 f_33 C_Record C_Walk aR aR0 aR1 aR2 aR3 aR4 aR5 aR6 aR7 : Addr} {d_0 d_1 d_2 d_3 d_4 d_5 d_6 d_7 d_8 d_9 d_10 d_11 d_12 d_13 d_14 d_15 d_16 d_17 d_18 d_19 d_20 d_21 d_22 d_23 d_24 d_25 d_26 d_27 d_28 d_29 d_30 d_31 d_32 d_33 : FuncData} (X : K.In h) (G : h.Ns mainGlobals mg) (hfa : mg "law" = some (.ref fa))
    {nR nR0 nR1 nR2 nR3 nR4 nR5 nR6 nR7 : Nat} {tR0 tR1 tR2 tR3 tR4 tR5 tR6 tR7 : Tok}
    (a_0 : nI K "count_of" f_0)
    (a_1 : nI K "hands_among" f_1)
    (a_2 : nI K "covers" f_2)
    (a_3 : nI K "unpacked" f_3)
    (a_4 : nI K "bit_of" f_4)
    (a_5 : nI K "has" f_5)
    (a_11 : nI K "breaks_number" f_11)
    (a_12 : nI K "breaks_hands" f_12)
    (a_13 : nI K "breaks_row" f_13)
    (a_14 : nI K "breaks_causes" f_14)
    (a_15 : nI K "breaks_lists" f_15)
    (a_16 : nI K "breaks_calls" f_16)
    (a_17 : nI K "breaks_together" f_17)
    (a_18 : nI K "breaks_one" f_18)
    (a_22 : nI K "first_broken" f_22)
    (a_23 : nI K "fault" f_23)
    (a_24 : nI K "_law_pick" f_24)
    (a_25 : nI K "_law_hands" f_25)
    (a_26 : nI K "_law_set" f_26)
    (a_27 : nI K "_law_may_swap" f_27)
    (a_28 : nI K "_law_order" f_28)
    (a_29 : nI K "_law_masks" f_29)
    (a_30 : nI K "_law_calls" f_30)
    (a_31 : nI K "_law_events" f_31)
    (a_32 : nI K "_law_told" f_32)
    (a_33 : nI K "law" f_33)
    (a_Record : nI K "Record" C_Record)
    (a_Walk : nI K "Walk" C_Walk)
    (gm0_RULES : W.nsIn K mainGlobals "RULES" = some (some (.ref aR)))
    (z_all : W.nsIn K mainGlobals "all" = some none)
    (z_dict : W.nsIn K mainGlobals "dict" = some none)
    (z_enumerate : W.nsIn K mainGlobals "enumerate" = some none)
    (z_len : W.nsIn K mainGlobals "len" = some none)
    (z_list : W.nsIn K mainGlobals "list" = some none)
    (z_max : W.nsIn K mainGlobals "max" = some none)
    (z_range : W.nsIn K mainGlobals "range" = some none)
    (z_set : W.nsIn K mainGlobals "set" = some none)
    (z_sorted : W.nsIn K mainGlobals "sorted" = some none)
    (z_tuple : W.nsIn K mainGlobals "tuple" = some none)
    (mt_Walk_go_over : Meth K C_Walk "go_over" f_21)
    (mt_Walk_go_over_list : Meth K C_Walk "go_over_list" f_19)
    (mt_Walk_go_over_take : Meth K C_Walk "go_over_take" f_20)
    (mt_Walk_goes_on : Meth K C_Walk "goes_on" f_8)
    (mt_Walk_ones_on_record : Meth K C_Walk "ones_on_record" f_10)
    (mt_Walk_takes_one : Meth K C_Walk "takes_one" f_9)
    (M_Record : Mk K C_Record f_6)
    (M_Walk : Mk K C_Walk f_7)
    (F_0 : Fun K "count_of" "count_of" s_count_of f_0 d_0)
    (F_1 : Fun K "hands_among" "hands_among" s_hands_among f_1 d_1)
    (F_2 : Fun K "covers" "covers" s_covers f_2 d_2)
    (F_3 : Fun K "unpacked" "unpacked" s_unpacked f_3 d_3)
    (F_4 : Fun K "bit_of" "bit_of" s_bit_of f_4 d_4)
    (F_5 : Fun K "has" "has" s_has f_5 d_5)
    (F_6 : Fun K "__init__" "Record.__init__" s_Record___init__ f_6 d_6)
    (F_7 : Fun K "__init__" "Walk.__init__" s_Walk___init__ f_7 d_7)
    (F_8 : Fun K "goes_on" "Walk.goes_on" s_Walk_goes_on f_8 d_8)
    (F_9 : Fun K "takes_one" "Walk.takes_one" s_Walk_takes_one f_9 d_9)
    (F_10 : Fun K "ones_on_record" "Walk.ones_on_record" s_Walk_ones_on_record f_10 d_10)
    (F_11 : Fun K "breaks_number" "breaks_number" s_breaks_number f_11 d_11)
    (F_12 : Fun K "breaks_hands" "breaks_hands" s_breaks_hands f_12 d_12)
    (F_13 : Fun K "breaks_row" "breaks_row" s_breaks_row f_13 d_13)
    (F_14 : Fun K "breaks_causes" "breaks_causes" s_breaks_causes f_14 d_14)
    (F_15 : Fun K "breaks_lists" "breaks_lists" s_breaks_lists f_15 d_15)
    (F_16 : Fun K "breaks_calls" "breaks_calls" s_breaks_calls f_16 d_16)
    (F_17 : Fun K "breaks_together" "breaks_together" s_breaks_together f_17 d_17)
    (F_18 : Fun K "breaks_one" "breaks_one" s_breaks_one f_18 d_18)
    (F_19 : Fun K "go_over_list" "Walk.go_over_list" s_Walk_go_over_list f_19 d_19)
    (F_20 : Fun K "go_over_take" "Walk.go_over_take" s_Walk_go_over_take f_20 d_20)
    (F_21 : Fun K "go_over" "Walk.go_over" s_Walk_go_over f_21 d_21)
    (F_22 : Fun K "first_broken" "first_broken" s_first_broken f_22 d_22)
    (F_23 : Fun K "fault" "fault" s_fault f_23 d_23)
    (F_24 : Fun K "_law_pick" "_law_pick" s__law_pick f_24 d_24)
    (F_25 : Fun K "_law_hands" "_law_hands" s__law_hands f_25 d_25)
    (F_26 : Fun K "_law_set" "_law_set" s__law_set f_26 d_26)
    (F_27 : Fun K "_law_may_swap" "_law_may_swap" s__law_may_swap f_27 d_27)
    (F_28 : Fun K "_law_order" "_law_order" s__law_order f_28 d_28)
    (F_29 : Fun K "_law_masks" "_law_masks" s__law_masks f_29 d_29)
    (F_30 : Fun K "_law_calls" "_law_calls" s__law_calls f_30 d_30)
    (F_31 : Fun K "_law_events" "_law_events" s__law_events f_31 d_31)
    (F_32 : Fun K "_law_told" "_law_told" s__law_told f_32 d_32)
    (F_33 : Fun K "law" "law" s_law f_33 d_33)
    (T_Record : TRecord K C_Record)
    (T_Walk : TWalk K C_Walk)
    (gl_RULES : K.lookup aR = some ⟨.type "tuple", none, .seq #[.ref aR0, .ref aR1, .ref aR2, .ref aR3, .ref aR4, .ref aR5, .ref aR6, .ref aR7] nR, #[]⟩)
    (glr0 : K.lookup aR0 = some ⟨.type "tuple", none, .seq #[.str "number" tR0, .ref f_11] nR0, #[]⟩)
    (glr1 : K.lookup aR1 = some ⟨.type "tuple", none, .seq #[.str "hands" tR1, .ref f_12] nR1, #[]⟩)
    (glr2 : K.lookup aR2 = some ⟨.type "tuple", none, .seq #[.str "row" tR2, .ref f_13] nR2, #[]⟩)
    (glr3 : K.lookup aR3 = some ⟨.type "tuple", none, .seq #[.str "causes" tR3, .ref f_14] nR3, #[]⟩)
    (glr4 : K.lookup aR4 = some ⟨.type "tuple", none, .seq #[.str "lists" tR4, .ref f_15] nR4, #[]⟩)
    (glr5 : K.lookup aR5 = some ⟨.type "tuple", none, .seq #[.str "calls" tR5, .ref f_16] nR5, #[]⟩)
    (glr6 : K.lookup aR6 = some ⟨.type "tuple", none, .seq #[.str "one" tR6, .ref f_18] nR6, #[]⟩)
    (glr7 : K.lookup aR7 = some ⟨.type "tuple", none, .seq #[.str "together" tR7, .ref f_17] nR7, #[]⟩)
    : ∃ fd : FuncData, (∀ (s : Shared) (v : Value), BindsTo s fd ⟨[v], []⟩ [("_law_script", v)]) ∧ ∀ base : Heap, K.In base → base.Ns mainGlobals mg → FnOk l.prog w K mg base CX0 6 fa fd ["_law_script"] (sp_law K) := by
  have e := hfa.symm.trans (W.mg_of X G a_33)
  cases e
  have CA_0 : Cal K mg _ _ _ ["counts", "hand"] := F_0.cal X G a_0
  have CA_1 : Cal K mg _ _ _ ["some"] := F_1.cal X G a_1
  have CA_2 : Cal K mg _ _ _ ["one", "other"] := F_2.cal X G a_2
  have CA_3 : Cal K mg _ _ _ ["pairs"] := F_3.cal X G a_3
  have CA_4 : Cal K mg _ _ _ ["hand"] := F_4.cal X G a_4
  have CA_5 : Cal K mg _ _ _ ["hands", "hand"] := F_5.cal X G a_5
  have B_6 : Binds K _ ["self"] [] := F_6.bq
  have B_7 : Binds K _ ["self", "hand", "record"] [] := F_7.bq
  have B_8 : Binds K _ ["self", "event"] [] := F_8.bq
  have B_9 : Binds K _ ["self", "event"] [] := F_9.bq
  have B_10 : Binds K _ ["self"] [] := F_10.bq
  have CA_11 : Cal K mg _ _ _ ["walk", "event"] := F_11.cal X G a_11
  have CA_12 : Cal K mg _ _ _ ["walk", "event"] := F_12.cal X G a_12
  have CA_13 : Cal K mg _ _ _ ["walk", "event"] := F_13.cal X G a_13
  have CA_14 : Cal K mg _ _ _ ["walk", "event"] := F_14.cal X G a_14
  have CA_15 : Cal K mg _ _ _ ["walk", "event"] := F_15.cal X G a_15
  have CA_16 : Cal K mg _ _ _ ["walk", "event"] := F_16.cal X G a_16
  have CA_17 : Cal K mg _ _ _ ["walk", "event"] := F_17.cal X G a_17
  have CA_18 : Cal K mg _ _ _ ["walk", "event"] := F_18.cal X G a_18
  have B_19 : Binds K _ ["self", "event"] [] := F_19.bq
  have B_20 : Binds K _ ["self", "event"] [] := F_20.bq
  have B_21 : Binds K _ ["self", "event"] [] := F_21.bq
  have CA_22 : Cal K mg _ _ _ ["walk", "event"] := F_22.cal X G a_22
  have CA_23 : Cal K mg _ _ _ ["told"] := F_23.cal X G a_23
  have CA_24 : Cal K mg _ _ _ ["_law_script", "_law_k"] := F_24.cal X G a_24
  have CA_25 : Cal K mg _ _ _ ["_law_cell"] := F_25.cal X G a_25
  have CA_26 : Cal K mg _ _ _ ["_law_hands_here", "_law_mask"] := F_26.cal X G a_26
  have CA_27 : Cal K mg _ _ _ ["_law_one", "_law_other"] := F_27.cal X G a_27
  have CA_28 : Cal K mg _ _ _ ["_law_script", "_law_calls_here", "_law_at"] := F_28.cal X G a_28
  have CA_29 : Cal K mg _ _ _ ["_law_script", "_law_much"] := F_29.cal X G a_29
  have CA_30 : Cal K mg _ _ _ ["_law_script", "_law_hands_here", "_law_mask", "_law_number", "_law_at"] := F_30.cal X G a_30
  have CA_31 : Cal K mg _ _ _ ["_law_script", "_law_hands_here", "_law_masks_here", "_law_rows", "_law_who", "_law_number"] := F_31.cal X G a_31
  have CA_32 : Cal K mg _ _ _ ["_law_script"] := F_32.cal X G a_32
  have m_Record := W.mg_of X G a_Record
  have m_Walk := W.mg_of X G a_Walk
  have gm_RULES := W.mg_of X G gm0_RULES
  have gr_RULES : RelV (.ref aR) (.ref aR) := rfl
  have gv_RULES : GV_RULES K mg (.ref aR) := by
    refine ⟨aR, [(aR0, "number", f_11), (aR1, "hands", f_12), (aR2, "row", f_13), (aR3, "causes", f_14), (aR4, "lists", f_15), (aR5, "calls", f_16), (aR6, "one", f_18), (aR7, "together", f_17)], rfl, fun H => .inr ⟨_, _, _, gl_RULES, rfl, rfl, (by show 8 ≤ sizeLine; decide), .cons rfl (.cons rfl (.cons rfl (.cons rfl (.cons rfl (.cons rfl (.cons rfl (.cons rfl .nil)))))))⟩, fun e he => ?_⟩
    simp only [List.mem_cons, List.not_mem_nil, or_false] at he
    rcases he with rfl | rfl | rfl | rfl | rfl | rfl | rfl | rfl
    · exact ⟨fun H => .inr ⟨_, _, _, glr0, rfl, rfl, (by show 2 ≤ sizeLine; decide), .cons ⟨_, rfl⟩ (.cons rfl .nil)⟩, "breaks_number", (by simp [ruleNames]), W.mg_of X G a_11⟩
    · exact ⟨fun H => .inr ⟨_, _, _, glr1, rfl, rfl, (by show 2 ≤ sizeLine; decide), .cons ⟨_, rfl⟩ (.cons rfl .nil)⟩, "breaks_hands", (by simp [ruleNames]), W.mg_of X G a_12⟩
    · exact ⟨fun H => .inr ⟨_, _, _, glr2, rfl, rfl, (by show 2 ≤ sizeLine; decide), .cons ⟨_, rfl⟩ (.cons rfl .nil)⟩, "breaks_row", (by simp [ruleNames]), W.mg_of X G a_13⟩
    · exact ⟨fun H => .inr ⟨_, _, _, glr3, rfl, rfl, (by show 2 ≤ sizeLine; decide), .cons ⟨_, rfl⟩ (.cons rfl .nil)⟩, "breaks_causes", (by simp [ruleNames]), W.mg_of X G a_14⟩
    · exact ⟨fun H => .inr ⟨_, _, _, glr4, rfl, rfl, (by show 2 ≤ sizeLine; decide), .cons ⟨_, rfl⟩ (.cons rfl .nil)⟩, "breaks_lists", (by simp [ruleNames]), W.mg_of X G a_15⟩
    · exact ⟨fun H => .inr ⟨_, _, _, glr5, rfl, rfl, (by show 2 ≤ sizeLine; decide), .cons ⟨_, rfl⟩ (.cons rfl .nil)⟩, "breaks_calls", (by simp [ruleNames]), W.mg_of X G a_16⟩
    · exact ⟨fun H => .inr ⟨_, _, _, glr6, rfl, rfl, (by show 2 ≤ sizeLine; decide), .cons ⟨_, rfl⟩ (.cons rfl .nil)⟩, "breaks_one", (by simp [ruleNames]), W.mg_of X G a_18⟩
    · exact ⟨fun H => .inr ⟨_, _, _, glr7, rfl, rfl, (by show 2 ≤ sizeLine; decide), .cons ⟨_, rfl⟩ (.cons rfl .nil)⟩, "breaks_together", (by simp [ruleNames]), W.mg_of X G a_17⟩
  have Z_all : mg "all" = none := W.mg_none_of X G z_all
  have Z_dict : mg "dict" = none := W.mg_none_of X G z_dict
  have Z_enumerate : mg "enumerate" = none := W.mg_none_of X G z_enumerate
  have Z_len : mg "len" = none := W.mg_none_of X G z_len
  have Z_list : mg "list" = none := W.mg_none_of X G z_list
  have Z_max : mg "max" = none := W.mg_none_of X G z_max
  have Z_range : mg "range" = none := W.mg_none_of X G z_range
  have Z_set : mg "set" = none := W.mg_none_of X G z_set
  have Z_sorted : mg "sorted" = none := W.mg_none_of X G z_sorted
  have Z_tuple : mg "tuple" = none := W.mg_none_of X G z_tuple
  obtain ⟨_, _, kV, dc, pm, an, cd, ct, _, rfl, _⟩ := id F_33.ex
  refine ⟨W.fnOf "law" "law" (defArgs s_law) (defBody s_law) (defScope s_law) .none kV dc pm an cd ct, fun s v => .of_eq rfl, fun base _ _ => ?_⟩
  have G_0 := ok_count_of (P := l.prog) (w := w) (mg := mg) (base := base) F_0
  have G_1 := ok_hands_among (P := l.prog) (w := w) (mg := mg) (base := base) F_1 Z_list Z_set Z_sorted
  have G_2 := ok_covers (P := l.prog) (w := w) (mg := mg) (base := base) F_2 (G_0.mono (by decide)) CA_0 (G_1.mono (by decide)) CA_1 Z_all
  have G_3 := ok_unpacked (P := l.prog) (w := w) (mg := mg) (base := base) F_3 Z_dict
  have G_4 := ok_bit_of (P := l.prog) (w := w) (mg := mg) (base := base) F_4
  have G_5 := ok_has (P := l.prog) (w := w) (mg := mg) (base := base) F_5 (G_4.mono (by decide)) CA_4
  have G_6 := ok_Record___init__ (P := l.prog) (w := w) (mg := mg) (base := base) F_6
  have G_7 := ok_Walk___init__ (P := l.prog) (w := w) (mg := mg) (base := base) F_7
  have G_8 := ok_Walk_goes_on (P := l.prog) (w := w) (mg := mg) (base := base) F_8 T_Walk m_Walk
  have G_9 := ok_Walk_takes_one (P := l.prog) (w := w) (mg := mg) (base := base) F_9
  have G_10 := ok_Walk_ones_on_record (P := l.prog) (w := w) (mg := mg) (base := base) F_10 T_Record T_Walk m_Record m_Walk
  have G_11 := ok_breaks_number (P := l.prog) (w := w) (mg := mg) (base := base) F_11 T_Walk m_Walk
  have G_12 := ok_breaks_hands (P := l.prog) (w := w) (mg := mg) (base := base) F_12 (G_5.mono (by decide)) CA_5 (G_8.mono (by decide)) B_8 T_Walk m_Walk mt_Walk_goes_on
  have G_13 := ok_breaks_row (P := l.prog) (w := w) (mg := mg) (base := base) F_13 (G_0.mono (by decide)) CA_0 T_Walk m_Walk
  have G_14 := ok_breaks_causes (P := l.prog) (w := w) (mg := mg) (base := base) F_14 (G_2.mono (by decide)) CA_2 (G_3.mono (by decide)) CA_3 T_Walk m_Walk
  have G_15 := ok_breaks_lists (P := l.prog) (w := w) (mg := mg) (base := base) F_15 T_Record T_Walk m_Record m_Walk
  have G_16 := ok_breaks_calls (P := l.prog) (w := w) (mg := mg) (base := base) F_16 T_Record T_Walk m_Record m_Walk
  have G_17 := ok_breaks_together (P := l.prog) (w := w) (mg := mg) (base := base) F_17 (G_8.mono (by decide)) B_8 T_Record T_Walk m_Record m_Walk mt_Walk_goes_on
  have G_18 := ok_breaks_one (P := l.prog) (w := w) (mg := mg) (base := base) F_18 (G_8.mono (by decide)) B_8 (G_9.mono (by decide)) B_9 (G_10.mono (by decide)) B_10 Z_len T_Record T_Walk m_Record m_Walk mt_Walk_goes_on mt_Walk_ones_on_record mt_Walk_takes_one
  have G_19 := ok_Walk_go_over_list (P := l.prog) (w := w) (mg := mg) (base := base) F_19 T_Record T_Walk m_Record m_Walk
  have G_20 := ok_Walk_go_over_take (P := l.prog) (w := w) (mg := mg) (base := base) F_20 (G_9.mono (by decide)) B_9 (G_10.mono (by decide)) B_10 Z_len T_Record T_Walk m_Record m_Walk mt_Walk_ones_on_record mt_Walk_takes_one
  have G_21 := ok_Walk_go_over (P := l.prog) (w := w) (mg := mg) (base := base) F_21 (G_19.mono (by decide)) B_19 (G_20.mono (by decide)) B_20 T_Walk m_Walk mt_Walk_go_over_list mt_Walk_go_over_take
  have G_22 := ok_first_broken (P := l.prog) (w := w) (mg := mg) (base := base) F_22 (G_11.mono (by decide)) CA_11 (G_12.mono (by decide)) CA_12 (G_13.mono (by decide)) CA_13 (G_14.mono (by decide)) CA_14 (G_15.mono (by decide)) CA_15 (G_16.mono (by decide)) CA_16 (G_17.mono (by decide)) CA_17 (G_18.mono (by decide)) CA_18 gm_RULES gr_RULES gv_RULES
  have G_23 := ok_fault (P := l.prog) (w := w) (mg := mg) (base := base) F_23 (G_6.mono (by decide)) B_6 (G_7.mono (by decide)) B_7 (G_21.mono (by decide)) B_21 (G_22.mono (by decide)) CA_22 Z_enumerate T_Record T_Walk m_Record m_Walk M_Record M_Walk mt_Walk_go_over
  have G_24 := ok__law_pick (P := l.prog) (w := w) (mg := mg) (base := base) F_24 Z_len
  have G_25 := ok__law_hands (P := l.prog) (w := w) (mg := mg) (base := base) F_25 Z_range
  have G_26 := ok__law_set (P := l.prog) (w := w) (mg := mg) (base := base) F_26 Z_range
  have G_27 := ok__law_may_swap (P := l.prog) (w := w) (mg := mg) (base := base) F_27
  have G_28 := ok__law_order (P := l.prog) (w := w) (mg := mg) (base := base) F_28 (G_24.mono (by decide)) CA_24 (G_27.mono (by decide)) CA_27 Z_len Z_list Z_range
  have G_29 := ok__law_masks (P := l.prog) (w := w) (mg := mg) (base := base) F_29 (G_24.mono (by decide)) CA_24 Z_range
  have G_30 := ok__law_calls (P := l.prog) (w := w) (mg := mg) (base := base) F_30 (G_24.mono (by decide)) CA_24 Z_len Z_max Z_range Z_sorted Z_tuple
  have G_31 := ok__law_events (P := l.prog) (w := w) (mg := mg) (base := base) F_31 (G_24.mono (by decide)) CA_24 (G_26.mono (by decide)) CA_26 (G_28.mono (by decide)) CA_28 Z_len Z_range
  have G_32 := ok__law_told (P := l.prog) (w := w) (mg := mg) (base := base) F_32 (G_24.mono (by decide)) CA_24 (G_25.mono (by decide)) CA_25 (G_29.mono (by decide)) CA_29 (G_30.mono (by decide)) CA_30 (G_31.mono (by decide)) CA_31 Z_len Z_range
  exact ok_law F_33 (G_23.mono (by decide)) CA_23 (G_24.mono (by decide)) CA_24 (G_32.mono (by decide)) CA_32 Z_len Z_list
theorem walk {l : PySem.W.OpenLaw} {q : Program} {loose : List Str} {XP : (Str → Option Value) → Heap → Prop} {YP : World → Heap → Prop} {d : DefRec} {K : Params → PySem.W.Frag} (hn : l.most = some 63) (hdf : d.params.defaults = [])
    (hY : ∀ (w : World) (h : Heap), YP w h → (K w.params).In h)
    (F : ∀ (w : World) (mg : Str → Option Value) (fa : Addr) (h : Heap), (K w.params).In h → h.Ns mainGlobals mg → mg d.name = some (.ref fa) →
      ∃ fd : FuncData, (∀ (s : Shared) (u : Value), BindsTo s fd ⟨[u], []⟩ [("_law_script", u)]) ∧ ∀ base : Heap, (K w.params).In base → base.Ns mainGlobals mg → FnOk l.prog w (K w.params) mg base CX0 6 fa fd ["_law_script"] (sp_law (K w.params))) :
    PySem.W.WalkO q loose XP YP l.row.toRowW d [] (fun f vs => PySem.call f vs) :=
  L2.walk_of (n := 63) (k := 6) (x := "_law_script") (CX := fun _ => CX0) (sp := fun w => sp_law (K w.params)) hn (by decide) hdf ⟨rfl, by decide, by decide⟩ hY F (fun _ _ a ns hl _ hS => ⟨a, ns, rfl, hS, hl, fun _ => rfl⟩) fun _ _ _ _ _ z => z
end K80
def PySem.W.Fast.tw3191129270524851083 : Unit := ()
def PySem.W.Fast.tw12841447089445792030 : Unit := ()
def PySem.W.Fast.tw10583503956070516246 : Unit := ()
def PySem.W.Fast.tw17071010192058630755 : Unit := ()
def PySem.W.Fast.tw6311621315603505168 : Unit := ()
def PySem.W.Fast.tw3399717056501172864 : Unit := ()
def PySem.W.Fast.tw14565866794996594785 : Unit := ()
def PySem.W.Fast.tw6475675649640365033 : Unit := ()
def PySem.W.Fast.tw11474023588529502637 : Unit := ()
def PySem.W.Fast.tw16448551156227697581 : Unit := ()
def PySem.W.Fast.tw10037006417337172432 : Unit := ()
def PySem.W.Fast.tw5137973047768026905 : Unit := ()
def PySem.W.Fast.tw5467412960167295907 : Unit := ()
def PySem.W.Fast.tw13922939442718250163 : Unit := ()
def PySem.W.Fast.tw3505283402218874680 : Unit := ()
def PySem.W.Fast.tw16109828661848146783 : Unit := ()
def PySem.W.Fast.tw5758519773744611840 : Unit := ()
def PySem.W.Fast.tw12575406737766261754 : Unit := ()
def PySem.W.Fast.tw4394187998307192701 : Unit := ()
def PySem.W.Fast.tw6217668101587016782 : Unit := ()
def PySem.W.Fast.tw11704239539979515210 : Unit := ()
def PySem.W.Fast.tw9870017049041029983 : Unit := ()
def PySem.W.Fast.tw4591048923813530006 : Unit := ()
def PySem.W.Fast.tw8471879672772661954 : Unit := ()
def PySem.W.Fast.tw13173470909933297445 : Unit := ()
def PySem.W.Fast.tw1308546444108685352 : Unit := ()
def PySem.W.Fast.tw17206130880465178113 : Unit := ()
def PySem.W.Fast.tw1340542638190755519 : Unit := ()
def PySem.W.Fast.tw12063447108626571293 : Unit := ()
def PySem.W.Fast.tw14907103934274431507 : Unit := ()
def PySem.W.Fast.tw5262935993922774425 : Unit := ()
def PySem.W.Fast.tw7038815513030616981 : Unit := ()
def PySem.W.Fast.tw14935303649382327432 : Unit := ()
def PySem.W.Fast.tw4233406554509533853 : Unit := ()
def PySem.W.Fast.tw15838266505816660436 : Unit := ()
def PySem.W.Fast.tw463280452167784482 : Unit := ()
def PySem.W.Fast.tw12510723044577008550 : Unit := ()
def PySem.W.Fast.tw11733970579719905541 : Unit := ()
def PySem.W.Fast.tw8753222246135476868 : Unit := ()
def PySem.W.Fast.tw15340013189619479962 : Unit := ()
def PySem.W.Fast.tw16866371873158875407 : Unit := ()
def PySem.W.Fast.tw9390551974405106834 : Unit := ()
def PySem.W.Fast.tw14194880857687157208 : Unit := ()
def PySem.W.Fast.tw15438334937350505824 : Unit := ()
def PySem.W.Fast.tw9756347239135641082 : Unit := ()
def PySem.W.Fast.tw8404532144422247146 : Unit := ()
def PySem.W.Fast.tw13586758508349978878 : Unit := ()
def PySem.W.Fast.tw17213335813551811872 : Unit := ()
def PySem.W.Fast.tw6165126709345482728 : Unit := ()
def PySem.W.Fast.tw1942014689744418056 : Unit := ()
def PySem.W.Fast.tw6046749686334670729 : Unit := ()
def PySem.W.Fast.tw2888417748073282483 : Unit := ()
def PySem.W.Fast.tw15156104992456052661 : Unit := ()
def PySem.W.Fast.tw11199790713169775515 : Unit := ()
def PySem.W.Fast.tw11396234105059564300 : Unit := ()
def PySem.W.Fast.tw1196453937806295794 : Unit := ()
def PySem.W.Fast.tw2484350787609905750 : Unit := ()
def PySem.W.Fast.tw17627637128305022740 : Unit := ()
open PySem PySem.W PyProof.Rows
set_option maxRecDepth 100000 in
set_option maxHeartbeats 0 in
theorem PySem.Challenge.cw_groupcall_k80_right_histories_holds : PySem.Challenge.rw_groupcall_k80_right_histories.Holds := by
  w_on; o_law; k_head; (case hw => w_witness2)
  k_fill
  refine K80.walk (l := PySem.Challenge.rw_groupcall_k80_right_histories) rfl rfl (fun w h Y => PySem.W.kIn_of Y) ?F
  case F =>
    intro w mg fa h KX G hmg
    refine' K80.all_mk KX G hmg ?h0 ?h1 ?h2 ?h3 ?h4 ?h5 ?h6 ?h7 ?h8 ?h9 ?h10 ?h11 ?h12 ?h13 ?h14 ?h15 ?h16 ?h17 ?h18 ?h19 ?h20 ?h21 ?h22 ?h23 ?h24 ?h25 ?h26 ?h27 ?h28 ?h29 ?h30 ?h31 ?h32 ?h33 ?h34 ?h35 ?h36 ?h37 ?h38 ?h39 ?h40 ?h41 ?h42 ?h43 ?h44 ?h45 ?h46 ?h47 ?h48 ?h49 ?h50 ?h51 ?h52 ?h53 ?h54 ?h55 ?h56 ?h57 ?h58 ?h59 ?h60 ?h61 ?h62 ?h63 ?h64 ?h65 ?h66 ?h67 ?h68 ?h69 ?h70 ?h71 ?h72 ?h73 ?h74 ?h75 ?h76 ?h77 ?h78 ?h79 ?h80 ?h81 ?h82 ?h83 ?h84 ?h85 ?h86 ?h87 ?h88 ?h89 ?h90 ?h91
    (case h0 | h1 | h2 | h3 | h4 | h5 | h6 | h7 | h8 | h9 | h10 | h11 | h12 | h13 | h14 | h15 | h16 | h17 | h18 | h19 | h20 | h21 | h22 | h23 | h24 | h25 | h26 | h27 => show _ = _; k_is)
    (case h28 | h29 | h30 | h31 | h32 | h33 | h34 | h35 | h36 | h37 | h38 => first | k_is | rfl | decide)
    (case h39 | h40 | h41 | h42 | h43 | h44 | h45 | h46 => constructor <;> k_is)
    (case h47 | h48 | h49 | h50 | h51 | h52 | h53 | h54 | h55 | h56 | h57 | h58 | h59 | h60 | h61 | h62 | h63 | h64 | h65 | h66 | h67 | h68 | h69 | h70 | h71 | h72 | h73 | h74 | h75 | h76 | h77 | h78 | h79 | h80 => exact L2.fun_mk (by k_is) (by k_is) (by k_is))
    (case h81 | h82 => constructor; (constructor <;> k_is); all_goals (show _ = _; k_is))
    (case h83 | h84 | h85 | h86 | h87 | h88 | h89 | h90 | h91 => first | k_is | rfl | decide)

