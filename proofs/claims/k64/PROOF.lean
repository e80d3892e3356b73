import PyProof.Rows.All
import Wide.All
import OpenK.AllK
import Wide.FinOn
import Lean
import PyProof.EqAt
import PyProof.EqKinds
import PyProof.TupleCall
import PyProof.AttrMissHeap
import KE.KSortTup
import KE.KDictList
import KE.KNest
import KE.KNestM
import OpenK.KRaise
import KE.KIsAll
import KE.KMatchCls
import PyProof.ExcAttrAll.ValueError
import PyProof.Rows.Range3
import PyProof.ZipIter
import PyProof.Rows.FactsT2
import PyProof.Rows.ZipGen
import KE.KItemsList
import PyProof.TupleKey
import PyProof.DictFindH
import PyProof.EnumMake
import PyProof.EnumStmt
import PySem.Challenge.RW_groupcall_k64_whole_one_plan
set_option Elab.async false
set_option linter.all false
set_option maxRecDepth 100000

namespace L2
open PySem PySem.Spec PyProof.Rows


abbrev Key := Sum Int Str
def keyIs : Key → Value → Bool
  | .inl k, v => Value.isInt k v
  | .inr x, v => Value.isStrOf x v
def keyH (w : World) : Key → Int
  | .inl k => hashInt k
  | .inr x => hashStr w x
theorem keyIs_shape : ∀ {k : Key} {v : Value}, keyIs k v = true → (∃ i t, k = Sum.inl i ∧ v = Value.int i t) ∨ (∃ x t, k = Sum.inr x ∧ v = Value.str x t)
  | .inl i, v, h => by
    obtain ⟨t, e⟩ := Value.isInt_shape (k := i) (v := v) h
    exact .inl ⟨i, t, rfl, e⟩
  | .inr x, v, h => by
    obtain ⟨t, e⟩ := Value.isStrOf_shape (x := x) (v := v) h
    exact .inr ⟨x, t, rfl, e⟩
theorem keyIs_int (i : Int) (t : Tok) : keyIs (.inl i) (.int i t) = true := by simp [keyIs, Value.isInt]
theorem keyIs_str (x : Str) (t : Tok) : keyIs (.inr x) (.str x t) = true := by simp [keyIs, Value.isStrOf]
theorem key_ll (a b : Int) : decide ((Sum.inl a : Key) = Sum.inl b) = (a == b) := by
  by_cases e : a = b
  · subst e; simp
  · have h : ¬ (Sum.inl a : Key) = Sum.inl b := fun q => e (Sum.inl.inj q)
    rw [decide_eq_false h]
    exact (beq_eq_false_iff_ne.mpr e).symm
theorem key_rr (a b : Str) : decide ((Sum.inr a : Key) = Sum.inr b) = decide (a = b) := by
  by_cases e : a = b
  · subst e; simp
  · have h : ¬ (Sum.inr a : Key) = Sum.inr b := fun q => e (Sum.inr.inj q)
    rw [decide_eq_false h, decide_eq_false e]
theorem key_lr (a : Int) (b : Str) : decide ((Sum.inl a : Key) = Sum.inr b) = false := decide_eq_false (fun q => nomatch q)
theorem key_rl (a : Str) (b : Int) : decide ((Sum.inr a : Key) = Sum.inl b) = false := decide_eq_false (fun q => nomatch q)

def mixKind (prog : Program) (w : World) : PySem.KeyKind prog w Key where
  is := keyIs
  hash := keyH w
  inj := fun v a b ha hb => by
    rcases keyIs_shape ha with ⟨i, t, rfl, rfl⟩ | ⟨x, t, rfl, rfl⟩
    · rcases keyIs_shape hb with ⟨j, u, rfl, e⟩ | ⟨y, u, rfl, e⟩
      · injection e with e1 _; rw [e1]
      · exact nomatch e
    · rcases keyIs_shape hb with ⟨j, u, rfl, e⟩ | ⟨y, u, rfl, e⟩
      · exact nomatch e
      · injection e with e1 _; rw [e1]
  byValue := fun k v h => by
    rcases keyIs_shape h with ⟨i, t, rfl, rfl⟩ | ⟨x, t, rfl, rfl⟩ <;> rfl
  pyHash := fun hv h => by
    rcases keyIs_shape hv with ⟨i, t, rfl, rfl⟩ | ⟨x, t, rfl, rfl⟩
    · exact wpAny_pyHash_int h
    · exact wpAny_pyHash_str h
  eqBool := fun hu hv h => by
    rcases keyIs_shape hu with ⟨i, t, rfl, rfl⟩ | ⟨x, t, rfl, rfl⟩
    · rcases keyIs_shape hv with ⟨j, u, rfl, rfl⟩ | ⟨y, u, rfl, rfl⟩
      · rw [key_ll] at h; exact wpAny_eqBool_int h
      · rw [key_lr] at h; exact SeqAt.EqAt.int_str i t y u _ _ _ _ h
    · rcases keyIs_shape hv with ⟨j, u, rfl, rfl⟩ | ⟨y, u, rfl, rfl⟩
      · rw [key_rl] at h; exact SeqAt.EqAt.str_int x t j u _ _ _ _ h
      · rw [key_rr] at h; exact wpAny_eqBool_str h
  «strs» := fun k x t v h => by
    rcases keyIs_shape h with ⟨i, u, rfl, e⟩ | ⟨y, u, rfl, e⟩
    · exact nomatch e
    · injection e with e1 _
      subst e1
      cases v <;> rfl

theorem mixKind_int (prog : Program) (w : World) (i : Int) (t : Tok) : (mixKind prog w).is (.inl i) (.int i t) = true := keyIs_int i t
theorem mixKind_str (prog : Program) (w : World) (x : Str) (t : Tok) : (mixKind prog w).is (.inr x) (.str x t) = true := keyIs_str x t
end L2

namespace L2
open PySem PySem.Spec PyProof.Rows


inductive V where
  | non | bl (b : Bool) | int (i : Int) | str (x : Str) | byt (b : Array UInt8) | flt (b : UInt64) | ref (a : Addr) | ty (n : String)
  deriving DecidableEq

def RelV : V → Value → Prop
  | .non, u => u = Value.none
  | .bl b, u => u = Value.bool b
  | .int i, u => ∃ t, u = Value.int i t
  | .str x, u => ∃ t, u = Value.str x t
  | .byt b, u => ∃ t, u = Value.bytes b t
  | .flt b, u => ∃ t, u = Value.float b t
  | .ref a, u => u = Value.ref a
  | .ty n, u => u = Value.type n

abbrev Vals : List V → List Value → Prop := Paired RelV
theorem Vals.length {xs : List V} {us : List Value} (r : Vals xs us) : xs.length = us.length := Paired.length r
theorem Vals.get : ∀ {xs : List V} {us : List Value} {i : Nat} {x : V}, Vals xs us → xs[i]? = some x → ∃ u, us[i]? = some u ∧ RelV x u
  | _, _, _, _, .nil, e => by simp at e
  | _, _, 0, _, .cons r _, e => by simp at e; subst e; exact ⟨_, rfl, r⟩
  | _, _, i + 1, x, .cons _ t, e => by
    obtain ⟨u, h1, h2⟩ := Vals.get (i := i) (x := x) t (by simpa using e)
    exact ⟨u, by simpa using h1, h2⟩
theorem Vals.set {x : V} {u : Value} (r : RelV x u) : ∀ {xs : List V} {us : List Value} (i : Nat), Vals xs us → Vals (xs.set i x) (us.set i u)
  | _, _, _, .nil => .nil
  | _, _, 0, .cons _ t => .cons r t
  | _, _, i + 1, .cons q t => .cons q (Vals.set r i t)
theorem Vals.append : ∀ {xs ys : List V} {us ws : List Value}, Vals xs us → Vals ys ws → Vals (xs ++ ys) (us ++ ws)
  | _, _, _, _, .nil, s => s
  | _, _, _, _, .cons r t, s => .cons r (Vals.append t s)
theorem Vals.take : ∀ {xs : List V} {us : List Value} (n : Nat), Vals xs us → Vals (xs.take n) (us.take n)
  | _, _, 0, _ => .nil
  | _, _, _ + 1, .nil => .nil
  | _, _, n + 1, .cons r t => .cons r (Vals.take n t)
theorem Vals.drop : ∀ {xs : List V} {us : List Value} (n : Nat), Vals xs us → Vals (xs.drop n) (us.drop n)
  | _, _, 0, r => r
  | _, _, _ + 1, .nil => .nil
  | _, _, n + 1, .cons _ t => Vals.drop n t
def RelO : Option V → Option Value → Prop
  | some v, some u => RelV v u
  | none, none => True
  | _, _ => False
def KV {κ : Type} : List (κ × V) → List (κ × Value) → Prop := Paired fun (p : κ × V) (q : κ × Value) => p.1 = q.1 ∧ RelV p.2 q.2


def kV : Key → V
  | .inl i => .int i
  | .inr x => .str x


inductive HO where
  
  | lst (xs : List V)
  
  | tup (xs : List V)
  
  | dK (kvs : List (Key × V)) | dT (kvs : List (List Key × V))
  
  | set (S : Int → Bool) (n : Nat)
  
  | ins (C dx : Addr) (fs : List (Str × V))
  
  | own (x : Addr)
  
  | xd (fs : List (Str × V))
  
  | met (f x : Addr)
  
  | rng (lo hi : Int)
  
  | frz (o : Obj) (u : HO)
  
  | tbl (ps : Array Value)
  
  | ext (φ : Heap → Prop)

abbrev Hp := Addr → Option HO
def upd (H : Hp) (a : Addr) (o : HO) : Hp := fun b => if b = a then some o else H b
theorem upd_same {H : Hp} {a : Addr} {o : HO} : upd H a o a = some o := by unfold upd; rw [if_pos rfl]
theorem upd_ne {H : Hp} {a b : Addr} {o : HO} (h : b ≠ a) : upd H a o b = H b := by unfold upd; rw [if_neg h]
theorem upd_upd {H : Hp} {a : Addr} {o u : HO} : upd (upd H a o) a u = upd H a u := by
  funext b; unfold upd; split <;> rfl

theorem ne_of {H : Hp} {a b : Addr} {o u : HO} (h : H a = some o) (h' : H b = some u) (d : o ≠ u) : a ≠ b := by
  intro e; subst e; rw [h] at h'; exact d (Option.some.inj h')
theorem ne_of_none {H : Hp} {a b : Addr} {o : HO} (h : H a = some o) (h' : H b = none) : a ≠ b := by
  intro e; subst e; rw [h] at h'; cases h'


def IsTpl (h : Heap) (a : Addr) (items : Array Value) : Prop := ∃ o, h.get? a = some o ∧ o.cls = .type "tuple" ∧ ∃ n, o.data = .seq items n ∧ o.dict = none ∧ o.slots = #[]
theorem IsTpl.tup {h : Heap} {a : Addr} {items : Array Value} (x : IsTpl h a items) : IsTup h a items := let ⟨o, e, c, n, d, _⟩ := x; ⟨o, e, c, n, d⟩
theorem IsTpl.lt {h : Heap} {a : Addr} {items : Array Value} (x : IsTpl h a items) : a < h.objs.size := x.tup.lt
theorem IsTpl.new (h : Heap) (items : Array Value) : IsTpl (h.push { cls := .type "tuple", data := .seq items }) h.objs.size items := ⟨_, Heap.get?_push_size _ rfl, rfl, _, rfl, rfl, rfl⟩
section
variable (P : Program) (w : World)
def ObjOk (H : Hp) (h : Heap) (a : Addr) : HO → Prop
  | .lst xs => xs.length ≤ sizeLine ∧ ∃ (its : List Value) (n : Nat), Vals xs its ∧ h.get? a = some { cls := .type "list", data := .seq its.toArray n }
  | .tup xs => xs.length ≤ sizeLine ∧ ∃ its : List Value, Vals xs its ∧ IsTpl h a its.toArray
  | .dK kvs => kvs.length ≤ sizeLine ∧ (a == sysModules) = false ∧ ∃ vs, KV kvs vs ∧ h.DictOf (mixKind P w) a vs
  | .dT kvs => kvs.length ≤ sizeLine ∧ (a == sysModules) = false ∧ ∃ xs : List (List Key × Addr × Value),
      Paired (fun (p : List Key × V) (q : List Key × Addr × Value) => p.1 = q.1 ∧ H q.2.1 = some (.tup (p.1.map kV)) ∧ RelV p.2 q.2.2) kvs xs ∧
      ∃ o es ep, h.get? a = some o ∧ o.ExactDict ∧ o.data = .dict es ep ∧ es.toList = xs.map (entryOfKey (tupleKind (mixKind P w))) ∧ (xs.map (·.1)).Nodup
  | .set S n => h.SetOf (intKind P w) a S n
  | .ins C dx fs => H dx = some (.own a) ∧ fs.length ≤ 1000 ∧ dx ≠ a ∧ h.get? a = some (PySem.W.instObj C dx) ∧
      ∃ mA, h.Ns1 dx mA ∧ (∀ f, RelO (fs.lookup f) (mA f)) ∧ PySem.Within mA (fs.map (·.1))
  | .own _ => ∃ o, h.get? a = some o
  | .xd fs => ∃ mA, h.Ns1 a mA ∧ ∀ f, RelO (fs.lookup f) (mA f)
  | .rng lo hi => ∃ t u v, h.get? a = some { cls := .type "range", data := .fields #[.int lo t, .int hi u, .int 1 v] }
  | .frz o u => h.get? a = some o ∧ ObjOk H h a u
  | .tbl ps => h.get? a = some { cls := .none, data := .fields ps }
  | .met f x => h.get? a = some (PySem.W.methodObj (.ref f) (.ref x))
  | .ext φ => φ h ∧ (∃ o, h.get? a = some o) ∧ ∀ h1 h2 : Heap, φ h1 → (∀ o, h1.get? a = some o → h2.get? a = some o) → φ h2

def HOk (H : Hp) (h : Heap) : Prop := ∀ a o, H a = some o → ObjOk P w H h a o
end

section
variable {P : Program} {w : World} {H H' : Hp} {h h' : Heap} {a : Addr} {o : HO}
theorem ObjOk.lt (x : ObjOk P w H h a o) : a < h.objs.size := by
  cases o with
  | lst xs => obtain ⟨_, _, _, _, e⟩ := x; exact Heap.lt_size e
  | tup xs => obtain ⟨_, _, _, p⟩ := x; exact p.lt
  | dK kvs => obtain ⟨_, _, _, _, o, _, _, e, _⟩ := x; exact Heap.lt_size e
  | dT kvs => obtain ⟨_, _, _, _, o, _, _, e, _⟩ := x; exact Heap.lt_size e
  | set S n => obtain ⟨o, _, _, _, e, _⟩ := x; exact Heap.lt_size e
  | ins C dx fs => obtain ⟨_, _, _, e, _⟩ := x; exact Heap.lt_size e
  | own y => obtain ⟨_, e⟩ := x; exact Heap.lt_size e
  | xd fs => obtain ⟨_, ⟨_, _, _, e, _⟩, _⟩ := x; exact Heap.lt_size e
  | rng lo hi => obtain ⟨_, _, _, e⟩ := x; exact Heap.lt_size e
  | frz ob u => obtain ⟨e, _⟩ := x; exact Heap.lt_size e
  | tbl ps => exact Heap.lt_size (show h.get? a = some _ from x)
  | met f y => exact Heap.lt_size (show h.get? a = some _ from x)
  | ext φ => obtain ⟨_, ⟨_, e⟩, _⟩ := x; exact Heap.lt_size e
theorem Paired.mapP {α β : Type} {F G : α → β → Prop} : ∀ {l₁ : List α} {l₂ : List β}, Paired F l₁ l₂ → (∀ a b, F a b → G a b) → Paired G l₁ l₂
  | _, _, .nil, _ => .nil
  | _, _, .cons r t, f => .cons (f _ _ r) (Paired.mapP t f)
theorem ObjOk.stay (x : ObjOk P w H h a o) (k : ∀ b u, (b = a ∨ H b = some (.own a)) → h.get? b = some u → h'.get? b = some u)
    (ho : ∀ b, H b = some (.own a) → H' b = some (.own a)) (ht : ∀ b xs, H b = some (.tup xs) → H' b = some (.tup xs)) : ObjOk P w H' h' a o := by
  induction o with
  | lst xs => obtain ⟨z, its, n, r, e⟩ := x; exact ⟨z, its, n, r, k _ _ (.inl rfl) e⟩
  | tup xs => obtain ⟨z, its, r, ob, e, c⟩ := x; exact ⟨z, its, r, ob, k _ _ (.inl rfl) e, c⟩
  | dK kvs => obtain ⟨z, y, vs, r, ob, es, ep, e, c⟩ := x; exact ⟨z, y, vs, r, ob, es, ep, k _ _ (.inl rfl) e, c⟩
  | dT kvs =>
    obtain ⟨z, y, xs, r, ob, es, ep, e, c⟩ := x
    exact ⟨z, y, xs, Paired.mapP r fun p q z => ⟨z.1, ht _ _ z.2.1, z.2.2⟩, ob, es, ep, k _ _ (.inl rfl) e, c⟩
  | set S n => obtain ⟨ob, es, ep, t, e, c⟩ := x; exact ⟨ob, es, ep, t, k _ _ (.inl rfl) e, c⟩
  | ins C dx fs =>
    obtain ⟨d, z, ne, e, mA, ⟨od, es, ep, e2, c⟩, r⟩ := x
    exact ⟨ho _ d, z, ne, k _ _ (.inl rfl) e, mA, ⟨od, es, ep, k _ _ (.inr d) e2, c⟩, r⟩
  | own y => obtain ⟨ob, e⟩ := x; exact ⟨ob, k _ _ (.inl rfl) e⟩
  | xd fs => obtain ⟨mA, ⟨od, es, ep, e, c⟩, r⟩ := x; exact ⟨mA, ⟨od, es, ep, k _ _ (.inl rfl) e, c⟩, r⟩
  | rng lo hi => obtain ⟨t, u, v, e⟩ := x; exact ⟨t, u, v, k _ _ (.inl rfl) e⟩
  | frz ob u ih => obtain ⟨e, q⟩ := x; exact ⟨k _ _ (.inl rfl) e, ih q⟩
  | tbl ps =>
    have e : h.get? a = some { cls := .none, data := .fields ps } := x
    show h'.get? a = some { cls := .none, data := .fields ps }
    exact k a _ (.inl rfl) e
  | met f y =>
    have e : h.get? a = some (PySem.W.methodObj (.ref f) (.ref y)) := x
    show h'.get? a = some (PySem.W.methodObj (.ref f) (.ref y))
    exact k a _ (.inl rfl) e
  | ext φ => obtain ⟨p, ⟨o, e⟩, st⟩ := x; exact ⟨st _ _ p fun o q => k _ _ (.inl rfl) q, ⟨o, k _ _ (.inl rfl) e⟩, st⟩
theorem HOk.lt (x : HOk P w H h) (e : H a = some o) : a < h.objs.size := (x a o e).lt
theorem HOk.fresh (x : HOk P w H h) (e : h.objs.size ≤ a) : H a = none := by
  cases q : H a with
  | none => rfl
  | some u => exact absurd (Nat.lt_of_lt_of_le (x.lt q) e) (Nat.lt_irrefl _)

theorem HOk.kept (x : HOk P w H h) (k : ∀ b u, h.get? b = some u → h'.get? b = some u) : HOk P w H h' := fun a o e =>
  (x a o e).stay (fun b u _ q => k b u q) (fun _ q => q) fun _ _ q => q

theorem HOk.laid (x : HOk P w H h) (k : ∀ b u, h.get? b = some u → h'.get? b = some u) (hp : h.objs.size ≤ a) (new : ObjOk P w (upd H a o) h' a o) : HOk P w (upd H a o) h' := fun b u e => by
  have hn := x.fresh hp
  by_cases hb : b = a
  · subst hb; rw [upd_same] at e; cases e; exact new
  · rw [upd_ne hb] at e
    exact (x b u e).stay (fun c v _ q => k c v q) (fun c q => by rw [upd_ne (ne_of_none q hn)]; exact q) fun c xs q => by rw [upd_ne (ne_of_none q hn)]; exact q
end


def Rd (H : Hp) (a : Addr) (u : HO) : Prop := H a = some u ∨ ∃ o, H a = some (.frz o u)
theorem Rd.ok {P : Program} {w : World} {H : Hp} {h : Heap} {a : Addr} {u : HO} (r : Rd H a u) (x : HOk P w H h) : ObjOk P w H h a u := by
  rcases r with r | ⟨o, r⟩
  · exact x a u r
  · obtain ⟨_, q⟩ := x a _ r
    exact q

def Mut : Option HO → Prop
  | some (.lst _) => True
  | some (.dK _) => True
  | some (.dT _) => True
  | some (.set _ _) => True
  | some (.ins _ _ _) => True
  | some (.ext _) => True
  | _ => False
section
variable {P : Program} {w : World} {H : Hp} {h h' : Heap} {x e : Addr} {o' : HO}

theorem HOk.write (ok : HOk P w H h) (mu : Mut (H x)) (he : e = x ∨ H e = some (.own x)) (k : ∀ b u, b ≠ e → h.get? b = some u → h'.get? b = some u) (heo : ∃ u, h'.get? e = some u)
    (new : ObjOk P w (upd H x o') h' x o') : HOk P w (upd H x o') h' := fun b u q => by
  have nown : ∀ c y, H c = some (.own y) → c ≠ x := fun c y r z => by subst z; rw [r] at mu; exact mu
  have ntup : ∀ c xs, H c = some (.tup xs) → c ≠ x := fun c xs r z => by subst z; rw [r] at mu; exact mu
  by_cases hb : b = x
  · subst hb; rw [upd_same] at q; cases q; exact new
  · rw [upd_ne hb] at q
    by_cases hbe : b = e
    · have q' : H b = some (.own x) := by
        rcases he with z | z
        · exact absurd (hbe.trans z) hb
        · rw [hbe]; exact z
      rw [q] at q'; cases q'
      obtain ⟨v, hv⟩ := heo
      exact ⟨v, by rw [hbe]; exact hv⟩
    · refine (ok b u q).stay (fun c v hc r => k c v ?_ r) (fun c r => by rw [upd_ne (nown c b r)]; exact r) fun c xs r => by rw [upd_ne (ntup c xs r)]; exact r
      rcases hc with rfl | hc
      · exact hbe
      · rintro rfl
        rcases he with z | z
        · exact nown c b hc z
        · rw [hc] at z; cases z; exact hb rfl
end


structure Un (fs ex : List Addr) (H H' : Hp) (h h' : Heap) : Prop where
  keep : ∀ b o, h.get? b = some o → H b = none → b ∉ fs → b ∉ ex → h'.get? b = some o
  slot : ∀ b o, h.get? b = some o → H b = none → b ∈ fs → b ∉ ex → ∃ sl, h'.get? b = some { o with slots := sl }
  free : ∀ b o, h.get? b = some o → H b = none → b ∉ ex → H' b = none
  there : ∀ b o, h.get? b = some o → b ∉ ex → ∃ o', h'.get? b = some o'
  tups : ∀ b xs, H b = some (.tup xs) → H' b = some (.tup xs)
  frzs : ∀ b o u, H b = some (.frz o u) → H' b = some (.frz o u)
  tbls : ∀ b ps, H b = some (.tbl ps) → ∃ more, H' b = some (.tbl (ps ++ more))
section
variable {fs fs' ex ex' : List Addr} {H H1 H2 : Hp} {h h1 h2 h' : Heap} {a x e : Addr} {o : HO}
theorem Un.any (u : Un fs ex H H1 h h1) {b : Addr} {ob : Obj} (q : h.get? b = some ob) (n : H b = none) (hx : b ∉ ex) : ∃ sl, h1.get? b = some { ob with slots := sl } := by
  by_cases hb : b ∈ fs
  · exact u.slot b ob q n hb hx
  · exact ⟨ob.slots, u.keep b ob q n hb hx⟩
theorem Un.kept (k : ∀ b u, h.get? b = some u → h'.get? b = some u) : Un fs ex H H h h' :=
  ⟨fun b ob q _ _ _ => k b ob q, fun b ob q _ _ _ => ⟨ob.slots, k b ob q⟩, fun _ _ _ n _ => n, fun b ob q _ => ⟨ob, k b ob q⟩, fun _ _ q => q, fun _ _ _ q => q, fun _ ps q => ⟨#[], by rw [q]; simp⟩⟩
theorem Un.refl : Un fs ex H H h h := Un.kept fun _ _ q => q
theorem Un.laid (k : ∀ b u, h.get? b = some u → h'.get? b = some u) (hp : h.objs.size ≤ a) (hn : H a = none) : Un fs ex H (upd H a o) h h' where
  keep := fun b u q _ _ _ => k b u q
  slot := fun b u q _ _ _ => ⟨u.slots, k b u q⟩
  free := fun b u q n _ => by rw [upd_ne (Nat.ne_of_lt (Nat.lt_of_lt_of_le (Heap.lt_size q) hp))]; exact n
  there := fun b u q _ => ⟨u, k b u q⟩
  tups := fun b xs q => by rw [upd_ne (ne_of_none q hn)]; exact q
  frzs := fun b u xs q => by rw [upd_ne (ne_of_none q hn)]; exact q
  tbls := fun b ps q => ⟨#[], by rw [upd_ne (ne_of_none q hn), q]; simp⟩
theorem Un.write (mu : Mut (H x)) (he : e = x ∨ H e = some (.own x)) (k : ∀ b u, b ≠ e → h.get? b = some u → h'.get? b = some u) (heo : ∃ u, h'.get? e = some u) : Un fs ex H (upd H x o) h h' := by
  have hx : ∀ b, H b = none → b ≠ x := fun b n z => by subst z; rw [n] at mu; exact mu
  have hb : ∀ b, H b = none → b ≠ e := fun b n z => by
    subst z
    rcases he with r | r
    · exact hx b n r
    · rw [n] at r; cases r
  have hm : ∀ b u, H b = some u → ¬ Mut (some u) → b ≠ x := fun b u q nm z => by subst z; rw [q] at mu; exact nm mu
  refine ⟨fun b u q n _ _ => k b u (hb b n) q, fun b u q n _ _ => ⟨u.slots, k b u (hb b n) q⟩, fun b u q n _ => by rw [upd_ne (hx b n)]; exact n, fun b u q _ => ?_,
    fun b xs q => by rw [upd_ne (hm b _ q fun z => z)]; exact q, fun b u xs q => by rw [upd_ne (hm b _ q fun z => z)]; exact q, fun b ps q => ⟨#[], by rw [upd_ne (hm b _ q fun z => z), q]; simp⟩⟩
  by_cases hbe : b = e
  · subst hbe; exact heo
  · exact ⟨u, k b u hbe q⟩
end


def trk (h : Heap) (H : Hp) : List Addr := (List.range h.objs.size).filter fun a => (H a).isSome
def hidT (h : Heap) (H : Hp) : Heap := PySem.W.hideAll h (trk h H)
theorem hidT_size (h : Heap) (H : Hp) : (hidT h H).objs.size = h.objs.size := PySem.W.hideAll_size _ _
theorem hidT_get {h : Heap} {H : Hp} {b : Addr} {o : Obj} (e : h.get? b = some o) (n : H b = none) : (hidT h H).get? b = some o :=
  PySem.W.hideAll_get _ e fun hm => by
    have q : (H b).isSome = true := (List.mem_filter.mp hm).2
    rw [n] at q; simp at q
theorem of_hidT {h : Heap} {H : Hp} {b : Addr} {o : Obj} (e : (hidT h H).get? b = some o) : h.get? b = some o ∧ H b = none := by
  have e' : h.get? b = some o := PySem.W.of_hideAll (trk h H) e
  refine ⟨e', ?_⟩
  cases q : H b with
  | none => rfl
  | some x =>
    have hm : b ∈ trk h H := List.mem_filter.mpr ⟨List.mem_range.mpr (Heap.lt_size e'), by simp [q]⟩
    have z : (hidT h H).get? b = none := PySem.W.hideAll_none (trk h H) hm
    rw [z] at e; cases e


end L2

namespace L2
open PySem PySem.Spec PyProof.Rows


structure Mod (K : PySem.W.Frag) (mg : Str → Option Value) (base : Heap) : Prop where
  kin : K.In base
  glob : base.Ns mainGlobals mg
  blt : ∃ mb, base.Ns builtinsNs mb ∧ ∀ x : Str, x ≠ "__name__" → mb x = bootBuiltins x
  nolimit : base.NoLimit


structure Cx where
  prog : Program
  w : World
  K : PySem.W.Frag
  mg : Str → Option Value
  base : Heap
  A : Around
  N : List Str
  s₀ : Shared
  H₀ : Hp
  env : Env
  outer : List Env
  stack : List Env
  ex : List Addr
  fn : Str → Bool
  calm : Bool
  pn : List (Addr × Obj)
  xe : Value → Shared → Prop

def frs (l : List Env) : List Addr := l.filterMap (·.frame)
abbrev Cx.fs (X : Cx) : List Addr := frs X.outer

def Vis (sc : Scope) (x : Str) : Prop := sc.names.lookup x = some .local ∨ sc.names.lookup x = some .cell ∨ sc.names.lookup x = some .free
def Loc (sc : Scope) (x : Str) : Prop := sc.names.lookup x = some .local ∨ sc.names.lookup x = some .cell
def Look (env : Env) (h : Heap) (m : Str → Option Value) (x : Str) (u : Value) : Prop :=
  (env.kindOf x = some .local ∧ m x = some u) ∨ ((env.kindOf x = some .cell ∨ env.kindOf x = some .free) ∧ ∃ c, env.cells.lookup x = some c ∧ h.IsCell c (some u))

structure Cx.Ok (X : Cx) : Prop where
  mod : Mod X.K X.mg X.base
  kind : X.env.scope.kind = .function
  glob : X.env.globals = mainGlobals
  blt : X.env.builtins = builtinsNs
  above : X.s₀.heap.objs.size ≤ X.env.locals
  inj : ∀ x y c, X.env.cells.lookup x = some c → X.env.cells.lookup y = some c → x = y
  has : ∀ x, (X.env.kindOf x = some .cell ∨ X.env.kindOf x = some .free) → ∃ c, X.env.cells.lookup x = some c
  cab : ∀ x c, X.fn x = true → X.env.cells.lookup x = some c → X.s₀.heap.objs.size ≤ c
  hd : X.calm = true → X.A.handled = none
  frames : X.A.frames = some X.stack
  stk : X.stack = X.outer ∨ (X.stack = X.env :: X.outer ∧ X.env.frame = some X.env.locals)
  exf : ∀ b ∈ X.ex, b ≠ X.env.locals ∧ ∀ x c, X.env.cells.lookup x = some c → c ≠ b
  bs : ∀ b o, X.base.get? b = some o → X.s₀.heap.get? b = some o ∧ X.H₀ b = none
  bsz : X.base.objs.size ≤ X.s₀.heap.objs.size
  noex : ∀ b o, X.base.get? b = some o → b ∉ X.ex
  exfs : ∀ b ∈ X.ex, b ∉ X.fs
  funs : X.s₀.heap.FunFrames X.base X.outer
  frf : ∀ b ∈ X.fs, X.H₀ b = none

structure Inv (X : Cx) (pins : List (Addr × Obj)) (σ : List (Option V)) (H : Hp) (s : Shared) : Prop where
  ok : X.Ok
  os : s.os = X.s₀.os
  bare : AllBare s.gens
  base : Un X.fs X.ex X.H₀ H X.s₀.heap s.heap
  loc : ∃ m, s.heap.Ns X.env.locals m ∧ ∀ (i : Nat) (x : Str) (v : V), X.N[i]? = some x → σ[i]? = some (some v) → Vis X.env.scope x → ∃ u, RelV v u ∧ Look X.env s.heap m x u
  cell : ∀ x c, X.env.cells.lookup x = some c → ∃ v, s.heap.IsCell c v
  free : H X.env.locals = none
  freeC : ∀ x c, X.env.cells.lookup x = some c → H c = none
  pin : ∀ p ∈ X.pn ++ pins, s.heap.get? p.1 = some p.2 ∧ H p.1 = none ∧ p.1 ≠ X.env.locals ∧ p.1 ∉ X.fs ∧ ∀ v, p.2.data ≠ .cell v
  hok : HOk X.prog X.w H s.heap
  len : σ.length = X.N.length

section
variable {X : Cx} {pins : List (Addr × Obj)} {σ : List (Option V)} {H H' : Hp} {s : Shared} {h' : Heap}

theorem Cx.Ok.nofr (ok : X.Ok) {b : Addr} {o : Obj} (e : X.base.get? b = some o) : b ∉ X.fs := fun hb => by
  have := (ok.funs.mem hb).1
  rw [e] at this; cases this
theorem Inv.bs (I : Inv X pins σ H s) : ∀ b o, X.base.get? b = some o → s.heap.get? b = some o ∧ H b = none := fun b o e =>
  ⟨I.base.keep b o (I.ok.bs b o e).1 (I.ok.bs b o e).2 (I.ok.nofr e) (I.ok.noex b o e), I.base.free b o (I.ok.bs b o e).1 (I.ok.bs b o e).2 (I.ok.noex b o e)⟩
theorem Inv.bk (I : Inv X pins σ H s) : ∀ b o, X.base.get? b = some o → s.heap.get? b = some o := fun b o e => (I.bs b o e).1
theorem Inv.mod (I : Inv X pins σ H s) : Mod X.K X.mg X.base := I.ok.mod
theorem Inv.kIn (I : Inv X pins σ H s) : X.K.In s.heap := I.ok.mod.kin.keeps I.bk
theorem Inv.lt (I : Inv X pins σ H s) : X.env.locals < s.heap.objs.size := let ⟨_, hn, _⟩ := I.loc; hn.lt
theorem Inv.sz (I : Inv X pins σ H s) : X.s₀.heap.objs.size ≤ s.heap.objs.size := Nat.le_trans I.ok.above (Nat.le_of_lt I.lt)
theorem Inv.nofs (I : Inv X pins σ H s) {a : Addr} (h : s.heap.objs.size ≤ a) : a ∉ X.fs := fun hb => by
  obtain ⟨_, o, ho, _⟩ := I.ok.funs.mem hb
  exact absurd (Nat.lt_of_lt_of_le (Heap.lt_size ho) (Nat.le_trans I.sz h)) (Nat.lt_irrefl _)
theorem Inv.cne (I : Inv X pins σ H s) : ∀ x c, X.env.cells.lookup x = some c → c ≠ X.env.locals := fun x c e z => by
  obtain ⟨v, o, ho, hd⟩ := I.cell x c e
  obtain ⟨m, ⟨o', es, ep, ho', hd', _⟩, _⟩ := I.loc
  rw [z, ho'] at ho; cases ho; rw [hd'] at hd; cases hd
theorem Inv.funs (I : Inv X pins σ H s) : s.heap.FunFrames X.base X.outer := by
  have all : ∀ (l : List Env), (∀ b ∈ frs l, b ∈ X.fs) → X.s₀.heap.FunFrames X.base l → s.heap.FunFrames X.base l := by
    intro l
    induction l with
    | nil => intro _ _; trivial
    | cons env r ih =>
      intro hs hl
      obtain ⟨hk, ⟨L, o, hf, hn, ho, hd⟩, hr⟩ := hl
      have hL : L ∈ X.fs := hs L (by unfold frs; rw [List.filterMap_cons, hf]; exact List.mem_cons_self)
      obtain ⟨sl, e⟩ := I.base.slot L o ho (I.ok.frf L hL) hL fun z => I.ok.exfs L z hL
      exact ⟨hk, ⟨L, _, hf, hn, e, hd⟩, ih (fun b hb => hs b (by unfold frs; rw [List.filterMap_cons, hf]; exact List.mem_cons_of_mem _ hb)) hr⟩
  exact all X.outer (fun _ hb => hb) I.ok.funs


theorem Inv.stack (I : Inv X pins σ H s) : s.heap.FunFrames X.base X.stack := by
  rcases I.ok.stk with e | ⟨e, hf⟩
  · rw [e]; exact I.funs
  · rw [e]
    obtain ⟨m, hn, _⟩ := I.loc
    refine .cons (by rw [I.ok.kind]; decide) hf hn ?_ I.funs
    exact Heap.get?_none_of_le (Nat.le_trans I.ok.bsz I.ok.above)
theorem Inv.stkSub (I : Inv X pins σ H s) : ∀ b ∈ frs X.stack, b ∈ X.env.locals :: X.fs := fun b hb => by
  rcases I.ok.stk with e | ⟨e, hf⟩
  · rw [e] at hb; exact List.mem_cons_of_mem _ hb
  · rw [e] at hb
    unfold frs at hb
    rw [List.filterMap_cons, hf] at hb
    exact hb
theorem Inv.stkFree (I : Inv X pins σ H s) : ∀ b ∈ frs X.stack, H b = none := fun b hb => by
  rcases List.mem_cons.mp (I.stkSub b hb) with e | hb
  · rw [e]; exact I.free
  · obtain ⟨_, o, ho, _⟩ := I.ok.funs.mem hb
    exact I.base.free b o ho (I.ok.frf b hb) fun z => I.ok.exfs b z hb


theorem Inv.step {g' : Array GenState} {t' : Nat} {d' : Drawn} {ch : List Addr} (I : Inv X pins σ H s)
    (hch : ∀ b ∈ ch, (b ∈ X.ex ∨ X.s₀.heap.objs.size ≤ b) ∧ b ≠ X.env.locals ∧ (∀ x c, X.env.cells.lookup x = some c → c ≠ b) ∧ ∀ p ∈ X.pn ++ pins, p.1 ≠ b)
    (keep : ∀ b o, b ≠ X.env.locals → b ∉ X.fs → b ∉ ch → s.heap.get? b = some o → H b = none → h'.get? b = some o)
    (slot : ∀ b o, b ≠ X.env.locals → b ∈ X.fs → b ∉ ch → s.heap.get? b = some o → H b = none → ∃ sl, h'.get? b = some { o with slots := sl }) (free : ∀ b o, b ∉ ch → s.heap.get? b = some o → H b = none → H' b = none)
    (there : ∀ b o, b ∉ ch → s.heap.get? b = some o → ∃ o', h'.get? b = some o')
    (tups : ∀ b xs, H b = some (.tup xs) → H' b = some (.tup xs)) (frzs : ∀ b o u, H b = some (.frz o u) → H' b = some (.frz o u)) (tbls : ∀ b ps, H b = some (.tbl ps) → ∃ more, H' b = some (.tbl (ps ++ more)))
    (ns : ∀ m, s.heap.Ns X.env.locals m → h'.Ns X.env.locals m) (hok : HOk X.prog X.w H' h') (hg : AllBare g') :
    Inv X pins σ H' { s with heap := h', gens := g', drawn := d', toks := t' } := by
  have neL : ∀ b o, X.s₀.heap.get? b = some o → b ≠ X.env.locals := fun b o e => Nat.ne_of_lt (Nat.lt_of_lt_of_le (Heap.lt_size e) I.ok.above)
  have neC : ∀ b o, X.s₀.heap.get? b = some o → b ∉ X.ex → b ∉ ch := fun b o e hx hb => by
    rcases (hch b hb).1 with z | z
    · exact hx z
    · exact absurd (Nat.lt_of_lt_of_le (Heap.lt_size e) z) (Nat.lt_irrefl _)
  have cellK : ∀ x c, X.env.cells.lookup x = some c → ∀ v, s.heap.IsCell c v → h'.IsCell c v := fun x c e v ⟨o, ho, hd⟩ => by
    have nch : c ∉ ch := fun z => (hch c z).2.2.1 x c e rfl
    by_cases hc : c ∈ X.fs
    · obtain ⟨sl, q⟩ := slot c o (I.cne x c e) hc nch ho (I.freeC x c e)
      exact ⟨_, q, hd⟩
    · exact ⟨o, keep c o (I.cne x c e) hc nch ho (I.freeC x c e), hd⟩
  refine ⟨I.ok, I.os, hg, ⟨fun b o e n hb hx => ?_, fun b o e n hb hx => ?_, fun b o e n hx => ?_, fun b o e hx => ?_, fun b xs e => tups b xs (I.base.tups b xs e), fun b o xs e => frzs b o xs (I.base.frzs b o xs e), fun b ps e => ?_⟩, ?_, fun x c e => ?_, ?_, fun x c e => ?_, fun p hp => ?_, hok, I.len⟩
  · exact keep b o (neL b o e) hb (neC b o e hx) (I.base.keep b o e n hb hx) (I.base.free b o e n hx)
  · obtain ⟨sl, e1⟩ := I.base.slot b o e n hb hx
    obtain ⟨sl', e2⟩ := slot b _ (neL b o e) hb (neC b o e hx) e1 (I.base.free b o e n hx)
    exact ⟨sl', e2⟩
  · obtain ⟨o', e1⟩ := I.base.there b o e hx
    exact free b o' (neC b o e hx) e1 (I.base.free b o e n hx)
  · obtain ⟨o', e1⟩ := I.base.there b o e hx
    exact there b o' (neC b o e hx) e1
  · obtain ⟨m1, e1⟩ := I.base.tbls b ps e
    obtain ⟨m2, e2⟩ := tbls b _ e1
    exact ⟨m1 ++ m2, by rw [e2, Array.append_assoc]⟩
  · obtain ⟨m, hn, hl⟩ := I.loc
    refine ⟨m, ns m hn, fun i x v e1 e2 e3 => ?_⟩
    obtain ⟨u, r, l⟩ := hl i x v e1 e2 e3
    refine ⟨u, r, ?_⟩
    rcases l with l | ⟨k, c, e, z⟩
    · exact .inl l
    · exact .inr ⟨k, c, e, cellK x c e _ z⟩
  · obtain ⟨v, z⟩ := I.cell x c e
    exact ⟨v, cellK x c e v z⟩
  · obtain ⟨m, ⟨o, _, _, ho, _⟩, _⟩ := I.loc
    exact free _ o (fun z => (hch _ z).2.1 rfl) ho I.free
  · obtain ⟨v, o, ho, hd⟩ := I.cell x c e
    exact free c o (fun z => (hch c z).2.2.1 x c e rfl) ho (I.freeC x c e)
  · obtain ⟨e, n, ne, nf, d⟩ := I.pin p hp
    have nch : p.1 ∉ ch := fun z => (hch p.1 z).2.2.2 p hp rfl
    exact ⟨keep p.1 p.2 ne nf nch e n, free p.1 p.2 nch e n, ne, nf, d⟩

theorem Inv.un {t' : Nat} (I : Inv X pins σ H s) (u : Un X.fs [] H H' s.heap h') (hok : HOk X.prog X.w H' h') : Inv X pins σ H' { s with heap := h', toks := t' } := by
  obtain ⟨m, ⟨o, es, ep, ho, r⟩, _⟩ := id I.loc
  obtain ⟨sl, hL⟩ := u.any ho I.free (by simp)
  exact I.step (g' := s.gens) (d' := s.drawn) (ch := []) (fun _ z => nomatch z) (fun b o _ hb _ e n => u.keep b o e n hb (by simp)) (fun b o _ hb _ e n => u.slot b o e n hb (by simp)) (fun b o _ e n => u.free b o e n (by simp)) (fun b o _ e => u.there b o e (by simp)) u.tups u.frzs u.tbls (fun m' hm => by
    obtain ⟨o', es', ep', ho', r'⟩ := hm
    rw [ho] at ho'; cases ho'
    exact ⟨_, es', ep', hL, r'⟩) hok I.bare

theorem Inv.call {g' : Array GenState} {t' : Nat} {d' : Drawn} {ch : List Addr} (I : Inv X pins σ H s) (u : Un (frs X.stack) ch H H' s.heap h') (hok : HOk X.prog X.w H' h') (hg : AllBare g')
    (hch : ∀ b ∈ ch, (b ∈ X.ex ∨ X.s₀.heap.objs.size ≤ b) ∧ b ≠ X.env.locals ∧ (∀ x c, X.env.cells.lookup x = some c → c ≠ b) ∧ ∀ p ∈ X.pn ++ pins, p.1 ≠ b) :
    Inv X pins σ H' { s with heap := h', gens := g', drawn := d', toks := t' } := by
  obtain ⟨m, ⟨o, es, ep, ho, r⟩, _⟩ := id I.loc
  obtain ⟨sl, hL⟩ := u.any ho I.free fun z => (hch _ z).2.1 rfl
  exact I.step (ch := ch) hch (fun b o hL hb hc e n => u.keep b o e n (fun z => (List.mem_cons.mp (I.stkSub b z)).elim hL hb) hc) (fun b o _ _ hc e n => u.any e n hc) (fun b o hc e n => u.free b o e n hc) (fun b o hc e => u.there b o e hc) u.tups u.frzs u.tbls (fun m' hm => by
    obtain ⟨o', es', ep', ho', r'⟩ := hm
    rw [ho] at ho'; cases ho'
    exact ⟨_, es', ep', hL, r'⟩) hok hg

theorem Inv.turned {t' : Nat} {it : Addr} (I : Inv X pins σ H s) (k : ∀ b o, b ≠ it → s.heap.get? b = some o → h'.get? b = some o) (hn : H it = none) (hL : it ≠ X.env.locals)
    (h1 : it ∈ X.ex ∨ X.s₀.heap.objs.size ≤ it) (h2 : ∀ x c, X.env.cells.lookup x = some c → c ≠ it) (h3 : ∀ p ∈ X.pn ++ pins, p.1 ≠ it) : Inv X pins σ H { s with heap := h', toks := t' } := by
  have nit : ∀ b u, H b = some u → b ≠ it := fun b u e z => by rw [z, hn] at e; cases e
  refine I.step (g' := s.gens) (d' := s.drawn) (ch := [it]) (fun b hb => ?_) (fun b o _ _ hc e _ => k b o (fun z => hc (by simp [z])) e) (fun b o _ _ hc e _ => ⟨o.slots, k b o (fun z => hc (by simp [z])) e⟩) (fun _ _ _ _ n => n)
    (fun b o hc e => ⟨o, k b o (fun z => hc (by simp [z])) e⟩) (fun _ _ e => e) (fun _ _ _ e => e) (fun b ps e => ⟨#[], by rw [e]; simp⟩) (fun m hm => ?_) (fun b u e => ?_) I.bare
  · have e : b = it := by simpa using hb
    subst e
    exact ⟨h1, hL, h2, h3⟩
  · obtain ⟨o, es, ep, ho, r⟩ := hm
    exact ⟨o, es, ep, k _ o (Ne.symm hL) ho, r⟩
  · refine (I.hok b u e).stay (fun c v hc q => k c v ?_ q) (fun _ q => q) fun _ _ q => q
    rcases hc with z | z
    · rw [z]; exact nit b u e
    · exact nit c _ z
theorem Inv.tok (I : Inv X pins σ H s) (t : Nat) : Inv X pins σ H { s with toks := t } := I.un (h' := s.heap) (t' := t) Un.refl I.hok

theorem Inv.kept {t' : Nat} (I : Inv X pins σ H s) (k : ∀ b u, s.heap.get? b = some u → h'.get? b = some u) : Inv X pins σ H { s with heap := h', toks := t' } := I.un (Un.kept k) (I.hok.kept k)

theorem Inv.laid {a : Addr} {o : HO} {t' : Nat} (I : Inv X pins σ H s) (k : ∀ b u, s.heap.get? b = some u → h'.get? b = some u) (hp : s.heap.objs.size ≤ a) (new : ObjOk X.prog X.w (upd H a o) h' a o) :
    Inv X pins σ (upd H a o) { s with heap := h', toks := t' } := I.un (Un.laid k hp (I.hok.fresh hp)) (I.hok.laid k hp new)

theorem Inv.write {x e : Addr} {o : HO} {t' : Nat} (I : Inv X pins σ H s) (mu : Mut (H x)) (he : e = x ∨ H e = some (.own x)) (k : ∀ b u, b ≠ e → s.heap.get? b = some u → h'.get? b = some u) (heo : ∃ u, h'.get? e = some u)
    (new : ObjOk X.prog X.w (upd H x o) h' x o) : Inv X pins σ (upd H x o) { s with heap := h', toks := t' } := I.un (Un.write mu he k heo) (I.hok.write mu he k heo new)

theorem Inv.pins_of {pins' : List (Addr × Obj)} (I : Inv X pins σ H s) (h : ∀ p ∈ pins', s.heap.get? p.1 = some p.2 ∧ H p.1 = none ∧ p.1 ≠ X.env.locals ∧ p.1 ∉ X.fs ∧ ∀ v, p.2.data ≠ .cell v) : Inv X pins' σ H s :=
  ⟨I.ok, I.os, I.bare, I.base, I.loc, I.cell, I.free, I.freeC, fun p hp => (List.mem_append.mp hp).elim (fun z => I.pin p (List.mem_append_left _ z)) (h p), I.hok, I.len⟩

theorem nodup_ix {N : List Str} (hN : N.Nodup) {i j : Nat} {x : Str} (a : N[i]? = some x) (b : N[j]? = some x) : i = j := by
  obtain ⟨h1, e1⟩ := List.getElem?_eq_some_iff.mp a
  obtain ⟨h2, e2⟩ := List.getElem?_eq_some_iff.mp b
  exact (List.getElem_inj hN).mp (e1.trans e2.symm)


theorem store_ok2 {M : Model} {A : Around} {E : Value → Shared → Prop} {i : Nat} {x : Str} {v : V} {u : Value} {Q : Unit → Shared → Prop} (I : Inv X pins σ H s) (hN : X.N.Nodup) (hi : X.N[i]? = some x) (hx : Loc X.env.scope x) (r : RelV v u)
    (h : ∀ s', Inv X pins (σ.set i (some v)) H s' → (∃ a, Heap.SameBut a s.heap s'.heap ∧ (a = X.env.locals ∨ X.env.cells.lookup x = some a)) → Q () s') (hf : X.fn x = true ∨ X.env.scope.names.lookup x = some .local := by first | exact .inl rfl | exact .inr rfl | assumption) : wpAny M A (storeName X.env x u) Q E s := by
  obtain ⟨m, hn, hl⟩ := id I.loc
  have hcls : (X.env.scope.kind == .class || (X.env.scope.kind == .module && X.env.locals != X.env.globals)) = false := by rw [I.ok.kind]; rfl
  have hiσ : i < σ.length := by rw [I.len]; exact (List.getElem?_eq_some_iff.mp hi).1
  have cne := I.cne
  have tracked : ∀ {a : Addr} {h' : Heap}, (∃ o, s.heap.get? a = some o ∧ H a = none) → Heap.SameBut a s.heap h' → HOk X.prog X.w H h' := fun {a h'} ha hs b ob e => by
    obtain ⟨_, _, hfree⟩ := ha
    refine (I.hok b ob e).stay (fun c w' hc q => (hs.2 c ?_).trans q) (fun _ q => q) fun _ _ q => q
    rintro rfl
    rcases hc with rfl | hc
    · rw [hfree] at e; cases e
    · rw [hfree] at hc; cases hc
  rcases hx with hk | hk
  · refine wpAny_storeName_local hk hn (fun h' hn' hs => ?_) hcls
    obtain ⟨oL, _, _, hoL, _⟩ := id hn
    refine h _ ⟨I.ok, I.os, I.bare, ⟨fun b o e n hb hx => ?_, fun b o e n hb hx => ?_, I.base.free, fun b o e hx => ?_, I.base.tups, I.base.frzs, I.base.tbls⟩, ⟨_, hn', fun j y v' e1 e2 e3 => ?_⟩, fun y c e => ?_, I.free, I.freeC, fun p hp => ?_, tracked ⟨oL, hoL, I.free⟩ hs, by simpa using I.len⟩ ⟨_, hs, .inl rfl⟩
    · exact (hs.2 b (Nat.ne_of_lt (Nat.lt_of_lt_of_le (Heap.lt_size e) I.ok.above))).trans (I.base.keep b o e n hb hx)
    · obtain ⟨sl, e1⟩ := I.base.slot b o e n hb hx
      exact ⟨sl, (hs.2 b (Nat.ne_of_lt (Nat.lt_of_lt_of_le (Heap.lt_size e) I.ok.above))).trans e1⟩
    · obtain ⟨o', e1⟩ := I.base.there b o e hx
      exact ⟨o', (hs.2 b (Nat.ne_of_lt (Nat.lt_of_lt_of_le (Heap.lt_size e) I.ok.above))).trans e1⟩
    · by_cases hj : j = i
      · subst hj
        rw [hi] at e1; cases e1
        rw [List.getElem?_set_self hiσ] at e2
        cases e2
        exact ⟨u, r, .inl ⟨hk, by simp⟩⟩
      · rw [List.getElem?_set_ne (Ne.symm hj)] at e2
        obtain ⟨u', r', q⟩ := hl j y v' e1 e2 e3
        refine ⟨u', r', ?_⟩
        rcases q with ⟨k, e⟩ | ⟨k, c, e, z⟩
        · refine .inl ⟨k, ?_⟩
          have : y ≠ x := fun e => hj (nodup_ix hN e1 (e ▸ hi))
          simp [this, e]
        · exact .inr ⟨k, c, e, z.sameBut hs (cne y c e)⟩
    · obtain ⟨w', z⟩ := I.cell y c e
      exact ⟨w', z.sameBut hs (cne y c e)⟩
    · obtain ⟨e, n, ne, nf, d⟩ := I.pin p hp
      exact ⟨(hs.2 p.1 ne).trans e, n, ne, nf, d⟩
  · have hfn : X.fn x = true := by
      rcases hf with z | z
      · exact z
      · rw [z] at hk; cases hk
    obtain ⟨c, hc⟩ := I.ok.has x (.inl hk)
    obtain ⟨w', z⟩ := I.cell x c hc
    refine wpAny_storeName_cell I.ok.kind hk hc z (fun h' hc' hs => ?_)
    obtain ⟨oc, hoc, hocd⟩ := id z
    refine h { s with heap := h' } ⟨I.ok, I.os, I.bare, ⟨fun b o e n hb hx => ?_, fun b o e n hb hx => ?_, I.base.free, fun b o e hx => ?_, I.base.tups, I.base.frzs, I.base.tbls⟩, ⟨m, hn.sameBut hs (Ne.symm (cne x c hc)), fun j y v' e1 e2 e3 => ?_⟩, fun y c' e => ?_, I.free, I.freeC, fun p hp => ?_, tracked ⟨oc, hoc, I.freeC x c hc⟩ hs, by simpa using I.len⟩ ⟨c, hs, .inr hc⟩
    · exact (hs.2 b (Nat.ne_of_lt (Nat.lt_of_lt_of_le (Heap.lt_size e) (I.ok.cab x c hfn hc)))).trans (I.base.keep b o e n hb hx)
    · obtain ⟨sl, e1⟩ := I.base.slot b o e n hb hx
      exact ⟨sl, (hs.2 b (Nat.ne_of_lt (Nat.lt_of_lt_of_le (Heap.lt_size e) (I.ok.cab x c hfn hc)))).trans e1⟩
    · obtain ⟨o', e1⟩ := I.base.there b o e hx
      exact ⟨o', (hs.2 b (Nat.ne_of_lt (Nat.lt_of_lt_of_le (Heap.lt_size e) (I.ok.cab x c hfn hc)))).trans e1⟩
    · by_cases hj : j = i
      · subst hj
        rw [hi] at e1; cases e1
        rw [List.getElem?_set_self hiσ] at e2
        cases e2
        exact ⟨u, r, .inr ⟨.inl hk, c, hc, hc'⟩⟩
      · rw [List.getElem?_set_ne (Ne.symm hj)] at e2
        obtain ⟨u', r', q⟩ := hl j y v' e1 e2 e3
        refine ⟨u', r', ?_⟩
        rcases q with q | ⟨k, c', e, z'⟩
        · exact .inl q
        · refine .inr ⟨k, c', e, z'.sameBut hs ?_⟩
          rintro rfl
          exact hj (nodup_ix hN e1 (I.ok.inj _ _ _ e hc ▸ hi))
    · by_cases hcc : c' = c
      · subst hcc; exact ⟨_, hc'⟩
      · obtain ⟨w2, z2⟩ := I.cell y c' e
        exact ⟨w2, z2.sameBut hs hcc⟩
    · obtain ⟨e, n, ne, nf, d⟩ := I.pin p hp
      refine ⟨(hs.2 p.1 ?_).trans e, n, ne, nf, d⟩
      intro q
      rw [q, hoc] at e
      have q' : oc = p.2 := Option.some.inj e
      exact d w' (by rw [← q']; exact hocd)
theorem store_ok {M : Model} {A : Around} {E : Value → Shared → Prop} {i : Nat} {x : Str} {v : V} {u : Value} {Q : Unit → Shared → Prop} (I : Inv X pins σ H s) (hN : X.N.Nodup) (hi : X.N[i]? = some x) (hx : Loc X.env.scope x) (r : RelV v u)
    (h : ∀ s', Inv X pins (σ.set i (some v)) H s' → Q () s') (hf : X.fn x = true ∨ X.env.scope.names.lookup x = some .local := by first | exact .inl rfl | exact .inr rfl | assumption) : wpAny M A (storeName X.env x u) Q E s :=
  store_ok2 I hN hi hx r (fun s' I' _ => h s' I') hf

theorem Inv.call' {s' : Shared} {ch : List Addr} (I : Inv X pins σ H s) (ho : s'.os = s.os) (u : Un (frs X.stack) ch H H' s.heap s'.heap) (hok : HOk X.prog X.w H' s'.heap) (hg : AllBare s'.gens)
    (hch : ∀ b ∈ ch, (b ∈ X.ex ∨ X.s₀.heap.objs.size ≤ b) ∧ b ≠ X.env.locals ∧ (∀ x c, X.env.cells.lookup x = some c → c ≠ b) ∧ ∀ p ∈ X.pn ++ pins, p.1 ≠ b) : Inv X pins σ H' s' := by
  obtain ⟨h', g', d', t', o'⟩ := s'
  have e : o' = s.os := ho
  subst e
  exact I.call (g' := g') (t' := t') (d' := d') u hok hg hch
end



abbrev XK := Value → Option Addr → Hp → Prop
abbrev St := List (Option V)
abbrev VK := V → Hp → Prop

abbrev TE := St → Hp → VK → Prop
abbrev TT := St → Hp → (Bool → Hp → Prop) → Prop
abbrev TA := St → Hp → (List V → Hp → Prop) → Prop

structure Ends where
  nx : St → Hp → Prop
  rt : VK
  bk : St → Hp → Prop := fun _ _ => False
  ct : St → Hp → Prop := fun _ _ => False
abbrev TS := Ends → St → Hp → Prop

def EP (X : Cx) (pins : List (Addr × Obj)) (σ : St) (Q : VK) (u : Value) (s' : Shared) : Prop := ∃ v H', Inv X pins σ H' s' ∧ RelV v u ∧ Q v H'
def TP (X : Cx) (pins : List (Addr × Obj)) (σ : St) (Q : Bool → Hp → Prop) (b : Bool) (s' : Shared) : Prop := ∃ H', Inv X pins σ H' s' ∧ Q b H'
def AP (X : Cx) (pins : List (Addr × Obj)) (σ : St) (Q : List V → Hp → Prop) (us : List Value) (s' : Shared) : Prop := ∃ vs H', Inv X pins σ H' s' ∧ Vals vs us ∧ Q vs H'
def SP (X : Cx) (pins : List (Addr × Obj)) (D : Ends) (f : Flow) (s' : Shared) : Prop :=
  match f with
  | .next => ∃ σ' H', Inv X pins σ' H' s' ∧ D.nx σ' H'
  | .brk => ∃ σ' H', Inv X pins σ' H' s' ∧ D.bk σ' H'
  | .cont => ∃ σ' H', Inv X pins σ' H' s' ∧ D.ct σ' H'
  | .ret u => ∃ v σ' H', Inv X pins σ' H' s' ∧ RelV v u ∧ D.rt v H'

def PE (X : Cx) (e : Expr) (t : TE) : Prop :=
  ∀ (pins : List (Addr × Obj)) (s : Shared) (σ : St) (H : Hp) (Q : VK), Inv X pins σ H s → t σ H Q → wpAny (model X.prog X.w) X.A (eval e X.env) (EP X pins σ Q) X.xe s
def PT (X : Cx) (e : Expr) (t : TT) : Prop :=
  ∀ (pins : List (Addr × Obj)) (s : Shared) (σ : St) (H : Hp) (Q : Bool → Hp → Prop), Inv X pins σ H s → t σ H Q → wpAny (model X.prog X.w) X.A (isTrue e X.env (eval e X.env)) (TP X pins σ Q) X.xe s

def PW (X : Cx) (e : Expr) (t : TT) : Prop :=
  ∀ (whole : Sem Value) (pins : List (Addr × Obj)) (s : Shared) (σ : St) (H : Hp) (Q : Bool → Hp → Prop), Inv X pins σ H s → t σ H Q → wpAny (model X.prog X.w) X.A (isTrue e X.env whole) (TP X pins σ Q) X.xe s
theorem PW.pt {X : Cx} {e : Expr} {t : TT} (h : PW X e t) : PT X e t := h _

def PA (X : Cx) (es : List Expr) (t : TA) : Prop :=
  ∀ (pos : Pos) (pins : List (Addr × Obj)) (s : Shared) (σ : St) (H : Hp) (Q : List V → Hp → Prop), Inv X pins σ H s → t σ H Q → wpAny (model X.prog X.w) X.A (spliced (backTo pos (starEach es X.env))) (AP X pins σ Q) X.xe s
def PS (X : Cx) (st : Stmt) (t : TS) : Prop :=
  ∀ (pins : List (Addr × Obj)) (s : Shared) (σ : St) (H : Hp) (D : Ends), Inv X pins σ H s → t D σ H → wpAny (model X.prog X.w) X.A (exec st X.env) (SP X pins D) X.xe s
def PSs (X : Cx) (st : List Stmt) (t : TS) : Prop :=
  ∀ (pins : List (Addr × Obj)) (s : Shared) (σ : St) (H : Hp) (D : Ends), Inv X pins σ H s → t D σ H → wpAny (model X.prog X.w) X.A (execs st X.env) (SP X pins D) X.xe s

theorem thn {α : Type} {t : Sem α} {Q Q' : α → Shared → Prop} {M : Model} {A : Around} {E : Value → Shared → Prop} {s : Shared} (h : wpAny M A t Q E s) (hQ : ∀ a s, Q a s → Q' a s) : wpAny M A t Q' E s := wpAny_mono h hQ fun _ _ x => x
end L2

namespace L2
open PySem PySem.Spec PyProof.Rows
section
variable {X : Cx}


theorem bin {a b : Expr} {ta tb : TE} (ha : PE X a ta) (hb : PE X b tb) {pins : List (Addr × Obj)} {s : Shared} {σ : St} {H : Hp} {R : V → V → Hp → Prop} (I : Inv X pins σ H s) (h : ta σ H fun x H1 => tb σ H1 fun y H2 => R x y H2)
    {α : Type} {Q : α → Shared → Prop} {f : Value → Value → Sem α}
    (hf : ∀ v u s2 x y H2, Inv X pins σ H2 s2 → RelV x v → RelV y u → R x y H2 → wpAny (model X.prog X.w) X.A (f v u) Q X.xe s2) :
    wpAny (model X.prog X.w) X.A (eval a X.env) (fun v s₁ => wpAny (model X.prog X.w) X.A (eval b X.env) (fun u s₂ => wpAny (model X.prog X.w) X.A (f v u) Q X.xe s₂) X.xe s₁) X.xe s := by
  refine thn (ha pins s σ H _ I h) fun v s1 ⟨x, H1, I1, r1, q1⟩ => ?_
  refine thn (hb pins s1 σ H1 _ I1 q1) fun u s2 ⟨y, H2, I2, r2, q2⟩ => ?_
  exact hf v u s2 x y H2 I2 r1 r2 q2


def tVar (i : Nat) : TE := fun σ H Q => ∃ v, σ[i]? = some (some v) ∧ Q v H
def tC (v : V) : TE := fun _ H Q => Q v H
theorem pe_var {i : Nat} {x : Str} {pos : Pos} (hN : X.N[i]? = some x) (hv : Vis X.env.scope x) (hd : (x == ("__debug__" : Str)) = false := by decide) (hcd : (x == ("__classdict__" : Str)) = false := by decide) : PE X (.Name x pos) (tVar i) := by
  intro pins s σ H Q I h
  obtain ⟨v, e, h⟩ := h
  obtain ⟨m, hn, hl⟩ := I.loc
  obtain ⟨u, r, l⟩ := hl i x v hN e hv
  have fin : EP X pins σ Q u s := ⟨v, H, I, r, h⟩
  rcases l with ⟨hk, hm⟩ | ⟨hk, c, hc, hcell⟩
  · exact wpAny_Name (wpAny_loadName_local I.ok.kind hk hn hm fin) hd
  · rcases hk with hk | hk
    · exact wpAny_Name (wpAny_loadName_cell I.ok.kind hk hc hcell fin) hd
    · exact wpAny_Name (wpAny_loadName_free I.ok.kind hk hc hcell fin hcd) hd
theorem pe_int {i j pos} : PE X (.Constant (.int i) j pos) (tC (.int i)) := fun _ _ _ H _ I h => wpAny_Constant_int ⟨.int i, H, I.tok _, ⟨_, rfl⟩, h⟩
theorem pe_bl {b j pos} : PE X (.Constant (.bool b) j pos) (tC (.bl b)) := fun _ _ _ H _ I h => Constant_bool ⟨.bl b, H, I, rfl, h⟩
theorem pe_non {j pos} : PE X (.Constant .none j pos) (tC .non) := fun _ _ _ H _ I h => Constant_none ⟨.non, H, I, rfl, h⟩
theorem pe_str {x j pos} : PE X (.Constant (.str x) j pos) (tC (.str x)) := fun _ _ _ H _ I h => Calls.Constant_str ⟨.str x, H, I.tok _, ⟨_, rfl⟩, h⟩


def Gl (X : Cx) (x : Str) : Prop := X.env.kindOf x = some .globalImplicit
theorem ld_glob {E : Value → Shared → Prop} {pins : List (Addr × Obj)} {s : Shared} {σ : St} {H : Hp} {x : Str} {u : Value} {pos : Pos} {Q : Value → Shared → Prop} (I : Inv X pins σ H s) (hg : Gl X x) (hm : X.mg x = some u) (h : Q u s)
    (hd : (x == ("__debug__" : Str)) = false := by decide) : wpAny (model X.prog X.w) X.A (eval (.Name x pos) X.env) Q E s :=
  Calls.Name_function_global I.ok.kind hg (Calls.loadGlobal_global (by rw [I.ok.glob]; exact I.mod.glob.keeps I.bk) hm h) hd
theorem ld_blt {E : Value → Shared → Prop} {pins : List (Addr × Obj)} {s : Shared} {σ : St} {H : Hp} {x : Str} {u : Value} {pos : Pos} {Q : Value → Shared → Prop} (I : Inv X pins σ H s) (hg : Gl X x) (hm : X.mg x = none) (hv : bootBuiltins x = some u) (h : Q u s)
    (hn : x ≠ "__name__" := by decide) (hd : (x == ("__debug__" : Str)) = false := by decide) : wpAny (model X.prog X.w) X.A (eval (.Name x pos) X.env) Q E s := by
  obtain ⟨mb, h1, h2⟩ := I.mod.blt
  exact Calls.Name_function_global I.ok.kind hg (Calls.loadGlobal_builtin (by rw [I.ok.glob]; exact I.mod.glob.keeps I.bk) hm (by rw [I.ok.blt]; exact h1.keeps I.bk) ((h2 x hn).trans hv) h) hd

theorem pe_glob {x : Str} {v : V} {u : Value} {pos : Pos} (hg : Gl X x) (hm : X.mg x = some u) (r : RelV v u) (hd : (x == ("__debug__" : Str)) = false := by decide) : PE X (.Name x pos) (tC v) :=
  fun _ _ _ H _ I h => ld_glob I hg hm ⟨v, H, I, r, h⟩ hd
theorem pe_bltn {x : Str} {v : V} {u : Value} {pos : Pos} (hg : Gl X x) (hm : X.mg x = none) (hv : bootBuiltins x = some u) (r : RelV v u) (hn : x ≠ "__name__" := by decide) (hd : (x == ("__debug__" : Str)) = false := by decide) : PE X (.Name x pos) (tC v) :=
  fun _ _ _ H _ I h => ld_blt I hg hm hv ⟨v, H, I, r, h⟩ hn hd



variable {a b : Expr} {ta tb : TE} {pos : Pos}
def PC (X : Cx) (op : CmpOp) (a b : Expr) (t : TE) : Prop :=
  ∀ (pins : List (Addr × Obj)) (s : Shared) (σ : St) (H : Hp) (Q : VK), Inv X pins σ H s → t σ H Q →
    wpAny (model X.prog X.w) X.A (eval a X.env) (fun v s₁ => wpAny (model X.prog X.w) X.A (eval b X.env) (fun u s₂ => wpAny (model X.prog X.w) X.A (compareOp op v u) (EP X pins σ Q) X.xe s₂) X.xe s₁) X.xe s
def tB (t : TE) : TT := fun σ H Q => t σ H fun x H1 => ∃ c, x = .bl c ∧ Q c H1
theorem pe_cmp {op : CmpOp} {t : TE} (h : PC X op a b t) (h1 : behindInMarks op b = false := by first | exact nobehind _ (by decide) (by decide) | rfl) : PE X (.Compare a [op] [b] pos) t := fun pins s σ H Q I hw => wpAny_Compare1 (h pins s σ H Q I hw) h1
theorem pt_cmp {op : CmpOp} {t : TE} (h : PC X op a b t) (h1 : behindInMarks op b = false := by first | exact nobehind _ (by decide) (by decide) | rfl) : PT X (.Compare a [op] [b] pos) (tB t) := by
  intro pins s σ H Q I hw
  refine wpAny_isTrue_Compare1 (thn (h pins s σ H _ I hw) fun v s1 h1 => thn h1 fun u s2 h2 => thn h2 fun c s3 ⟨x, H1, I1, r1, q1⟩ => ?_) h1
  obtain ⟨d, rfl, q⟩ := q1
  cases r1
  exact wpAny_truthy_bool ⟨H1, I1, q⟩

variable {tA tB' : TT} {rest : List Expr}
def tAnd (t u : TT) : TT := fun σ H Q => t σ H fun c H1 => if c = true then u σ H1 Q else Q false H1
def tOr (t u : TT) : TT := fun σ H Q => t σ H fun c H1 => if c = true then Q true H1 else u σ H1 Q
def tNot (t : TT) : TT := fun σ H Q => t σ H fun c H1 => Q (!c) H1
theorem pw_and1 (ha : PT X a tA) : PW X (.BoolOp .And [a] pos) tA := by
  intro wh pins s σ H Q I h
  refine isTrue_and (thn (ha pins s σ H Q I h) fun c s1 e => ?_)
  cases c with
  | true => exact isTrue_and_nil e
  | false => exact e
theorem pw_or1 (ha : PT X a tA) : PW X (.BoolOp .Or [a] pos) tA := by
  intro wh pins s σ H Q I h
  refine isTrue_or (thn (ha pins s σ H Q I h) fun c s1 e => ?_)
  cases c with
  | false => exact isTrue_or_nil e
  | true => exact e
theorem pw_and (ha : PT X a tA) (hb : PW X (.BoolOp .And (b :: rest) pos) tB') : PW X (.BoolOp .And (a :: b :: rest) pos) (tAnd tA tB') := by
  intro wh pins s σ H Q I h
  refine isTrue_and (thn (ha pins s σ H _ I h) fun c s1 ⟨H1, I1, q1⟩ => ?_)
  cases c with
  | true => exact hb wh pins s1 σ H1 Q I1 q1
  | false => exact ⟨H1, I1, q1⟩
theorem pw_or (ha : PT X a tA) (hb : PW X (.BoolOp .Or (b :: rest) pos) tB') : PW X (.BoolOp .Or (a :: b :: rest) pos) (tOr tA tB') := by
  intro wh pins s σ H Q I h
  refine isTrue_or (thn (ha pins s σ H _ I h) fun c s1 ⟨H1, I1, q1⟩ => ?_)
  cases c with
  | true => exact ⟨H1, I1, q1⟩
  | false => exact hb wh pins s1 σ H1 Q I1 q1
theorem pt_not (ha : PT X a tA) : PT X (.UnaryOp .Not a pos) (tNot tA) := by
  intro pins s σ H Q I h
  exact isTrue_not (ha pins s σ H (fun c H1 => Q (!c) H1) I h)

def tAndV (ta tb : TE) : TE := fun σ H Q => ta σ H fun x H1 => ∃ c, x = .bl c ∧ if c = true then tb σ H1 Q else Q (.bl false) H1
def tOrV (ta tb : TE) : TE := fun σ H Q => ta σ H fun x H1 => ∃ c, x = .bl c ∧ if c = true then Q (.bl true) H1 else tb σ H1 Q
theorem pe_one {op} {t : TE} (h : PE X a t) : PE X (.BoolOp op [a] pos) t := fun pins s σ H Q I hw => BoolOp_one (h pins s σ H Q I hw)
theorem pe_and (ha : PE X a ta) (hb : PE X (.BoolOp .And (b :: rest) pos) tb) : PE X (.BoolOp .And (a :: b :: rest) pos) (tAndV ta tb) := by
  intro pins s σ H Q I h
  refine BoolOp_and (thn (ha pins s σ H _ I h) fun v s1 ⟨x, H1, I1, r1, q1⟩ => ?_)
  obtain ⟨c, rfl, q1⟩ := q1
  cases r1
  refine wpAny_truthy_bool ?_
  cases c with
  | true => exact hb pins s1 σ H1 Q I1 q1
  | false => exact ⟨.bl false, H1, I1, rfl, q1⟩
theorem pe_or (ha : PE X a ta) (hb : PE X (.BoolOp .Or (b :: rest) pos) tb) : PE X (.BoolOp .Or (a :: b :: rest) pos) (tOrV ta tb) := by
  intro pins s σ H Q I h
  refine BoolOp_or (thn (ha pins s σ H _ I h) fun v s1 ⟨x, H1, I1, r1, q1⟩ => ?_)
  obtain ⟨c, rfl, q1⟩ := q1
  cases r1
  refine wpAny_truthy_bool ?_
  cases c with
  | false => exact hb pins s1 σ H1 Q I1 q1
  | true => exact ⟨.bl true, H1, I1, rfl, q1⟩
def tIf (t : TT) (ta tb : TE) : TE := fun σ H Q => t σ H fun c H1 => if c = true then ta σ H1 Q else tb σ H1 Q
theorem pe_ifExp {c : Expr} (hc : PT X c tA) (ha : PE X a ta) (hb : PE X b tb) : PE X (.IfExp c a b pos) (tIf tA ta tb) := by
  intro pins s σ H Q I h
  refine wpAny_IfExp (thn (hc pins s σ H _ I h) fun d s1 ⟨H1, I1, q1⟩ => ?_)
  cases d with
  | true => exact ha pins s1 σ H1 Q I1 q1
  | false => exact hb pins s1 σ H1 Q I1 q1
end
end L2

namespace L2
open PySem PySem.Spec PyProof.Rows


def SqL (K : PySem.W.Frag) (H : Hp) (a : Addr) (xs : List V) : Prop :=
  Rd H a (.lst xs) ∨
    ∃ (o : Obj) (its : Array Value) (n : Nat), K.lookup a = some o ∧ o.cls = .type "list" ∧ o.dict = none ∧ o.data = .seq its n ∧ its.size ≤ sizeLine ∧ Vals xs its.toList
def SqT (K : PySem.W.Frag) (H : Hp) (a : Addr) (xs : List V) : Prop :=
  Rd H a (.tup xs) ∨
    ∃ (o : Obj) (its : Array Value) (n : Nat), K.lookup a = some o ∧ o.cls = .type "tuple" ∧ o.data = .seq its n ∧ its.size ≤ sizeLine ∧ Vals xs its.toList
def absV : Value → Option V
  | .none => some .non
  | .bool b => some (.bl b)
  | .int i _ => some (.int i)
  | .str x _ => some (.str x)
  | .bytes b _ => some (.byt b)
  | .float b _ => some (.flt b)
  | .ref a => some (.ref a)
  | .type n => some (.ty n)
  | _ => none
theorem RelV.abs {x : V} {u : Value} (r : RelV x u) : absV u = some x := by
  cases x with
  | non => cases r; rfl
  | bl _ => cases r; rfl
  | int _ => obtain ⟨t, rfl⟩ := r; rfl
  | str _ => obtain ⟨t, rfl⟩ := r; rfl
  | byt _ => obtain ⟨t, rfl⟩ := r; rfl
  | flt _ => obtain ⟨t, rfl⟩ := r; rfl
  | ref _ => cases r; rfl
  | ty _ => cases r; rfl
theorem RelV.inj {x y : V} {u : Value} (r : RelV x u) (q : RelV y u) : x = y := Option.some.inj (r.abs.symm.trans q.abs)
theorem Vals.inj : ∀ {xs ys : List V} {us : List Value}, Vals xs us → Vals ys us → xs = ys
  | _, _, _, .nil, .nil => rfl
  | _, _, _, .cons r t, .cons r' t' => by rw [r.inj r', Vals.inj t t']
section
variable {X : Cx} {pins : List (Addr × Obj)} {σ : St} {H : Hp} {s : Shared} {a : Addr} {xs ys : List V}
theorem SqL.of {K : PySem.W.Frag} (h : H a = some (.lst xs)) : SqL K H a xs := .inl (.inl h)
theorem SqT.of {K : PySem.W.Frag} (h : H a = some (.tup xs)) : SqT K H a xs := .inl (.inl h)
theorem Inv.list (I : Inv X pins σ H s) (h : SqL X.K H a xs) : ∃ its : List Value, Vals xs its ∧ PlainL s.heap a its.toArray ∧ xs.length ≤ sizeLine := by
  rcases h with h | ⟨o, its, n, hk, hc, hd, hs, hz, r⟩
  · obtain ⟨z, its, n, r, e⟩ := h.ok I.hok
    exact ⟨its, r, ⟨_, n, e, rfl, rfl, rfl⟩, z⟩
  · refine ⟨its.toList, r, ⟨o, n, I.kIn a o hk, hc, hd, by simpa using hs⟩, ?_⟩
    have e := r.length
    simp only [Array.length_toList] at e
    omega
theorem Inv.tuple (I : Inv X pins σ H s) (h : SqT X.K H a xs) : ∃ its : List Value, Vals xs its ∧ IsTup s.heap a its.toArray ∧ xs.length ≤ sizeLine := by
  rcases h with h | ⟨o, its, n, hk, hc, hs, hz, r⟩
  · obtain ⟨z, its, r, p⟩ := h.ok I.hok
    exact ⟨its, r, p.tup, z⟩
  · refine ⟨its.toList, r, ⟨o, I.kIn a o hk, hc, n, by simpa using hs⟩, ?_⟩
    have e := r.length
    simp only [Array.length_toList] at e
    omega
theorem Inv.list_inj (I : Inv X pins σ H s) (h : SqL X.K H a xs) (h' : SqL X.K H a ys) : xs = ys := by
  obtain ⟨its, r, ⟨o, n, e, _, _, d⟩, _⟩ := I.list h
  obtain ⟨its', r', ⟨o', n', e', _, _, d'⟩, _⟩ := I.list h'
  rw [e] at e'; cases e'
  rw [d] at d'
  injection d' with d1 _
  have : its = its' := by simpa using congrArg Array.toList d1
  subst this
  exact r.inj r'
theorem Inv.tuple_inj (I : Inv X pins σ H s) (h : SqT X.K H a xs) (h' : SqT X.K H a ys) : xs = ys := by
  obtain ⟨its, r, ⟨o, e, _, n, d⟩, _⟩ := I.tuple h
  obtain ⟨its', r', ⟨o', e', _, n', d'⟩, _⟩ := I.tuple h'
  rw [e] at e'; cases e'
  rw [d] at d'
  injection d' with d1 _
  have : its = its' := by simpa using congrArg Array.toList d1
  subst this
  exact r.inj r'
end


abbrev Cx.wish (X : Cx) (E : Value → Shared → Prop) : Cx := { X with xe := E }

abbrev Cx.nox (X : Cx) : Cx := X.wish fun _ _ => False
theorem Cx.Ok.wish {X : Cx} (ok : X.Ok) (E : Value → Shared → Prop) : (X.wish E).Ok :=
  ⟨ok.mod, ok.kind, ok.glob, ok.blt, ok.above, ok.inj, ok.has, ok.cab, ok.hd, ok.frames, ok.stk, ok.exf, ok.bs, ok.bsz, ok.noex, ok.exfs, ok.funs, ok.frf⟩
theorem Cx.Ok.unwish {X : Cx} {E : Value → Shared → Prop} (ok : (X.wish E).Ok) : X.Ok :=
  ⟨ok.mod, ok.kind, ok.glob, ok.blt, ok.above, ok.inj, ok.has, ok.cab, ok.hd, ok.frames, ok.stk, ok.exf, ok.bs, ok.bsz, ok.noex, ok.exfs, ok.funs, ok.frf⟩
section
variable {X : Cx} {pins : List (Addr × Obj)} {σ : St} {H : Hp} {s : Shared} {E : Value → Shared → Prop}
theorem Inv.wish (I : Inv X pins σ H s) (E : Value → Shared → Prop) : Inv (X.wish E) pins σ H s := ⟨I.ok.wish E, I.os, I.bare, I.base, I.loc, I.cell, I.free, I.freeC, I.pin, I.hok, I.len⟩
theorem Inv.unwish (I : Inv (X.wish E) pins σ H s) : Inv X pins σ H s := ⟨I.ok.unwish, I.os, I.bare, I.base, I.loc, I.cell, I.free, I.freeC, I.pin, I.hok, I.len⟩
theorem SP.unwish {D : Ends} {f : Flow} {s' : Shared} (h : SP (X.wish E) pins D f s') : SP X pins D f s' := by
  cases f with
  | next => obtain ⟨σ', H', I, q⟩ := h; exact ⟨σ', H', I.unwish, q⟩
  | brk => obtain ⟨σ', H', I, q⟩ := h; exact ⟨σ', H', I.unwish, q⟩
  | cont => obtain ⟨σ', H', I, q⟩ := h; exact ⟨σ', H', I.unwish, q⟩
  | ret u => obtain ⟨v, σ', H', I, r, q⟩ := h; exact ⟨v, σ', H', I.unwish, r, q⟩
theorem PSs.nox {st : List Stmt} {t : TS} (h : PSs X.nox st t) : PSs X st t := fun pins s σ H D I hw =>
  wpAny_mono (h pins s σ H D (I.wish _) hw) (fun _ _ q => q.unwish) fun _ _ z => False.elim z
end


section
variable {X : Cx} {st : Stmt} {rest : List Stmt} {t u : TS} {e : Expr} {te : TE} {pos : Pos}
def tNext : TS := fun D σ H => D.nx σ H
def tSeq (t u : TS) : TS := fun D σ H => t { D with nx := u D } σ H
theorem pss_nil : PSs X [] tNext := fun _ _ σ H _ I h => wpAny_execs_nil ⟨σ, H, I, h⟩
theorem pss_cons (h1 : PS X st t) (h2 : PSs X rest u) : PSs X (st :: rest) (tSeq t u) := by
  intro pins s σ H D I h
  refine wpAny_execs_cons (thn (h1 pins s σ H { D with nx := u D } I h) fun f s1 q => ?_)
  cases f with
  | next =>
    obtain ⟨σ', H', I', q⟩ := q
    exact h2 pins s1 σ' H' D I' q
  | ret v => exact q
  | brk => exact q
  | cont => exact q
theorem pss_one (h1 : PS X st t) : PSs X [st] t := by
  intro pins s σ H D I h
  refine wpAny_execs_cons (thn (h1 pins s σ H D I h) fun f s1 q => ?_)
  cases f with
  | next => exact wpAny_execs_nil q
  | ret v => exact q
  | brk => exact q
  | cont => exact q
theorem Inv.quiet {pins : List (Addr × Obj)} {σ : St} {H : Hp} {s : Shared} (I : Inv X pins σ H s) : interactive X.env = false := by simp [interactive, I.ok.kind]

def tDrop (te : TE) : TS := fun D σ H => te σ H fun _ H1 => D.nx σ H1
theorem ps_expr (he : PE X e te) (hs : swapsWith e none pos.line X.env = pure false := by rfl) : PS X (.Expr e pos) (tDrop te) := by
  intro pins s σ H D I h
  exact wpAny_Expr_any (thn (he pins s σ H _ I h) fun v s1 ⟨x, H1, I1, r1, q1⟩ => ⟨σ, H1, I1, q1⟩) I.quiet hs
def tRet (te : TE) : TS := fun D σ H => te σ H D.rt
theorem ps_ret (he : PE X e te) : PS X (.Return (some e) pos) (tRet te) := by
  intro pins s σ H D I h
  exact wpAny_Return_some (thn (he pins s σ H _ I h) fun v s1 ⟨x, H1, I1, r1, q1⟩ => ⟨x, σ, H1, I1, r1, q1⟩)
def tRetN : TS := fun D _ H => D.rt .non H
theorem ps_retN : PS X (.Return none pos) tRetN := fun _ _ σ H _ I h => wpAny_Return_none ⟨.non, σ, H, I, rfl, h⟩
def tIfS (c : TT) (t u : TS) : TS := fun D σ H => c σ H fun b H1 => if b = true then t D σ H1 else u D σ H1
theorem ps_if {c : Expr} {a b : List Stmt} {tc : TT} (hc : PT X c tc) (ha : PSs X a t) (hb : PSs X b u) : PS X (.If c a b pos) (tIfS tc t u) := by
  intro pins s σ H D I h
  refine wpAny_If (thn (hc pins s σ H _ I h) fun d s1 ⟨H1, I1, q1⟩ => ?_)
  cases d with
  | true => exact ha pins s1 σ H1 D I1 q1
  | false => exact hb pins s1 σ H1 D I1 q1

def tNever : TS := fun _ _ _ => False
theorem ps_never : PS X st tNever := fun _ _ _ _ _ _ h => h.elim
end


abbrev TG := V → St → Hp → (St → Hp → Prop) → Prop
abbrev TGs := List V → St → Hp → (St → Hp → Prop) → Prop
def PG (X : Cx) (target : Expr) (t : TG) : Prop :=
  ∀ (pins : List (Addr × Obj)) (s : Shared) (σ : St) (H : Hp) (v : V) (u : Value) (Q : St → Hp → Prop), Inv X pins σ H s → RelV v u → t v σ H Q →
    wpAny (model X.prog X.w) X.A (assign target X.env u) (fun _ s' => ∃ σ' H', Inv X pins σ' H' s' ∧ Q σ' H') X.xe s

def PGs (X : Cx) (ts : List Expr) (t : TGs) : Prop :=
  ∀ (pins : List (Addr × Obj)) (s : Shared) (σ : St) (H : Hp) (vs : List V) (us : List Value) (Q : St → Hp → Prop), Inv X pins σ H s → Vals vs us → t vs σ H Q →
    wpAny (model X.prog X.w) X.A (assignInOrder ((assignEach ts X.env).map (·.2)) us) (fun _ s' => ∃ σ' H', Inv X pins σ' H' s' ∧ Q σ' H') X.xe s

abbrev TSet := V → V → V → Hp → (Hp → Prop) → Prop
def PSet (X : Cx) (t : TSet) : Prop :=
  ∀ (pins : List (Addr × Obj)) (s : Shared) (σ : St) (H : Hp) (o i v : V) (ov iv u : Value) (Q : Hp → Prop), Inv X pins σ H s → RelV o ov → RelV i iv → RelV v u → t o i v H Q →
    wpAny (model X.prog X.w) X.A (setItem ov iv u) (fun _ s' => ∃ H', Inv X pins σ H' s' ∧ Q H') X.xe s

section
variable {X : Cx} {pos : Pos}
def gName (i : Nat) : TG := fun v σ H Q => Q (σ.set i (some v)) H
theorem pg_name {i : Nat} {x : Str} (hN : X.N.Nodup) (hi : X.N[i]? = some x) (hx : Loc X.env.scope x) (hf : X.fn x = true ∨ X.env.scope.names.lookup x = some .local := by first | exact .inl rfl | exact .inr rfl | assumption) : PG X (.Name x pos) (gName i) := by
  intro pins s σ H v u Q I r h
  exact wpAny_assign_Name (store_ok I hN hi hx r (fun s' I' => ⟨_, H, I', h⟩) hf)
def gNil : TGs := fun vs σ H Q => vs = [] ∧ Q σ H
def gCons (t : TG) (u : TGs) : TGs := fun vs σ H Q => ∃ v r, vs = v :: r ∧ t v σ H fun σ' H' => u r σ' H' Q
theorem pgs_nil : PGs X [] gNil := by
  intro pins s σ H vs us Q I r h
  obtain ⟨e, h⟩ := h
  subst e
  cases r
  exact assignInOrder_nil ⟨σ, H, I, h⟩
theorem pgs_cons {e : Expr} {es : List Expr} {t : TG} {u : TGs} (h1 : PG X e t) (h2 : PGs X es u)
    (hs : (assignEach (e :: es) X.env).map (·.2) = assign e X.env :: (assignEach es X.env).map (·.2) := by rfl) : PGs X (e :: es) (gCons t u) := by
  intro pins s σ H vs us Q I r h
  obtain ⟨v, vr, e1, h⟩ := h
  subst e1
  cases r with
  | cons r rr =>
    rw [hs]
    refine assignInOrder_cons (thn (h1 pins s σ H _ _ _ I r h) fun _ s1 ⟨σ1, H1, I1, q1⟩ => ?_)
    exact h2 pins s1 σ1 H1 _ _ Q I1 rr q1

def gTup (K : PySem.W.Frag) (n : Nat) (t : TGs) : TG := fun v σ H Q => ∃ a xs, v = .ref a ∧ SqT K H a xs ∧ xs.length = n ∧ t xs σ H Q
theorem pg_tup {es : List Expr} {k : Nat} {t : TGs} {n : Nat} (hc : X.calm = true) (h : PGs X es t)
    (hn : (assignEach es X.env).length = n := by rfl) (hst : (assignEach es X.env).findIdx? (·.1) = none := by rfl) : PG X (.Tuple es k pos) (gTup X.K n t) := by
  intro pins s σ H v u Q I r hw
  obtain ⟨a, xs, e1, hq, hl, hw⟩ := hw
  subst e1
  cases r
  obtain ⟨its, rv, ht, hz⟩ := I.tuple hq
  refine assign_Tuple_tuple (I.ok.hd hc) ht (by simp [hn, ← hl, rv.length]) hst fun h' hx => ?_
  have I1 : Inv X pins σ H { s with heap := h' } := I.kept (t' := s.toks) fun b o e => hx b o (Nat.ne_of_lt (Heap.lt_size e)) e
  exact h pins _ σ H xs _ Q I1 (by simpa using rv) hw

def gSub (to ti : TE) (t : TSet) : TG := fun v σ H Q => to σ H fun o H1 => ti σ H1 fun i H2 => t o i v H2 fun H3 => Q σ H3
theorem pg_sub {o i : Expr} {to ti : TE} {t : TSet} (ho : PE X o to) (hi : PE X i ti) (hs : PSet X t)
    (ha : ∀ v, assign (.Subscript o i pos) X.env v = (do
      let ov ← holding [v] (eval o X.env)
      let iv ← holding [v, ov] (eval i X.env)
      standAt pos
      holding [v, ov, iv] (setItem ov iv v)
      release [v, ov, iv] []) := by intro _; rfl) : PG X (.Subscript o i pos) (gSub to ti t) := by
  intro pins s σ H v u Q I r h
  rw [ha]
  refine wpAny_bind (wpAny_holding (thn (ho pins s σ H _ I h) fun ov s1 ⟨x, H1, I1, r1, q1⟩ => ?_))
  refine wpAny_bind (wpAny_holding (thn (hi pins s1 σ H1 _ I1 q1) fun iv s2 ⟨y, H2, I2, r2, q2⟩ => ?_))
  refine wpAny_bind (wpAny_standAt (wpAny_bind (wpAny_holding (thn (hs pins s2 σ H2 x y v ov iv u _ I2 r1 r2 r q2) fun _ s3 ⟨H3, I3, q3⟩ => ?_))))
  exact wpAny_release ⟨σ, H3, I3, q3⟩

def tAsg (te : TE) (g : TG) : TS := fun D σ H => te σ H fun x H1 => g x σ H1 D.nx
theorem ps_asg {tg e : Expr} {te : TE} {g : TG} (he : PE X e te) (hg : PG X tg g) (hs : swapsWithSole [tg] e pos.line X.env = pure false := by rfl) (hw : swappedStores [tg] e X.env = pure none := by rfl)
    (h1 : (assignEach [tg] X.env).map (·.2) = [assign tg X.env] := by rfl) : PS X (.Assign [tg] e pos) (tAsg te g) := by
  intro pins s σ H D I h
  refine wpAny_Assign_stores (thn (he pins s σ H _ I h) fun v s1 ⟨x, H1, I1, r1, q1⟩ => ?_) hs hw
  rw [h1]
  exact thn (hg pins s1 σ H1 x v _ I1 r1 q1) fun _ s2 q => q

theorem ps_set {i : Nat} {x : Str} {e : Expr} {te : TE} {pos' : Pos} (hN : X.N.Nodup) (hi : X.N[i]? = some x) (hx : Loc X.env.scope x) (he : PE X e te) (hs : swapsWith e (some (.Name x pos')) pos.line X.env = pure false := by rfl) (hf : X.fn x = true ∨ X.env.scope.names.lookup x = some .local := by first | exact .inl rfl | exact .inr rfl | assumption) :
    PS X (.Assign [.Name x pos'] e pos) (tAsg te (gName i)) := by
  intro pins s σ H D I h
  refine wpAny_Assign_Name (thn (he pins s σ H _ I h) fun v s1 ⟨y, H1, I1, r1, q1⟩ => ?_) hs
  exact store_ok I1 hN hi hx r1 (fun s2 I2 => ⟨_, H1, I2, q1⟩) hf

end


section
variable {X : Cx} {pos : Pos}

end



structure It where
  go : Nat → Hp → Prop
  yld : Nat → Hp → V → Hp → Prop
  stop : Nat → Hp → Prop

def FpOk (X : Cx) (pins : List (Addr × Obj)) (H : Hp) (b : Addr) : Prop :=
  H b = none ∧ b ≠ X.env.locals ∧ b ∉ X.fs ∧ (b ∈ X.ex ∨ X.s₀.heap.objs.size ≤ b) ∧ (∀ x c, X.env.cells.lookup x = some c → c ≠ b) ∧ ∀ p ∈ X.pn ++ pins, p.1 ≠ b
theorem Inv.fpOk {X : Cx} {pins : List (Addr × Obj)} {σ : St} {H H' : Hp} {s : Shared} {b : Addr} (I : Inv X pins σ H s) (hb : s.heap.objs.size ≤ b) (hn : H' b = none) : FpOk X pins H' b := by
  refine ⟨hn, Nat.ne_of_gt (Nat.lt_of_lt_of_le I.lt hb), I.nofs hb, .inr (Nat.le_trans I.sz hb), fun x c e z => ?_, fun p hp z => ?_⟩
  · obtain ⟨v, q⟩ := I.cell x c e
    exact absurd (Nat.lt_of_lt_of_le q.lt (by rw [z]; exact hb)) (Nat.lt_irrefl _)
  · exact absurd (Nat.lt_of_lt_of_le (Heap.lt_size (I.pin p hp).1) (by rw [z]; exact hb)) (Nat.lt_irrefl _)
structure Turn (P : Program) (w : World) (K : PySem.W.Frag) (tg : Expr) (J : It) (fp : List Addr) (it : Addr) (tn : Nat → Heap → Prop) : Prop where
  mem : it ∈ fp
  obj : ∀ i h, tn i h → ∀ b ∈ fp, ∃ o, h.get? b = some o ∧ ∀ v, o.data ≠ .cell v
  keep : ∀ i h h', tn i h → (∀ b ∈ fp, ∀ o, h.get? b = some o → h'.get? b = some o) → tn i h'
  item : ∀ (X : Cx), X.prog = P → X.w = w → X.K = K → X.calm = true → ∀ (i : Nat) (pins : List (Addr × Obj)) (s : Shared) (σ : St) (H : Hp) (E : Value → Shared → Prop), Inv X pins σ H s → (∀ b ∈ fp, FpOk X pins H b) → tn i s.heap → J.go i H →
    wpAny (model P w) X.A (pyNext (.ref it)) (fun r s1 => ∃ u, r = some u ∧
      wpAny (model P w) X.A (letOwnedTupleGo tg (.ref it) u) (fun _ s2 => ∃ x H', Inv X pins σ H' s2 ∧ RelV x u ∧ J.yld i H x H' ∧ tn (i + 1) s2.heap ∧ ∀ b ∈ fp, H' b = none) E s1) E s
  done : ∀ (X : Cx), X.prog = P → X.w = w → X.K = K → X.calm = true → ∀ (i : Nat) (pins : List (Addr × Obj)) (s : Shared) (σ : St) (H : Hp) (E : Value → Shared → Prop), Inv X pins σ H s → (∀ b ∈ fp, FpOk X pins H b) → tn i s.heap → J.stop i H →
    wpAny (model P w) X.A (pyNext (.ref it)) (fun r s1 => r = none ∧ Inv X pins σ H s1) E s
  self : ∀ (A : Around) (i : Nat) (s : Shared) (Q : Value → Shared → Prop) (E : Value → Shared → Prop), tn i s.heap → Q (.ref it) s → wpAny (model P w) A (pyIter (.ref it)) Q E s
abbrev TI := St → Hp → (It → Hp → Prop) → Prop

def PIE (X : Cx) (pins : List (Addr × Obj)) (σ : St) (tg : Expr) (R : It → Hp → Prop) (itv : Value) (s2 : Shared) : Prop :=
  ∃ (it : Addr) (fp : List Addr) (tn : Nat → Heap → Prop) (J : It) (H' : Hp), itv = .ref it ∧ Inv X pins σ H' s2 ∧ Turn X.prog X.w X.K tg J fp it tn ∧ tn 0 s2.heap ∧ (∀ b ∈ fp, FpOk X pins H' b) ∧ R J H'
def PI (X : Cx) (tg iter : Expr) (wi : TI) : Prop :=
  ∀ (pins : List (Addr × Obj)) (s : Shared) (σ : St) (H : Hp) (R : It → Hp → Prop), Inv X pins σ H s → wi σ H R →
    wpAny (model X.prog X.w) X.A (eval iter X.env) (fun v s1 => wpAny (model X.prog X.w) X.A (pyIter v) (PIE X pins σ tg R) X.xe s1) X.xe s


theorem go_of {M : Model} {A : Around} {E : Value → Shared → Prop} {s : Shared} {tg : Expr} {it : Addr} {u : Value} {o : Obj} {n : String} {vs : Array Value} {Q : Unit → Shared → Prop} (ho : s.heap.get? it = some o) (hc : o.cls = .type n) (hd : o.data = .fields vs)
    (hn : ["enumerate", "zip", "dict_itemiterator", "dict_reverseitemiterator", "odict_iterator", "itertools.zip_longest", "itertools.pairwise"].contains n = false) (hQ : Q () s) : wpAny M A (letOwnedTupleGo tg (.ref it) u) Q E s := by
  unfold letOwnedTupleGo
  cases tg <;> first
    | exact wpAny_pure hQ
    | (cases u <;> first
        | exact wpAny_pure hQ
        | (refine wpAny_bind (wpAny_load ho ?_)
           rw [hc, hd]
           show wpAny M A (if (["enumerate", "zip", "dict_itemiterator", "dict_reverseitemiterator", "odict_iterator", "itertools.zip_longest", "itertools.pairwise"].contains n && vs[0]? == some (rawInt _)) = true then _ else _) Q E s
           rw [if_neg (by intro h; rw [hn, Bool.false_and] at h; cases h)]
           exact wpAny_pure hQ))


def Itl (K : PySem.W.Frag) (a : Addr) : It :=
  ⟨fun i H => ∃ xs x, SqL K H a xs ∧ xs[i]? = some x, fun i H x H' => H' = H ∧ ∀ xs, SqL K H a xs → xs[i]? = some x, fun i H => ∃ xs, SqL K H a xs ∧ xs.length ≤ i⟩
def Itt (K : PySem.W.Frag) (a : Addr) : It :=
  ⟨fun i H => ∃ xs x, SqT K H a xs ∧ xs[i]? = some x, fun i H x H' => H' = H ∧ ∀ xs, SqT K H a xs → xs[i]? = some x, fun i H => ∃ xs, SqT K H a xs ∧ xs.length ≤ i⟩

def Itr (lo : Int) (n : Nat) : It := ⟨fun i _ => i < n, fun i H x H' => H' = H ∧ x = .int (lo + i), fun i _ => n ≤ i⟩
theorem turn_list {P : Program} {w : World} {K : PySem.W.Frag} {tg : Expr} (a it : Addr) : Turn P w K tg (Itl K a) [it] it (fun i h => h.IsListIter it a i) where
  mem := by simp
  obj := fun i h st b hb => by
    have e : b = it := by simpa using hb
    subst e
    obtain ⟨o, e, c, d⟩ := st
    exact ⟨o, e, fun v z => by rw [d] at z; cases z⟩
  keep := fun i h h' st k => st.at fun o e => k it (by simp) o e
  item := by
    intro X hP hw hK hc i pins s σ H E I hf st hg
    subst hP hw hK
    obtain ⟨xs, x, hq, hx⟩ := hg
    obtain ⟨its, rv, p, hz⟩ := I.list hq
    obtain ⟨u, hu, ru⟩ := rv.get hx
    obtain ⟨f0, f1, f2, f3, f4, f5⟩ := hf it (by simp)
    refine wpAny_pyNext_list_item st p.isList (x := u) (by simpa using hu) fun h' st' sb => ?_
    have I1 : Inv X pins σ H { s with heap := h' } := I.turned (t' := s.toks) (fun b o hb e => (sb.2 b hb).trans e) f0 f1 f3 f4 f5
    obtain ⟨o, e, c, d⟩ := id st'
    exact ⟨u, rfl, go_of (s := { s with heap := h' }) e c d (by decide) ⟨x, H, I1, ru, ⟨rfl, fun ys hy => by rw [I.list_inj hy hq]; exact hx⟩, st', fun b hb => (hf b hb).1⟩⟩
  done := by
    intro X hP hw hK hc i pins s σ H E I hf st hg
    subst hP hw hK
    obtain ⟨xs, hq, hx⟩ := hg
    obtain ⟨its, rv, p, hz⟩ := I.list hq
    obtain ⟨f0, f1, f2, f3, f4, f5⟩ := hf it (by simp)
    have hl := rv.length
    exact wpAny_pyNext_list_end (I.ok.hd hc) st p.isList (by simp; omega) fun h' eb => ⟨rfl, I.turned (t' := s.toks) (fun b o hb e => eb b o hb e) f0 f1 f3 f4 f5⟩
  self := fun _ _ _ _ _ st h => wpAny_pyIter_listiter st h
theorem turn_tuple {P : Program} {w : World} {K : PySem.W.Frag} {tg : Expr} (a it : Addr) : Turn P w K tg (Itt K a) [it] it (fun i h => h.IsTupleIter it a i) where
  mem := by simp
  obj := fun i h st b hb => by
    have e : b = it := by simpa using hb
    subst e
    obtain ⟨o, e, c, d⟩ := st
    exact ⟨o, e, fun v z => by rw [d] at z; cases z⟩
  keep := fun i h h' st k => st.at fun o e => k it (by simp) o e
  item := by
    intro X hP hw hK hc i pins s σ H E I hf st hg
    subst hP hw hK
    obtain ⟨xs, x, hq, hx⟩ := hg
    obtain ⟨its, rv, p, hz⟩ := I.tuple hq
    obtain ⟨u, hu, ru⟩ := rv.get hx
    obtain ⟨f0, f1, f2, f3, f4, f5⟩ := hf it (by simp)
    refine wpAny_pyNext_tuple_item st (show s.heap.IsTuple a its.toArray from p) (x := u) (by simpa using hu) fun h' st' sb => ?_
    have I1 : Inv X pins σ H { s with heap := h' } := I.turned (t' := s.toks) (fun b o hb e => (sb.2 b hb).trans e) f0 f1 f3 f4 f5
    obtain ⟨o, e, c, d⟩ := id st'
    exact ⟨u, rfl, go_of (s := { s with heap := h' }) e c d (by decide) ⟨x, H, I1, ru, ⟨rfl, fun ys hy => by rw [I.tuple_inj hy hq]; exact hx⟩, st', fun b hb => (hf b hb).1⟩⟩
  done := by
    intro X hP hw hK hc i pins s σ H E I hf st hg
    subst hP hw hK
    obtain ⟨xs, hq, hx⟩ := hg
    obtain ⟨its, rv, p, hz⟩ := I.tuple hq
    obtain ⟨f0, f1, f2, f3, f4, f5⟩ := hf it (by simp)
    have hl := rv.length
    exact wpAny_pyNext_tuple_end (I.ok.hd hc) st (show s.heap.IsTuple a its.toArray from p) (by simp; omega) fun h' eb => ⟨rfl, I.turned (t' := s.toks) (fun b o hb e => eb b o hb e) f0 f1 f3 f4 f5⟩
  self := fun _ _ _ _ _ st h => wpAny_pyIter_tupleiter st h
theorem turn_range {P : Program} {w : World} {K : PySem.W.Frag} {tg : Expr} (it : Addr) (lo : Int) (n : Nat) : Turn P w K tg (Itr lo n) [it] it (fun i h => IsRangeIter h it (lo + (i : Nat) * 1) ((n : Int) - (i : Nat)) 1) where
  mem := by simp
  obj := fun i h st b hb => by
    have e : b = it := by simpa using hb
    subst e
    exact ⟨_, st, fun v z => by
      have z' : Data.fields _ = Data.cell v := z
      cases z'⟩
  keep := fun i h h' st k => k it (by simp) _ st
  item := by
    intro X hP hw hK hc i pins s σ H E I hf st hg
    subst hP hw hK
    obtain ⟨f0, f1, f2, f3, f4, f5⟩ := hf it (by simp)
    have W := Walks.range (prog := X.prog) (w := X.w) (I.ok.hd hc) it lo 1 n
    refine W.item i s _ _ hg st fun v h' tk hv st' kk => ?_
    obtain ⟨t, rfl⟩ := hv
    have I1 : Inv X pins σ H { s with heap := h', toks := tk } := I.turned (fun b o hb e => kk b o (by simpa using hb) e) f0 f1 f3 f4 f5
    refine ⟨_, rfl, go_of (s := { s with heap := h', toks := tk }) (n := "range_iterator") st' rfl rfl (by decide) ⟨.int (lo + i), H, I1, ⟨t, ?_⟩, ⟨rfl, rfl⟩, st', fun b hb => (hf b hb).1⟩⟩
    rw [Int.mul_one]
  done := by
    intro X hP hw hK hc i pins s σ H E I hf st hg
    subst hP hw hK
    obtain ⟨f0, f1, f2, f3, f4, f5⟩ := hf it (by simp)
    exact wpAny_pyNext_range_end (I.ok.hd hc) st (by have : n ≤ i := hg; omega) fun h' eb => ⟨rfl, I.turned (t' := s.toks) (fun b o hb e => eb b o hb e) f0 f1 f3 f4 f5⟩
  self := fun _ _ _ _ _ st h => wpAny_pyIter_rangeiter st h
end L2

namespace L2
open PySem PySem.Spec PyProof.Rows
section
variable {X : Cx} {tg : Expr}
def iList (K : PySem.W.Frag) (tl : TE) : TI := fun σ H R => tl σ H fun x H1 => ∃ a, x = .ref a ∧ (∃ xs, SqL K H1 a xs) ∧ R (Itl K a) H1
def iTup (K : PySem.W.Frag) (tl : TE) : TI := fun σ H R => tl σ H fun x H1 => ∃ a, x = .ref a ∧ (∃ xs, SqT K H1 a xs) ∧ R (Itt K a) H1
theorem pi_list {l : Expr} {tl : TE} (hl : PE X l tl) : PI X tg l (iList X.K tl) := by
  intro pins s σ H R I h
  refine thn (hl pins s σ H _ I h) fun v s1 ⟨x, H1, I1, r1, q1⟩ => ?_
  obtain ⟨a, e, ⟨xs, hq⟩, q⟩ := q1
  subst e
  cases r1
  obtain ⟨its, rv, p, hz⟩ := I1.list hq
  refine wpAny_pyIter_list p.isList ?_
  refine ⟨s1.heap.objs.size, [s1.heap.objs.size], _, _, H1, rfl, I1.kept (t' := s1.toks) fun b o e => Heap.get?_push_of_some _ e, turn_list a _, ⟨_, Heap.get?_push_size _ rfl, rfl, rfl⟩, fun b hb => ?_, q⟩
  have e : b = s1.heap.objs.size := by simpa using hb
  subst e
  exact I1.fpOk (Nat.le_refl _) (I1.hok.fresh (Nat.le_refl _))
theorem pi_tup {l : Expr} {tl : TE} (hl : PE X l tl) : PI X tg l (iTup X.K tl) := by
  intro pins s σ H R I h
  refine thn (hl pins s σ H _ I h) fun v s1 ⟨x, H1, I1, r1, q1⟩ => ?_
  obtain ⟨a, e, ⟨xs, hq⟩, q⟩ := q1
  subst e
  cases r1
  obtain ⟨its, rv, p, hz⟩ := I1.tuple hq
  refine wpAny_pyIter_tuple (show s1.heap.IsTuple a its.toArray from p) ?_
  refine ⟨s1.heap.objs.size, [s1.heap.objs.size], _, _, H1, rfl, I1.kept (t' := s1.toks) fun b o e => Heap.get?_push_of_some _ e, turn_tuple a _, ⟨_, Heap.get?_push_size _ rfl, rfl, rfl⟩, fun b hb => ?_, q⟩
  have e : b = s1.heap.objs.size := by simpa using hb
  subst e
  exact I1.fpOk (Nat.le_refl _) (I1.hok.fresh (Nat.le_refl _))

theorem range_it {pins : List (Addr × Obj)} {σ : St} {H : Hp} {s : Shared} {R : It → Hp → Prop} {E : Value → Shared → Prop} {lo hi : Int} {t u v : Tok} {tk : Nat} (I : Inv X pins σ H s) (h1 : -(2 ^ 62) ≤ lo) (h2 : lo < 2 ^ 62) (h3 : -(2 ^ 62) ≤ hi) (h4 : hi < 2 ^ 62)
    (q : R (Itr lo (hi - lo).toNat) H) : wpAny (model X.prog X.w) X.A (pyIter (.ref s.heap.objs.size)) (PIE X pins σ tg R) E { s with heap := s.heap.push { cls := .type "range", data := .fields #[.int lo t, .int hi u, .int 1 v] }, toks := tk } := by
  refine wpAny_pyIter_range (IsRange.new ..) (small_one h1 h2 h3 h4) ?_
  have I1 : Inv X pins σ H { s with heap := s.heap.push { cls := .type "range", data := .fields #[.int lo t, .int hi u, .int 1 v] }, toks := tk } := I.kept fun b o e => Heap.get?_push_of_some _ e
  refine ⟨(s.heap.push { cls := .type "range", data := .fields #[.int lo t, .int hi u, .int 1 v] }).objs.size, [(s.heap.push { cls := .type "range", data := .fields #[.int lo t, .int hi u, .int 1 v] }).objs.size], _, _, H, rfl,
    I1.kept (t' := tk) fun b o e => Heap.get?_push_of_some _ e, turn_range _ lo (hi - lo).toNat, ?_, fun b hb => ?_, q⟩
  · have e1 : lo + ((0 : Nat) : Int) * 1 = lo := by simp
    have e2 : (((hi - lo).toNat : Nat) : Int) - ((0 : Nat) : Int) = Builtin.Range.rangeSize lo hi 1 := by rw [rangeSize_one]; split <;> omega
    show IsRangeIter _ _ (lo + ((0 : Nat) : Int) * 1) ((((hi - lo).toNat : Nat) : Int) - ((0 : Nat) : Int)) 1
    rw [e1, e2]
    exact Heap.get?_push_size _ rfl
  · have e : b = (s.heap.push { cls := .type "range", data := .fields #[.int lo t, .int hi u, .int 1 v] }).objs.size := by simpa using hb
    subst e
    exact I1.fpOk (Nat.le_refl _) (I1.hok.fresh (Nat.le_refl _))
def iRng1 (ta : TA) : TI := fun σ H R => ta σ H fun vs H1 => ∃ j : Int, vs = [.int j] ∧ -(2 ^ 62) ≤ j ∧ j < 2 ^ 62 ∧ R (Itr 0 j.toNat) H1
theorem pi_range1 {a : Expr} {ta : TA} {p pos : Pos} (hg : Gl X "range") (hm : X.mg "range" = none) (ha : PA X [a] ta) (hs : starEach [a] X.env = [(false, eval a X.env)] := by rfl) : PI X tg (.Call (.Name "range" p) [a] [] pos) (iRng1 ta) := by
  intro pins s σ H R I h
  refine Call_ (ld_blt I hg hm boot_range (PyProof.Rows.callWith_type1 (thn (ha pos pins s σ H _ I h) fun us s1 ⟨vs, H1, I1, r1, q1⟩ => ?_) hs rfl))
  obtain ⟨j, e, q1, q2, q⟩ := q1
  subst e
  cases r1 with
  | cons r rr =>
    cases rr
    obtain ⟨t, rfl⟩ := r
    exact call_range_1 (range_it I1 (by omega) (by omega) q1 q2 (by simpa using q))
def tFor (wi : TI) (g : TG) (tb : TS) : TS := fun D σ H => wi σ H fun J H1 => ∃ W : Nat → Nat → St → Hp → Prop, (∃ m, W 0 m σ H1) ∧ ∀ i m σ H, W i m σ H →
  (J.stop i H ∧ D.nx σ H) ∨ (J.go i H ∧ ∃ N : St → Hp → Prop, (∀ σ' H', N σ' H' → ∃ m', m' < m ∧ W (i + 1) m' σ' H') ∧ ∀ x H', J.yld i H x H' → g x σ H' fun σ2 H2 => tb { D with nx := N, ct := N, bk := D.nx } σ2 H2)

def pinsAt (fp : List Addr) (h : Heap) : List (Addr × Obj) := fp.filterMap fun b => (h.get? b).map fun o => (b, o)
theorem mem_pinsAt {fp : List Addr} {h : Heap} {b : Addr} {o : Obj} (hb : b ∈ fp) (e : h.get? b = some o) : (b, o) ∈ pinsAt fp h := List.mem_filterMap.mpr ⟨b, hb, by rw [e]; rfl⟩
theorem of_pinsAt {fp : List Addr} {h : Heap} {p : Addr × Obj} (hp : p ∈ pinsAt fp h) : p.1 ∈ fp ∧ h.get? p.1 = some p.2 := by
  obtain ⟨b, hb, e⟩ := List.mem_filterMap.mp hp
  cases q : h.get? b with
  | none => rw [q] at e; cases e
  | some o =>
    rw [q] at e
    have e' : (b, o) = p := Option.some.inj e
    subst e'
    exact ⟨hb, q⟩
theorem Inv.pinned {pins : List (Addr × Obj)} {σ : St} {H : Hp} {s : Shared} {fp : List Addr} (I : Inv X pins σ H s) (hf : ∀ b ∈ fp, FpOk X pins H b) (ho : ∀ b ∈ fp, ∃ o, s.heap.get? b = some o ∧ ∀ v, o.data ≠ .cell v) : Inv X (pins ++ pinsAt fp s.heap) σ H s :=
  I.pins_of fun p hp => (List.mem_append.mp hp).elim (fun z => I.pin p (List.mem_append_right _ z)) fun z => by
    obtain ⟨hb, e⟩ := of_pinsAt z
    obtain ⟨f0, f1, f2, _⟩ := hf p.1 hb
    obtain ⟨o, e', d⟩ := ho p.1 hb
    rw [e] at e'; cases e'
    exact ⟨e, f0, f1, f2, d⟩
theorem Inv.unpinned {pins pl : List (Addr × Obj)} {σ : St} {H : Hp} {s : Shared} (I : Inv X (pins ++ pl) σ H s) : Inv X pins σ H s := I.pins_of fun p hp => I.pin p (List.mem_append_right _ (List.mem_append_left _ hp))
theorem ps_for {iter : Expr} {body : List Stmt} {wi : TI} {g : TG} {tb : TS} {pos : Pos} (hp : PassesOwn (model X.prog X.w) X.A X.env X.xe) (hc : X.calm = true) (hi : PI X tg iter wi) (hg : PG X tg g) (hb : PSs X body tb)
    (hs : ∀ x, foldedSetIterable iter X.env x = pure x := by intro _; rfl) : PS X (.For tg iter body [] pos) (tFor wi g tb) := by
  intro pins s σ H D I h
  refine wpAny_For (thn (hi pins s σ H _ I h) fun v s1 h1 => thn h1 fun itv s2 h2 => ?_) hs
  obtain ⟨it, fp, tn, J, H2, e, I2, T, st2, f2, W, ⟨m0, w0⟩, turn⟩ := h2
  subst e
  -- what stays true of the iterator's objects through the loop
  have stat : ∀ {H' : Hp}, (∀ b ∈ fp, H' b = none) → ∀ b ∈ fp, FpOk X pins H' b := fun hn b hb => ⟨hn b hb, (f2 b hb).2⟩
  refine codeAny_forLoop_any (fun n s' => ∃ i σ' H', Inv X pins σ' H' s' ∧ tn i s'.heap ∧ (∀ b ∈ fp, H' b = none) ∧ W i n σ' H') ?_ m0 ⟨0, σ, H2, I2, st2, fun b hb => (f2 b hb).1, w0⟩
  rintro n s3 ⟨i, σ3, H3, I3, st3, fr3, w3⟩
  rcases turn i n σ3 H3 w3 with ⟨stop, qn⟩ | ⟨go, N, hN, step⟩
  · refine wpAny_passesOwn hp (thn (T.done X rfl rfl rfl hc i pins s3 σ3 H3 X.xe I3 (stat fr3) st3 stop) fun r s4 ⟨hr, I4⟩ => ?_)
    subst hr
    exact wpAny_execs_nil ⟨σ3, H3, I4, qn⟩
  · refine wpAny_passesOwn hp (thn (T.item X rfl rfl rfl hc i pins s3 σ3 H3 X.xe I3 (stat fr3) st3 go) fun r s4 ⟨u, hr, h4⟩ => ?_)
    subst hr
    refine wpAny_passesOwn hp (thn h4 fun _ s5 ⟨x, H5, I5, r5, y5, st5, fr5⟩ => ?_)
    have I5' := I5.pinned (stat fr5) (T.obj _ _ st5)
    refine wpAny_passesOwn hp (thn (hg _ s5 σ3 H5 x u _ I5' r5 (step x H5 y5)) fun _ s6 ⟨σ6, H6, I6, q6⟩ => ?_)
    refine wpAny_passesOwn hp (thn (hb _ s6 σ6 H6 _ I6 q6) fun f s7 q7 => ?_)
    have again : ∀ {σ7 : St} {H7 : Hp}, Inv X (pins ++ pinsAt fp s5.heap) σ7 H7 s7 → N σ7 H7 → ∃ m, m < n ∧ ∃ i σ' H', Inv X pins σ' H' s7 ∧ tn i s7.heap ∧ (∀ b ∈ fp, H' b = none) ∧ W i m σ' H' := fun {σ7 H7} I7 n7 => by
      obtain ⟨m', hm, w7⟩ := hN σ7 H7 n7
      refine ⟨m', hm, i + 1, σ7, H7, I7.unpinned, T.keep _ _ _ st5 fun b hb o e => (I7.pin (b, o) (List.mem_append_right _ (List.mem_append_right _ (mem_pinsAt hb e)))).1, fun b hb => ?_, w7⟩
      obtain ⟨o, e, d⟩ := T.obj _ _ st5 b hb
      exact (I7.pin (b, o) (List.mem_append_right _ (List.mem_append_right _ (mem_pinsAt hb e)))).2.1
    cases f with
    | next => obtain ⟨σ7, H7, I7, n7⟩ := q7; exact again I7 n7
    | cont => obtain ⟨σ7, H7, I7, n7⟩ := q7; exact again I7 n7
    | brk => obtain ⟨σ7, H7, I7, q7⟩ := q7; exact ⟨σ7, H7, I7.unpinned, q7⟩
    | ret v => obtain ⟨x7, σ7, H7, I7, r7, q7⟩ := q7; exact ⟨x7, σ7, H7, I7.unpinned, r7, q7⟩
end



theorem for_list {K : PySem.W.Frag} {a : Addr} {xs : List V} {g : TG} {tb : TS} {D : Ends} {σ : St} {H : Hp} (Pv : Nat → St → Hp → Prop) (h0 : Pv 0 σ H) (hl : ∀ i σ H, i ≤ xs.length → Pv i σ H → SqL K H a xs)
    (hs : ∀ i x σ H, xs[i]? = some x → Pv i σ H → g x σ H fun σ2 H2 => tb { D with nx := Pv (i + 1), ct := Pv (i + 1), bk := D.nx } σ2 H2) (hd : ∀ σ H, Pv xs.length σ H → D.nx σ H) :
    ∃ W : Nat → Nat → St → Hp → Prop, (∃ m, W 0 m σ H) ∧ ∀ i m σ H, W i m σ H →
      ((Itl K a).stop i H ∧ D.nx σ H) ∨ ((Itl K a).go i H ∧ ∃ N : St → Hp → Prop, (∀ σ' H', N σ' H' → ∃ m', m' < m ∧ W (i + 1) m' σ' H') ∧ ∀ x H', (Itl K a).yld i H x H' → g x σ H' fun σ2 H2 => tb { D with nx := N, ct := N, bk := D.nx } σ2 H2) := by
  refine ⟨fun i m σ H => m = xs.length - i ∧ i ≤ xs.length ∧ Pv i σ H, ⟨xs.length, by simp, Nat.zero_le _, h0⟩, ?_⟩
  rintro i m σ H ⟨rfl, hi, p⟩
  have q := hl i σ H hi p
  by_cases hlt : i < xs.length
  · refine .inr ⟨⟨xs, xs[i], q, by simp [hlt]⟩, Pv (i + 1), fun σ' H' p' => ⟨xs.length - (i + 1), by omega, rfl, hlt, p'⟩, fun x H' y => ?_⟩
    obtain ⟨e, y⟩ := y
    subst e
    exact hs i x σ _ (y xs q) p
  · have e : i = xs.length := by omega
    subst e
    exact .inl ⟨⟨xs, q, Nat.le_refl _⟩, hd σ H p⟩
theorem for_range {lo : Int} {n : Nat} {g : TG} {tb : TS} {D : Ends} {σ : St} {H : Hp} (Pv : Nat → St → Hp → Prop) (h0 : Pv 0 σ H)
    (hs : ∀ i σ H, i < n → Pv i σ H → g (.int (lo + i)) σ H fun σ2 H2 => tb { D with nx := Pv (i + 1), ct := Pv (i + 1), bk := D.nx } σ2 H2) (hd : ∀ σ H, Pv n σ H → D.nx σ H) :
    ∃ W : Nat → Nat → St → Hp → Prop, (∃ m, W 0 m σ H) ∧ ∀ i m σ H, W i m σ H →
      ((Itr lo n).stop i H ∧ D.nx σ H) ∨ ((Itr lo n).go i H ∧ ∃ N : St → Hp → Prop, (∀ σ' H', N σ' H' → ∃ m', m' < m ∧ W (i + 1) m' σ' H') ∧ ∀ x H', (Itr lo n).yld i H x H' → g x σ H' fun σ2 H2 => tb { D with nx := N, ct := N, bk := D.nx } σ2 H2) := by
  refine ⟨fun i m σ H => m = n - i ∧ i ≤ n ∧ Pv i σ H, ⟨n, by simp, Nat.zero_le _, h0⟩, ?_⟩
  rintro i m σ H ⟨rfl, hi, p⟩
  by_cases hlt : i < n
  · refine .inr ⟨hlt, Pv (i + 1), fun σ' H' p' => ⟨n - (i + 1), by omega, rfl, hlt, p'⟩, fun x H' y => ?_⟩
    obtain ⟨e, y⟩ := y
    subst e y
    exact hs i σ _ hlt p
  · have e : i = n := by omega
    subst e
    exact .inl ⟨Nat.le_refl _, hd σ H p⟩

end L2

namespace L2
open PySem PySem.Spec PyProof.Rows

abbrev R2 := V → V → Hp → VK → Prop

def OpR (X : Cx) (f : Value → Value → Sem Value) (r : R2) : Prop :=
  ∀ (pins : List (Addr × Obj)) (s : Shared) (σ : St) (H : Hp) (x y : V) (v u : Value) (Q : VK), Inv X pins σ H s → RelV x v → RelV y u → r x y H Q →
    wpAny (model X.prog X.w) X.A (f v u) (EP X pins σ Q) X.xe s

def UnR (X : Cx) (f : Value → Sem Value) (r : V → Hp → VK → Prop) : Prop :=
  ∀ (pins : List (Addr × Obj)) (s : Shared) (σ : St) (H : Hp) (x : V) (v : Value) (Q : VK), Inv X pins σ H s → RelV x v → r x H Q →
    wpAny (model X.prog X.w) X.A (f v) (EP X pins σ Q) X.xe s

def CallR (X : Cx) (f : Value) (r : List V → Hp → VK → Prop) : Prop :=
  ∀ (pins : List (Addr × Obj)) (s : Shared) (σ : St) (H : Hp) (xs : List V) (us : List Value) (Q : VK), Inv X pins σ H s → Vals xs us → r xs H Q →
    wpAny (model X.prog X.w) X.A (call f us) (EP X pins σ Q) X.xe s

def TruR (X : Cx) (r : V → Hp → (Bool → Hp → Prop) → Prop) : Prop :=
  ∀ (pins : List (Addr × Obj)) (s : Shared) (σ : St) (H : Hp) (x : V) (v : Value) (Q : Bool → Hp → Prop), Inv X pins σ H s → RelV x v → r x H Q →
    wpAny (model X.prog X.w) X.A (truthy v) (TP X pins σ Q) X.xe s

def tOp (r : R2) (ta tb : TE) : TE := fun σ H Q => ta σ H fun x H1 => tb σ H1 fun y H2 => r x y H2 Q
def tUn (r : V → Hp → VK → Prop) (ta : TE) : TE := fun σ H Q => ta σ H fun x H1 => r x H1 Q

def rI (C : Int → Int → Prop) (g : Int → Int → V) : R2 := fun x y H Q => ∃ i j, x = .int i ∧ y = .int j ∧ C i j ∧ Q (g i j) H
def rI0 (g : Int → Int → V) : R2 := fun x y H Q => ∃ i j, x = .int i ∧ y = .int j ∧ Q (g i j) H
def rU (g : Int → V) : V → Hp → VK → Prop := fun x H Q => ∃ i, x = .int i ∧ Q (g i) H

section
variable {X : Cx} {a b c : Expr} {ta tb tc : TE} {pos : Pos}

theorem binT (ha : PE X a ta) (hb : PE X b tb) {pins : List (Addr × Obj)} {s : Shared} {σ : St} {H : Hp} {R : V → V → Hp → Prop} (I : Inv X pins σ H s)
    (h : ta σ H fun x H1 => tb σ H1 fun y H2 => R x y H2) {Q : Value → Shared → Prop} {f : Value → Value → Sem Value}
    (hf : ∀ v u s2 x y H2, Inv X pins σ H2 s2 → RelV x v → RelV y u → R x y H2 → wpAny (model X.prog X.w) X.A (f v u) Q X.xe s2) :
    wpAny (model X.prog X.w) X.A (eval a X.env) (fun v s₁ => wpAny (model X.prog X.w) X.A (eval b X.env) (fun u s₂ => wpAny (model X.prog X.w) X.A (f v u) Q X.xe s₂) X.xe s₁) X.xe s := by
  refine thn (ha pins s σ H _ I h) fun v s1 ⟨x, H1, I1, r1, q1⟩ => ?_
  refine thn (hb pins s1 σ H1 _ I1 q1) fun u s2 ⟨y, H2, I2, r2, q2⟩ => ?_
  exact hf v u s2 x y H2 I2 r1 r2 q2

theorem pe_op {op : Operator} {r : R2} (ho : OpR X (binaryOp op) r) (ha : PE X a ta) (hb : PE X b tb) : PE X (.BinOp a op b pos) (tOp r ta tb) := by
  intro pins s σ H Q I h
  exact wpAny_BinOp (binT ha hb I h fun v u s2 x y H2 I2 rx ry q => ho pins s2 σ H2 x y v u Q I2 rx ry q)
theorem pe_un {op : UnaryOp} {r : V → Hp → VK → Prop} (ho : UnR X (unaryOp op) r) (ha : PE X a ta) : PE X (.UnaryOp op a pos) (tUn r ta) := by
  intro pins s σ H Q I h
  exact UnaryOp_ (thn (ha pins s σ H _ I h) fun v s1 ⟨x, H1, I1, r1, q1⟩ => ho pins s1 σ H1 x v Q I1 r1 q1)

theorem opI {f : Value → Value → Sem Value} {C : Int → Int → Prop} {g : Int → Int → Int}
    (rule : ∀ (i j : Int) (t u : Tok) (s : Shared) (Q : Value → Shared → Prop) (E : Value → Shared → Prop), C i j → Q (.int (g i j) s.toks) { s with toks := s.toks + 1 } → wpAny (model X.prog X.w) X.A (f (.int i t) (.int j u)) Q E s) :
    OpR X f (rI C fun i j => .int (g i j)) := by
  intro pins s σ H x y v u Q I rx ry h
  obtain ⟨i, j, rfl, rfl, hc, q⟩ := h
  obtain ⟨t, rfl⟩ := rx
  obtain ⟨t', rfl⟩ := ry
  exact rule i j t t' s _ _ hc ⟨.int (g i j), H, I.tok _, ⟨_, rfl⟩, q⟩
theorem opI0 {f : Value → Value → Sem Value} {g : Int → Int → Int}
    (rule : ∀ (i j : Int) (t u : Tok) (s : Shared) (Q : Value → Shared → Prop) (E : Value → Shared → Prop), Q (.int (g i j) s.toks) { s with toks := s.toks + 1 } → wpAny (model X.prog X.w) X.A (f (.int i t) (.int j u)) Q E s) :
    OpR X f (rI0 fun i j => .int (g i j)) := by
  intro pins s σ H x y v u Q I rx ry h
  obtain ⟨i, j, rfl, rfl, q⟩ := h
  obtain ⟨t, rfl⟩ := rx
  obtain ⟨t', rfl⟩ := ry
  exact rule i j t t' s _ _ ⟨.int (g i j), H, I.tok _, ⟨_, rfl⟩, q⟩
theorem opB0 {f : Value → Value → Sem Value} {g : Int → Int → Bool}
    (rule : ∀ (i j : Int) (t u : Tok) (s : Shared) (Q : Value → Shared → Prop) (E : Value → Shared → Prop), Q (.bool (g i j)) s → wpAny (model X.prog X.w) X.A (f (.int i t) (.int j u)) Q E s) :
    OpR X f (rI0 fun i j => .bl (g i j)) := by
  intro pins s σ H x y v u Q I rx ry h
  obtain ⟨i, j, rfl, rfl, q⟩ := h
  obtain ⟨t, rfl⟩ := rx
  obtain ⟨t', rfl⟩ := ry
  exact rule i j t t' s _ _ ⟨.bl (g i j), H, I, rfl, q⟩

def CDiv (i j : Int) : Prop := 0 < j ∧ j < 1073741824
def CPow (i j : Int) : Prop := 0 ≤ j ∧ j ≤ 1000000 ∧ i.natAbs < 2 ^ 64
def CMul (i j : Int) : Prop := (-(2 ^ 64) < i ∧ i < 2 ^ 64) ∨ (-(2 ^ 64) < j ∧ j < 2 ^ 64)
theorem CMul.ok {i j : Int} (h : CMul i j) : IntMulOk i j := by
  rcases h with ⟨h1, h2⟩ | ⟨h1, h2⟩
  · exact .of_left (intBits_le_64 h1 h2)
  · exact .of_right (intBits_le_64 h1 h2)
theorem two_pow_nn (k : Nat) : (0 : Int) ≤ 2 ^ k := by
  rw [two_pow_cast]
  exact Int.natCast_nonneg _

theorem op_add : OpR X (binaryOp .Add) (rI0 fun i j => .int (i + j)) := opI0 fun _ _ _ _ _ _ _ q => add_int q
theorem op_sub : OpR X (binaryOp .Sub) (rI0 fun i j => .int (i - j)) := opI0 fun _ _ _ _ _ _ _ q => sub_int q
theorem op_mul : OpR X (binaryOp .Mult) (rI CMul fun i j => .int (i * j)) := opI fun _ _ _ _ _ _ _ hc q => mul_int q hc.ok

theorem op_fdiv : OpR X (binaryOp .FloorDiv) (rI CDiv fun i j => .int (i / j)) := opI fun i j _ _ _ _ _ hc q => by
  have h1 : (0 : Int) < j := hc.1
  have h2 : j < 1073741824 := hc.2
  exact floordiv_int (by omega) (by rw [Int.fdiv_eq_ediv_of_nonneg i (by omega)]; exact q) (.inl (PyProof.noPylong_small (by omega)))
theorem op_mod : OpR X (binaryOp .Mod) (rI (fun _ j => 0 < j) fun i j => .int (i % j)) := opI fun i j _ _ _ _ _ hc q => by
  have h1 : (0 : Int) < j := hc
  exact mod_int' (by omega) (by rw [Int.fmod_eq_emod_of_nonneg i (by omega)]; exact q)
theorem op_pow : OpR X (binaryOp .Pow) (rI CPow fun i j => .int (i ^ j.toNat)) := opI fun _ _ _ _ _ _ _ hc q => pow_int_small hc.1 hc.2.1 hc.2.2 q
theorem op_shl : OpR X (binaryOp .LShift) (rI CPow fun i j => .int (i * 2 ^ j.toNat)) := opI fun _ _ _ _ _ _ _ hc q => lshift_int_small hc.1 hc.2.1 hc.2.2 q
theorem op_shr : OpR X (binaryOp .RShift) (rI (fun _ j => 0 ≤ j) fun i j => .int (i / 2 ^ j.toNat)) := opI fun i j _ _ _ _ _ hc q =>
  rshift_int hc (by rw [Int.fdiv_eq_ediv_of_nonneg i (two_pow_nn _)]; exact q)
theorem op_and : OpR X (binaryOp .BitAnd) (rI0 fun i j => .int (Builtin.bitAnd i j)) := opI0 fun _ _ _ _ _ _ _ q => and_int q
theorem op_or : OpR X (binaryOp .BitOr) (rI0 fun i j => .int (Builtin.bitOr i j)) := opI0 fun _ _ _ _ _ _ _ q => or_int q
theorem unI {f : Value → Sem Value} {g : Int → Int}
    (rule : ∀ (i : Int) (t : Tok) (s : Shared) (Q : Value → Shared → Prop) (E : Value → Shared → Prop), Q (.int (g i) s.toks) { s with toks := s.toks + 1 } → wpAny (model X.prog X.w) X.A (f (.int i t)) Q E s) :
    UnR X f (rU fun i => .int (g i)) := by
  intro pins s σ H x v Q I rx h
  obtain ⟨i, rfl, q⟩ := h
  obtain ⟨t, rfl⟩ := rx
  exact rule i t s _ _ ⟨.int (g i), H, I.tok _, ⟨_, rfl⟩, q⟩
theorem un_neg : UnR X (unaryOp .USub) (rU fun i => .int (-i)) := unI fun _ _ _ _ _ q => neg_int q
theorem un_inv : UnR X (unaryOp .Invert) (rU fun i => .int (Builtin.bitNot i)) := unI fun _ _ _ _ _ q => invert_int q


end



def scal : V → V → Bool
  | .non, .non => true | .non, .int _ => true | .int _, .non => true | .non, .bl _ => true | .bl _, .non => true | .non, .str _ => true | .str _, .non => true
  | .int _, .int _ => true | .bl _, .bl _ => true | .str _, .str _ => true | .byt _, .byt _ => true
  | .int _, .str _ => true | .str _, .int _ => true | .bl _, .str _ => true | .str _, .bl _ => true
  | _, _ => false
def rEq : R2 := fun x y H Q => scal x y = true ∧ Q (.bl (decide (x = y))) H
def rNe : R2 := fun x y H Q => scal x y = true ∧ Q (.bl (!decide (x = y))) H

theorem dec_int {i j : Int} : decide (V.int i = V.int j) = (i == j) := by
  rw [Bool.eq_iff_iff]
  simp
theorem dec_bl {i j : Bool} : decide (V.bl i = V.bl j) = (i == j) := by
  rw [Bool.eq_iff_iff]
  simp
theorem dec_str {i j : Str} : decide (V.str i = V.str j) = (i == j) := by
  rw [Bool.eq_iff_iff]
  simp
theorem dec_byt {i j : Array UInt8} : decide (V.byt i = V.byt j) = (i.toList == j.toList) := by
  rw [Bool.eq_iff_iff]
  cases i
  cases j
  simp

section
variable {X : Cx} {a b c : Expr} {ta tb tc : TE} {pos : Pos}
theorem fin_bl {pins : List (Addr × Obj)} {σ : St} {H : Hp} {s : Shared} {Q : VK} {k k' : Bool} (I : Inv X pins σ H s) (q : Q (.bl k) H) (e : k = k') : EP X pins σ Q (.bool k') s := by
  subst e
  exact ⟨.bl k, H, I, rfl, q⟩
theorem op_eq : OpR X (compareOp .Eq) rEq := by
  intro pins s σ H x y v u Q I rx ry h
  obtain ⟨hs, q⟩ := h
  cases x with
  | non =>
    cases rx
    cases y with
    | non => cases ry; exact PySem.EqNone.eq_none_none (fin_bl I q (by simp))
    | bl j => cases ry; exact PySem.EqNone.eq_none_bool (fin_bl I q (by simp))
    | int j => obtain ⟨t', rfl⟩ := ry; exact PySem.EqNone.eq_none_int (fin_bl I q (by simp))
    | str j => obtain ⟨t', rfl⟩ := ry; exact PySem.EqNone.eq_none_str (fin_bl I q (by simp))
    | _ => exact absurd (show false = true from hs) Bool.false_ne_true
  | bl i =>
    cases rx
    cases y with
    | non => cases ry; exact PySem.EqNone.eq_bool_none (fin_bl I q (by simp))
    | bl j => cases ry; exact eq_bool (fin_bl I q dec_bl)
    | str j => obtain ⟨t', rfl⟩ := ry; exact PySem.EqMixed.eq_bool_str (fin_bl I q (by simp))
    | _ => exact absurd (show false = true from hs) Bool.false_ne_true
  | int i =>
    obtain ⟨t, rfl⟩ := rx
    cases y with
    | non => cases ry; exact PySem.EqNone.eq_int_none (fin_bl I q (by simp))
    | int j => obtain ⟨t', rfl⟩ := ry; exact eq_int (fin_bl I q dec_int)
    | str j => obtain ⟨t', rfl⟩ := ry; exact PySem.EqMixed.eq_int_str (fin_bl I q (by simp))
    | _ => exact absurd (show false = true from hs) Bool.false_ne_true
  | str i =>
    obtain ⟨t, rfl⟩ := rx
    cases y with
    | non => cases ry; exact PySem.EqNone.eq_str_none (fin_bl I q (by simp))
    | bl j => cases ry; exact PySem.EqMixed.eq_str_bool (fin_bl I q (by simp))
    | int j => obtain ⟨t', rfl⟩ := ry; exact PySem.EqMixed.eq_str_int (fin_bl I q (by simp))
    | str j => obtain ⟨t', rfl⟩ := ry; exact eq_str (fin_bl I q dec_str)
    | _ => exact absurd (show false = true from hs) Bool.false_ne_true
  | byt i =>
    obtain ⟨t, rfl⟩ := rx
    cases y with
    | byt j => obtain ⟨t', rfl⟩ := ry; exact PySem.W.eq_bytes (fin_bl I q dec_byt)
    | _ => exact absurd (show false = true from hs) Bool.false_ne_true
  | _ => cases y <;> exact absurd (show false = true from hs) Bool.false_ne_true
theorem op_ne : OpR X (compareOp .NotEq) rNe := by
  intro pins s σ H x y v u Q I rx ry h
  obtain ⟨hs, q⟩ := h
  cases x with
  | non =>
    cases rx
    cases y with
    | non => cases ry; exact PySem.EqNone.ne_none_none (fin_bl I q (by simp))
    | bl j => cases ry; exact PySem.EqNone.ne_none_bool (fin_bl I q (by simp))
    | int j => obtain ⟨t', rfl⟩ := ry; exact PySem.EqNone.ne_none_int (fin_bl I q (by simp))
    | str j => obtain ⟨t', rfl⟩ := ry; exact PySem.EqNone.ne_none_str (fin_bl I q (by simp))
    | _ => exact absurd (show false = true from hs) Bool.false_ne_true
  | bl i =>
    cases rx
    cases y with
    | non => cases ry; exact PySem.EqNone.ne_bool_none (fin_bl I q (by simp))
    | bl j => cases ry; exact ne_bool (fin_bl I q (congrArg not dec_bl))
    | str j => obtain ⟨t', rfl⟩ := ry; exact PySem.EqMixed.ne_bool_str (fin_bl I q (by simp))
    | _ => exact absurd (show false = true from hs) Bool.false_ne_true
  | int i =>
    obtain ⟨t, rfl⟩ := rx
    cases y with
    | non => cases ry; exact PySem.EqNone.ne_int_none (fin_bl I q (by simp))
    | int j => obtain ⟨t', rfl⟩ := ry; exact ne_int (fin_bl I q (congrArg not dec_int))
    | str j => obtain ⟨t', rfl⟩ := ry; exact PySem.EqMixed.ne_int_str (fin_bl I q (by simp))
    | _ => exact absurd (show false = true from hs) Bool.false_ne_true
  | str i =>
    obtain ⟨t, rfl⟩ := rx
    cases y with
    | non => cases ry; exact PySem.EqNone.ne_str_none (fin_bl I q (by simp))
    | bl j => cases ry; exact PySem.EqMixed.ne_str_bool (fin_bl I q (by simp))
    | int j => obtain ⟨t', rfl⟩ := ry; exact PySem.EqMixed.ne_str_int (fin_bl I q (by simp))
    | str j => obtain ⟨t', rfl⟩ := ry; exact ne_str (fin_bl I q (congrArg not dec_str))
    | _ => exact absurd (show false = true from hs) Bool.false_ne_true
  | byt i =>
    obtain ⟨t, rfl⟩ := rx
    cases y with
    | byt j => obtain ⟨t', rfl⟩ := ry; exact PySem.W.ne_bytes (fin_bl I q (congrArg not dec_byt))
    | _ => exact absurd (show false = true from hs) Bool.false_ne_true
  | _ => cases y <;> exact absurd (show false = true from hs) Bool.false_ne_true

theorem op_lt : OpR X (compareOp .Lt) (rI0 fun i j => .bl (decide (i < j))) := opB0 fun _ _ _ _ _ _ _ q => lt_int q
theorem op_gt : OpR X (compareOp .Gt) (rI0 fun i j => .bl (decide (j < i))) := opB0 fun _ _ _ _ _ _ _ q => gt_int q
theorem op_ge : OpR X (compareOp .GtE) (rI0 fun i j => .bl (decide (j ≤ i))) := opB0 fun _ _ _ _ _ _ _ q => ge_int q
theorem op_isN : OpR X (compareOp .Is) (fun x y H Q => y = .non ∧ Q (.bl (decide (x = .non))) H) := by
  intro pins s σ H x y v u Q I rx ry h
  obtain ⟨rfl, q⟩ := h
  cases ry
  refine is_none_gen (fin_bl I q ?_)
  cases x <;> first
    | (cases rx; rfl)
    | (obtain ⟨t, rfl⟩ := rx; rfl)
theorem op_notN : OpR X (compareOp .IsNot) (fun x y H Q => y = .non ∧ Q (.bl (!decide (x = .non))) H) := by
  intro pins s σ H x y v u Q I rx ry h
  obtain ⟨rfl, q⟩ := h
  cases ry
  refine isnot_none_gen (fin_bl I q ?_)
  cases x <;> first
    | (cases rx; rfl)
    | (obtain ⟨t, rfl⟩ := rx; rfl)

theorem nomark (b : Expr) {op : CmpOp} (h : op ≠ .In := by decide) (h2 : op ≠ .NotIn := by decide) : behindInMarks op b = false := by
  have e1 : (op == CmpOp.In) = false := by cases op <;> first | rfl | exact absurd rfl h
  have e2 : (op == CmpOp.NotIn) = false := by cases op <;> first | rfl | exact absurd rfl h2
  cases b <;> simp [behindInMarks, e1, e2]

theorem pe_cmpR {op : CmpOp} {r : R2} (ho : OpR X (compareOp op) r) (ha : PE X a ta) (hb : PE X b tb) (hm : behindInMarks op b = false) : PE X (.Compare a [op] [b] pos) (tOp r ta tb) := by
  intro pins s σ H Q I h
  exact wpAny_Compare1 (binT ha hb I h fun v u s2 x y H2 I2 rx ry q => ho pins s2 σ H2 x y v u Q I2 rx ry q) hm

def tTest (t : TE) : TT := fun σ H Q => t σ H fun x H' => ∃ k, x = .bl k ∧ Q k H'
theorem pt_cmpR {op : CmpOp} {r : R2} (ho : OpR X (compareOp op) r) (ha : PE X a ta) (hb : PE X b tb) (hm : behindInMarks op b = false) : PT X (.Compare a [op] [b] pos) (tTest (tOp r ta tb)) := by
  intro pins s σ H Q I h
  refine wpAny_isTrue_Compare1 (thn (ha pins s σ H _ I h) fun v s1 ⟨x, H1, I1, r1, q1⟩ => thn (hb pins s1 σ H1 _ I1 q1) fun u s2 ⟨y, H2, I2, r2, q2⟩ =>
    thn (ho pins s2 σ H2 x y v u _ I2 r1 r2 q2) fun c s3 ⟨z, H3, I3, r3, k, e, q3⟩ => ?_) hm
  subst e
  cases r3
  exact wpAny_truthy_bool ⟨H3, I3, q3⟩

def TruV (K : PySem.W.Frag) (x : V) (H : Hp) (k : Bool) : Prop :=
  match x with
  | .non => k = false
  | .bl b => k = b
  | .int i => k = (i != 0)
  | .str y => y.length ≤ sizeLine ∧ k = ((y.length : Int) != 0)
  | .byt y => y.size ≤ sizeLine ∧ k = ((y.size : Int) != 0)
  | .ref p => (∃ xs, SqL K H p xs ∧ k = !xs.isEmpty) ∨ (∃ xs, SqT K H p xs ∧ k = !xs.isEmpty) ∨ ∃ kvs, H p = some (.dK kvs) ∧ k = !kvs.isEmpty
  | _ => False
theorem isEmpty_kv {κ : Type} {kvs : List (κ × V)} {vs : List (κ × Value)} (r : KV kvs vs) : (!vs.isEmpty) = !kvs.isEmpty := by
  cases r <;> rfl
theorem isEmpty_of {xs : List V} {its : List Value} (r : Vals xs its) : (!its.toArray.isEmpty) = !xs.isEmpty := by
  cases r <;> simp
theorem line63 : (sizeLine : Nat) < 2 ^ 63 := by rw [sizeLine_eq]; decide
theorem tru_ok : TruR X (fun x H Q => ∃ k, TruV X.K x H k ∧ Q k H) := by
  intro pins s σ H x v Q I rx h
  obtain ⟨k, e, q⟩ := h
  have hl := line63
  have hs : sizeLine = 16777216 := sizeLine_eq
  cases x with
  | non =>
    cases rx
    have e' : k = false := e
    subst e'
    exact truthy_none ⟨H, I, q⟩
  | bl b =>
    cases rx
    have e' : k = b := e
    subst e'
    exact wpAny_truthy_bool ⟨H, I, q⟩
  | int i =>
    obtain ⟨t, rfl⟩ := rx
    have e' : k = (i != 0) := e
    subst e'
    exact PySem.P.truthy_int ⟨H, I, q⟩
  | str y =>
    obtain ⟨t, rfl⟩ := rx
    obtain ⟨hy, e'⟩ : y.length ≤ sizeLine ∧ k = ((y.length : Int) != 0) := e
    subst e'
    exact PySem.P.truthy_str (by omega) ⟨H, I.tok _, q⟩
  | byt y =>
    obtain ⟨t, rfl⟩ := rx
    obtain ⟨hy, e'⟩ : y.size ≤ sizeLine ∧ k = ((y.size : Int) != 0) := e
    subst e'
    exact PySem.W.truthy_bytes (by omega) ⟨H, I.tok _, q⟩
  | ref p =>
    cases rx
    have e' : (∃ xs, SqL X.K H p xs ∧ k = !xs.isEmpty) ∨ (∃ xs, SqT X.K H p xs ∧ k = !xs.isEmpty) ∨ ∃ kvs, H p = some (.dK kvs) ∧ k = !kvs.isEmpty := e
    rcases e' with ⟨xs, hx, e'⟩ | ⟨xs, hx, e'⟩ | ⟨kvs, hx, e'⟩
    · subst e'
      obtain ⟨its, r, pl, hz⟩ := I.list hx
      have hlen := r.length
      exact wpAny_truthy_list pl.isList (by simp only [List.size_toArray]; omega) ⟨H, I.tok _, by rw [isEmpty_of r]; exact q⟩
    · subst e'
      obtain ⟨its, r, pl, hz⟩ := I.tuple hx
      have hlen := r.length
      exact truthy_tuple pl (by simp only [List.size_toArray]; omega) ⟨H, I.tok _, by rw [isEmpty_of r]; exact q⟩
    · subst e'
      obtain ⟨hz, hS, vs, r, m⟩ : kvs.length ≤ sizeLine ∧ (p == sysModules) = false ∧ ∃ vs, KV kvs vs ∧ s.heap.DictOf (mixKind X.prog X.w) p vs := I.hok p _ hx
      have hlen : kvs.length = vs.length := Paired.length r
      exact wpAny_truthy_dict hS m (by omega) ⟨H, I.tok _, by rw [isEmpty_kv r]; exact q⟩
  | _ => exact (show False from e).elim

theorem pt_truth (ha : PE X a ta) (he : ∀ whole, isTrue a X.env whole = (do let v ← whole; standAt a.pos; holding [v] (truthy v))) :
    PT X a (fun σ H Q => ta σ H fun x H' => ∃ k, TruV X.K x H' k ∧ Q k H') := by
  intro pins s σ H Q I h
  exact isTrue_plain (thn (ha pins s σ H _ I h) fun v s1 ⟨x, H1, I1, r1, q1⟩ => tru_ok pins s1 σ H1 x v Q I1 r1 q1) (he _)


theorem vals1 {x : V} {us : List Value} (r : Vals [x] us) : ∃ u, us = [u] ∧ RelV x u := by
  cases r with
  | cons r1 r2 => cases r2; exact ⟨_, rfl, r1⟩
theorem vals2 {x y : V} {us : List Value} (r : Vals [x, y] us) : ∃ u w', us = [u, w'] ∧ RelV x u ∧ RelV y w' := by
  cases r with
  | cons r1 r2 =>
    cases r2 with
    | cons r3 r4 => cases r4; exact ⟨_, _, rfl, r1, r3⟩
end
end L2

namespace L2
open PySem PySem.Spec PyProof.Rows


structure ObjM (h : Heap) (x dx C : Addr) (mA : Str → Option Value) : Prop where
  obj : h.get? x = some (PySem.W.instObj C dx)
  ns : h.Ns1 dx mA
  ne : dx ≠ x

theorem lookIn_ns {h : Heap} {dx : Addr} {mA : Str → Option Value} (n : h.Ns1 dx mA) : ∃ od, h.get? dx = some od ∧ ∀ name, PySem.W.lookIn name od = some (mA name) := by
  obtain ⟨o, es, ep, ho, hd, hk, _, hm⟩ := n
  refine ⟨o, ho, fun name => ?_⟩
  have e := hm name
  unfold nsFind findBy at e
  rw [← Array.find?_toList] at e
  unfold PySem.W.lookIn
  rw [hd]
  dsimp only
  split
  · rename_i y q
    rw [q] at e
    exact congrArg some e
  · rename_i q
    rw [q] at e
    have a : es.toList.any (·.refKey) = false := by
      rw [List.any_eq_false]
      intro y hy
      obtain ⟨z, t, hkey⟩ := hk y (Array.mem_toList_iff.mp hy)
      simp [DictEntry.refKey, hkey]
    have a' : ¬ es.toList.any (·.refKey) = true := by rw [a]; exact Bool.false_ne_true
    rw [if_neg a']
    exact congrArg some e

theorem ObjM.look {h : Heap} {x dx C : Addr} {mA : Str → Option Value} (I : ObjM h x dx C mA) : ∃ od, PySem.W.InstAt h x (PySem.W.instObj C dx) C (some od) ∧ ∀ name, PySem.W.lookIn name od = some (mA name) :=
  let ⟨od, ho, hl⟩ := lookIn_ns I.ns
  ⟨od, ⟨I.obj, rfl, rfl, ho⟩, hl⟩

section
variable {prog : Program} {w : World} {A : Around} {E : Value → Shared → Prop} {s : Shared} {K : PySem.W.Frag} {x dx C f : Addr} {mA : Str → Option Value} {name : Str} {v : Value}

theorem get_map {expr : Bool} {Q : Value → Shared → Prop} (X : K.In s.heap) (I : ObjM s.heap x dx C mA) (hg : PySem.W.plainGet K C name = true) (hh : PySem.W.hasDictIn K C = true)
    (ha : PySem.W.findIn K (.ref C) name = some none) (hv : mA name = some v) (hv' : PySem.W.handedIn v = true) (h : Q v { s with toks := s.toks + 1 }) :
    wpAny (model prog w) A (getAttr (.ref x) name expr) Q E s := by
  obtain ⟨od, J, hl⟩ := I.look
  exact PySem.W.get_value X J (PySem.W.plainGet_of hg).1 (PySem.W.findObj_own hh ha rfl (by rw [hl, hv])) hv' h

theorem get_meth {pl : Sem Bool} {Q : Value × List Value → Shared → Prop} (X : K.In s.heap) (I : ObjM s.heap x dx C mA) (hg : PySem.W.plainGet K C name = true)
    (hf : PySem.W.findIn K (.ref C) name = some (some (.ref f))) (ht : PySem.W.isFn K (.ref f) = true) (hv : mA name = none) (h : Q (.ref f, [.ref x]) s) :
    wpAny (model prog w) A (getMethod (.ref x) name pl) Q E s := by
  obtain ⟨od, J, hl⟩ := I.look
  exact PySem.W.method_fn X J (PySem.W.plainGet_of hg).1 (PySem.W.plainGet_of hg).2 hf (beq_iff_eq.mp ht) (by show (PySem.W.lookIn name od).map (·.isSome) = some false; rw [hl, hv]; rfl) h

theorem set_map {ns : List Str} {Q : Unit → Shared → Prop} (X : K.In s.heap) (I : ObjM s.heap x dx C mA)
    (hs : PySem.W.findIn K (.ref C) "__setattr__" = some (some (.builtin "object.__setattr__"))) (hp : PySem.W.plainOver K C = true) (ht : PySem.W.takerIn K C name = some none) (hh : PySem.W.hasDictIn K C = true)
    (hw : PySem.Within mA ns) (hsz : ns.length ≤ sizeLine)
    (h : ∀ h', ObjM h' x dx C (fun y => if y = name then some v else mA y) → Heap.SameBut dx s.heap h' → Q () { s with heap := h', toks := s.toks + 2 }) :
    wpAny (model prog w) A (setAttr (.ref x) name v) Q E s := by
  obtain ⟨od, J, hl⟩ := I.look
  refine PySem.W.set_plain X J hs (PySem.W.osa_open (s := { s with toks := s.toks + 1 }) (r := none) X J hp ht fun b => ?_)
  obtain ⟨cd, hc, hd'⟩ := PySem.W.any_some hh
  have hx : s.heap.get? x = some ⟨.ref C, some dx, .plain, #[]⟩ := I.obj
  refine wpAny_bind (wpAny_pure (wpAny_bind (wpAny_bind (wpAny_loadPart hx (wpAny_bind (PySem.W.Looks.here (s := { s with toks := s.toks + 1 }) (PySem.W.looks_clsIn X hc) ?_))))))
  rw [hd']
  refine wpAny_pure (a := some dx) (wpAny_bind (wpAny_pure (wpAny_bind ?_)))
  refine wpAny_nsSet1 (s := { s with toks := s.toks + 1 }) I.ns fun h' hn2 hs2 => ?_
  obtain ⟨oD, esD, epD, hoD, hdD, hcD⟩ := hn2.count (PySem.Within.cons name v hw)
  refine wpAny_bind (wpAny_lookBehind hoD (by rw [hdD]; exact pastItsLine_dict (Nat.le_trans hcD (by rw [List.length_cons]; omega))) ?_)
  exact wpAny_pure (h _ ⟨(hs2.2 _ (Ne.symm I.ne)).trans I.obj, hn2, I.ne⟩ hs2)


theorem make_map {R : Result → Shared → Prop} {vs : List Value} {kw : List (Str × Value)} (X : K.In s.heap) (hm : PySem.W.makesIn K C = true)
    (hi : PySem.W.findIn K (.ref C) "__init__" = some (some (.ref f))) (hf : PySem.W.typeIn K (.ref f) = some (.type "function"))
    (h : codeAny (model prog w) (A.under (.builtin "type.__call__" ⟨.ref C :: vs, kw⟩)) (.call (.ref f) ⟨.ref (s.heap.objs.size + 1) :: vs, kw⟩) (PySem.W.InitBack (s.heap.objs.size + 1) R)
      { s with heap := (s.heap.push PySem.W.emptyDict).push (PySem.W.instObj C s.heap.objs.size) }) :
    codeAny (model prog w) A (.call (.ref C) ⟨vs, kw⟩) R s := by
  obtain ⟨hh, g, d, t, os⟩ := s
  exact PySem.W.make_core (PySem.W.makes_of X hm) (PySem.W.looks_findIn X hi) (fun self => PySem.W.bind_fn X self hf) (.inl rfl) h

end


def putF (f : Str) (v : V) : List (Str × V) → List (Str × V)
  | [] => [(f, v)]
  | (g, x) :: r => if g = f then (g, v) :: r else (g, x) :: putF f v r
theorem lookup_putF (f g : Str) (v : V) : ∀ fs : List (Str × V), (putF f v fs).lookup g = if g = f then some v else fs.lookup g
  | [] => by
    show List.lookup g [(f, v)] = _
    by_cases h : g = f
    · have hb : (g == f) = true := beq_iff_eq.mpr h
      simp only [List.lookup, hb, if_pos h]
    · have hb : (g == f) = false := beq_eq_false_iff_ne.mpr h
      simp only [List.lookup, hb, if_neg h]
  | (k, x) :: r => by
    have ih := lookup_putF f g v r
    rw [show putF f v ((k, x) :: r) = (if k = f then (k, v) :: r else (k, x) :: putF f v r) from rfl]
    by_cases hk : k = f
    · rw [if_pos hk]
      by_cases h : g = k
      · have hb : (g == k) = true := beq_iff_eq.mpr h
        simp only [List.lookup, hb, if_pos (h.trans hk)]
      · have hb : (g == k) = false := beq_eq_false_iff_ne.mpr h
        simp only [List.lookup, hb, if_neg (fun e : g = f => h (e.trans hk.symm))]
    · rw [if_neg hk]
      by_cases h : g = k
      · have hb : (g == k) = true := beq_iff_eq.mpr h
        simp only [List.lookup, hb, if_neg (fun e : g = f => hk (h.symm.trans e))]
      · have hb : (g == k) = false := beq_eq_false_iff_ne.mpr h
        simp only [List.lookup, hb]
        exact ih
theorem keys_putF (f : Str) (v : V) : ∀ fs : List (Str × V), f ∈ (putF f v fs).map (·.1) ∧ ∀ g, g ∈ fs.map (·.1) → g ∈ (putF f v fs).map (·.1)
  | [] => ⟨by simp [putF], fun g h => by simp at h⟩
  | (k, x) :: r => by
    obtain ⟨i1, i2⟩ := keys_putF f v r
    rw [show putF f v ((k, x) :: r) = (if k = f then (k, v) :: r else (k, x) :: putF f v r) from rfl]
    by_cases hk : k = f
    · rw [if_pos hk]
      subst hk
      exact ⟨by simp, fun g h => by simpa using h⟩
    · rw [if_neg hk]
      refine ⟨?_, fun g h => ?_⟩
      · rw [List.map_cons]
        exact List.mem_cons_of_mem _ i1
      · rw [List.map_cons] at h ⊢
        rcases List.mem_cons.mp h with e | e
        · exact List.mem_cons.mpr (.inl e)
        · exact List.mem_cons_of_mem _ (i2 g e)
theorem length_putF (f : Str) (v : V) : ∀ fs : List (Str × V), (putF f v fs).length ≤ fs.length + 1
  | [] => by simp [putF]
  | (k, x) :: r => by
    have ih := length_putF f v r
    rw [show putF f v ((k, x) :: r) = (if k = f then (k, v) :: r else (k, x) :: putF f v r) from rfl]
    by_cases hk : k = f
    · rw [if_pos hk, List.length_cons, List.length_cons]; omega
    · rw [if_neg hk, List.length_cons, List.length_cons]; omega

theorem RelO.some_of {v : V} {o : Option Value} (r : RelO (some v) o) : ∃ u, o = some u ∧ RelV v u := by
  cases o with
  | none => exact (show False from r).elim
  | some u => exact ⟨u, rfl, r⟩
theorem RelO.none_of {o : Option Value} (r : RelO none o) : o = none := by
  cases o with
  | none => rfl
  | some u => exact (show False from r).elim
theorem handed_of {v : V} {u : Value} (r : RelV v u) : PySem.W.handedIn u = true := by
  cases v with
  | non => cases (show u = Value.none from r); rfl
  | bl b => cases (show u = Value.bool b from r); rfl
  | int i => obtain ⟨t, e⟩ := (show ∃ t, u = Value.int i t from r); cases e; rfl
  | str x => obtain ⟨t, e⟩ := (show ∃ t, u = Value.str x t from r); cases e; rfl
  | byt b => obtain ⟨t, e⟩ := (show ∃ t, u = Value.bytes b t from r); cases e; rfl
  | flt b => obtain ⟨t, e⟩ := (show ∃ t, u = Value.float b t from r); cases e; rfl
  | ref a => cases (show u = Value.ref a from r); rfl
  | ty n => cases (show u = Value.type n from r); rfl

section
variable {P : Program} {w : World} {H H' : Hp} {h h' : Heap} {a C dx : Addr} {fs fs' : List (Str × V)}
theorem ins_get (hok : HOk P w H h) (e : H a = some (.ins C dx fs)) : ∃ mA, ObjM h a dx C mA ∧ (∀ f, RelO (fs.lookup f) (mA f)) ∧ PySem.Within mA (fs.map (·.1)) ∧ fs.length ≤ 1000 ∧ H dx = some (.own a) := by
  obtain ⟨d, z, ne, ob, mA, n, r, q⟩ := (show ObjOk P w H h a (.ins C dx fs) from hok a _ e)
  exact ⟨mA, ⟨ob, n, ne⟩, r, q, z, d⟩
end


structure Cls (K : PySem.W.Frag) (C : Addr) : Prop where
  pg : PySem.W.plainGet K C Str.empty = true
  hd : PySem.W.hasDictIn K C = true
  po : PySem.W.plainOver K C = true
  sa : PySem.W.findIn K (.ref C) "__setattr__" = some (some (.builtin "object.__setattr__"))
theorem Cls.get {K : PySem.W.Frag} {C : Addr} (c : Cls K C) (f : Str) : PySem.W.plainGet K C f = true := c.pg

def NoAttr (K : PySem.W.Frag) (C : Addr) (f : Str) : Prop := PySem.W.findIn K (.ref C) f = some none
theorem NoAttr.taker {K : PySem.W.Frag} {C : Addr} {f : Str} (n : NoAttr K C f) : PySem.W.takerIn K C f = some none := by
  unfold PySem.W.takerIn
  rw [show PySem.W.findIn K (.ref C) f = some none from n]
  rfl

structure Meth (K : PySem.W.Frag) (C : Addr) (m : Str) (f : Addr) : Prop where
  at_ : PySem.W.findIn K (.ref C) m = some (some (.ref f))
  fn : PySem.W.isFn K (.ref f) = true
  kp : PySem.W.keepIn K (.ref f) = true

section
variable {X : Cx} {pins : List (Addr × Obj)} {σ : St} {H : Hp} {s : Shared} {a C dx : Addr} {fs : List (Str × V)} {f : Str} {v : V} {A : Around} {E : Value → Shared → Prop}

theorem getattr_ok {b : Bool} {Q : Value → Shared → Prop} (I : Inv X pins σ H s) (e : H a = some (.ins C dx fs)) (c : Cls X.K C) (n : NoAttr X.K C f) (l : fs.lookup f = some v)
    (h : ∀ u s', Inv X pins σ H s' → RelV v u → Q u s') : wpAny (model X.prog X.w) A (getAttr (.ref a) f b) Q E s := by
  obtain ⟨mA, O, r, _, _, _⟩ := ins_get I.hok e
  obtain ⟨u, hu, ru⟩ := RelO.some_of (v := v) (o := mA f) (by rw [← l]; exact r f)
  exact get_map I.kIn O (c.get f) c.hd n hu (handed_of ru) (h u _ (I.tok _) ru)

theorem getmeth_ok {m : Str} {g : Addr} {pl : Sem Bool} {Q : Value × List Value → Shared → Prop} (I : Inv X pins σ H s) (e : H a = some (.ins C dx fs)) (c : Cls X.K C) (k : Meth X.K C m g) (l : fs.lookup m = none)
    (h : Q (.ref g, [.ref a]) s) : wpAny (model X.prog X.w) A (getMethod (.ref a) m pl) Q E s := by
  obtain ⟨mA, O, r, _, _, _⟩ := ins_get I.hok e
  have hn : mA m = none := RelO.none_of (by rw [← l]; exact r m)
  exact get_meth I.kIn O (c.get m) k.at_ k.fn hn h

theorem setattr_ok {y : V} {u : Value} {Q : Unit → Shared → Prop} (I : Inv X pins σ H s) (e : H a = some (.ins C dx fs)) (c : Cls X.K C) (n : NoAttr X.K C f) (hl : fs.length < 1000) (ry : RelV y u)
    (h : ∀ s', Inv X pins σ (upd H a (.ins C dx (putF f y fs))) s' → Q () s') : wpAny (model X.prog X.w) A (setAttr (.ref a) f u) Q E s := by
  obtain ⟨mA, O, r, wi, _, ho⟩ := ins_get I.hok e
  have hz : (fs.map (·.1)).length ≤ sizeLine := by rw [List.length_map, sizeLine_eq]; omega
  refine set_map I.kIn O c.sa c.po n.taker c.hd wi hz fun h' O' sb => h _ ?_
  have hd : ∃ o, h'.get? dx = some o := let ⟨o, _, _, e', _⟩ := O'.ns; ⟨o, e'⟩
  refine I.write (x := a) (e := dx) (by rw [e]; exact True.intro) (.inr ho) (fun b q hb z => (sb.2 b hb).trans z) hd ?_
  refine ⟨by rw [upd_ne O.ne]; exact ho, ?_, O.ne, O'.obj, _, O'.ns, fun g => ?_, fun g hg => ?_⟩
  · have := length_putF f y fs; omega
  · show RelO ((putF f y fs).lookup g) (if g = f then some u else mA g)
    rw [lookup_putF]
    by_cases q : g = f
    · rw [if_pos q, if_pos q]; exact ry
    · rw [if_neg q, if_neg q]; exact r g
  · by_cases q : g = f
    · rw [q]; exact (keys_putF f y fs).1
    · refine (keys_putF f y fs).2 g (wi g fun z => hg ?_)
      show (if g = f then some u else mA g) = none
      rw [if_neg q]; exact z


theorem Inv.made (I : Inv X pins σ H s) : Inv X pins σ (upd (upd H s.heap.objs.size (.own (s.heap.objs.size + 1))) (s.heap.objs.size + 1) (.ins C s.heap.objs.size []))
    { s with heap := (s.heap.push PySem.W.emptyDict).push (PySem.W.instObj C s.heap.objs.size) } := by
  have e1 : (s.heap.push PySem.W.emptyDict).get? s.heap.objs.size = some PySem.W.emptyDict := Heap.get?_push_size s.heap rfl
  have e2 : ((s.heap.push PySem.W.emptyDict).push (PySem.W.instObj C s.heap.objs.size)).get? (s.heap.objs.size + 1) = some (PySem.W.instObj C s.heap.objs.size) := by
    have := Heap.get?_push_size (s.heap.push PySem.W.emptyDict) (o := PySem.W.instObj C s.heap.objs.size) rfl
    rwa [Heap.size_push] at this
  have e3 : (s.heap.push PySem.W.emptyDict).Ns s.heap.objs.size (fun _ => none) := ⟨PySem.W.emptyDict, #[], _, e1, rfl, (fun e he => absurd he (by simp)), fun _ => rfl⟩
  have I1 := I.laid (a := s.heap.objs.size) (o := .own (s.heap.objs.size + 1)) (h' := s.heap.push PySem.W.emptyDict) (t' := s.toks) (fun b u q => Heap.get?_push_of_some _ q) (Nat.le_refl _) ⟨_, e1⟩
  refine I1.laid (a := s.heap.objs.size + 1) (o := .ins C s.heap.objs.size []) (t' := s.toks) (fun b u q => Heap.get?_push_of_some _ q) (Nat.le_of_eq (Heap.size_push _ _)) ?_
  have ne : s.heap.objs.size ≠ s.heap.objs.size + 1 := Nat.ne_of_lt (Nat.lt_succ_self _)
  refine ⟨by rw [upd_ne ne, upd_same], Nat.zero_le _, ne, e2, fun _ => none, (Heap.Ns1.of_empty e3).at fun o q => Heap.get?_push_of_some _ q, fun _ => True.intro, fun y hy => absurd rfl hy⟩


theorem attr_of {prog : Program} {w : World} {env : Env} {e : Expr} {f : Str} {pos : Pos} {s : Shared} {Q : Value → Shared → Prop} (hb : attributeBase e f env (eval e env) = eval e env)
    (h : wpAny (model prog w) A (eval e env) (fun o s₁ => wpAny (model prog w) A (getAttr o f true) Q E s₁) E s) : wpAny (model prog w) A (eval (.Attribute e f pos) env) Q E s :=
  Attribute_any_ h (by rw [arm_eval_Attribute, hb])
end



def tFld (K : PySem.W.Frag) (ta : TE) (f : Str) : TE := fun σ H Q => ta σ H fun x H1 => ∃ a C dx fs v, x = .ref a ∧ H1 a = some (.ins C dx fs) ∧ Cls K C ∧ NoAttr K C f ∧ fs.lookup f = some v ∧ Q v H1

def sFld (K : PySem.W.Frag) (ta tv : TE) (f : Str) : TS := fun D σ H => tv σ H fun y H1 => ta σ H1 fun x H2 => ∃ a C dx fs, x = .ref a ∧ H2 a = some (.ins C dx fs) ∧ Cls K C ∧ NoAttr K C f ∧ fs.length < 1000 ∧
  D.nx σ (upd H2 a (.ins C dx (putF f y fs)))

section
variable {X : Cx} {o e value : Expr} {f : Str} {pos pos' tpos : Pos} {ta tv : TE}
theorem pe_fld (he : PE X e ta) (hb : attributeBase e f X.env (eval e X.env) = eval e X.env) : PE X (.Attribute e f pos) (tFld X.K ta f) := by
  intro pins s σ H Q I h
  refine attr_of hb (thn (he pins s σ H _ I h) fun u s1 ⟨x, H1, I1, rx, a, C, dx, fs, v, ex, ea, c, n, l, q⟩ => ?_)
  subst ex
  obtain rfl : u = Value.ref a := rx
  exact getattr_ok I1 ea c n l fun u' s2 I2 ru => ⟨v, H1, I2, ru, q⟩
theorem ps_fld (ha : PE X o ta) (hv : PE X value tv) (hs : swapsWith value (some (.Attribute o f pos')) pos.line X.env = pure false) : PS X (.Assign [.Attribute o f pos'] value pos) (sFld X.K ta tv f) := by
  intro pins s σ H D I h
  refine plainObj_wpAny_Assign_Attribute (thn (hv pins s σ H _ I h) fun u s1 ⟨y, H1, I1, ry, q⟩ => thn (ha pins s1 σ H1 _ I1 q) fun ov s2 ⟨x, H2, I2, rx, a, C, dx, fs, ex, ea, c, n, l, q2⟩ => ?_) hs
  subst ex
  obtain rfl : ov = Value.ref a := rx
  exact setattr_ok I2 ea c n l ry fun s3 I3 => ⟨σ, _, I3, q2⟩
end


section
variable {X : Cx} {pins : List (Addr × Obj)} {σ : St} {H : Hp} {s : Shared} {A : Around} {E : Value → Shared → Prop} {Q : Value → Shared → Prop} {c : Value} {b : Bool}

inductive TyOf (K : PySem.W.Frag) (H : Hp) : V → Value → Prop where
  | non : TyOf K H .non (.type "NoneType")
  | bl (x : Bool) : TyOf K H (.bl x) (.type "bool")
  | int (i : Int) : TyOf K H (.int i) (.type "int")
  | str (x : Str) : TyOf K H (.str x) (.type "str")
  | flt (x : UInt64) : TyOf K H (.flt x) (.type "float")
  | lst {a : Addr} {xs : List V} (e : H a = some (.lst xs)) : TyOf K H (.ref a) (.type "list")
  | frz {a : Addr} {o : Obj} {xs : List V} (e : H a = some (.frz o (.lst xs))) : TyOf K H (.ref a) (.type "list")
  | tup {a : Addr} {xs : List V} (e : H a = some (.tup xs)) : TyOf K H (.ref a) (.type "tuple")
  | dK {a : Addr} {kvs : List (Key × V)} (e : H a = some (.dK kvs)) : TyOf K H (.ref a) (.type "dict")
  | dT {a : Addr} {kvs : List (List Key × V)} (e : H a = some (.dT kvs)) : TyOf K H (.ref a) (.type "dict")
  | ins {a C dx : Addr} {fs : List (Str × V)} (e : H a = some (.ins C dx fs)) (cl : Cls K C) (ha : PySem.W.findIn K (.ref C) "__class__" = some (some (.builtin "object.__class__")))
      (hn : PySem.W.specialIn K (.builtin "object.__class__") "__get__" = some (some (.builtin "getset_descriptor.__get__"))) (htk : PySem.W.takesIn K (.builtin "object.__class__") = some true)
      (hm : PySem.W.mroIn K C (.type "object") = some true) : TyOf K H (.ref a) (.ref C)

theorem isinst_ok {x : V} {u t : Value} (I : Inv X pins σ H s) (rx : RelV x u) (ty : TyOf X.K H x t) (e : PySem.W.kitOne X.K t c = some b) (h : ∀ tk, Q (.bool b) { s with toks := tk }) :
    wpAny (model X.prog X.w) A (call (.builtin "isinstance") [u, c]) Q E s := by
  cases ty with
  | non => cases (show u = Value.none from rx); exact PySem.W.kia_one PySem.W.kitx_none I.kIn True.intro e (fun z => nomatch z) h
  | bl y => cases (show u = Value.bool y from rx); exact PySem.W.kia_one PySem.W.kitx_bool I.kIn True.intro e (fun z => nomatch z) h
  | int i => obtain ⟨t, q⟩ := (show ∃ t, u = Value.int i t from rx); cases q; exact PySem.W.kia_one PySem.W.kitx_int I.kIn True.intro e (fun z => nomatch z) h
  | str y => obtain ⟨t, q⟩ := (show ∃ t, u = Value.str y t from rx); cases q; exact PySem.W.kia_one PySem.W.kitx_str I.kIn True.intro e (fun z => nomatch z) h
  | flt y => obtain ⟨t, q⟩ := (show ∃ t, u = Value.float y t from rx); cases q; exact PySem.W.kia_one PySem.W.kitx_float I.kIn True.intro e (fun z => nomatch z) h
  | @lst a xs ea =>
    cases (show u = Value.ref a from rx)
    obtain ⟨_, _, n, _, h1⟩ := (show ObjOk X.prog X.w H s.heap a (.lst xs) from I.hok a _ ea)
    exact PySem.W.kia_one PySem.W.kitx_list I.kIn ⟨_, h1, rfl⟩ e (fun z => nomatch z) h
  | @frz a ob xs ea =>
    cases (show u = Value.ref a from rx)
    obtain ⟨_, _, _, n, _, h1⟩ := (show ObjOk X.prog X.w H s.heap a (.frz ob (.lst xs)) from I.hok a _ ea)
    exact PySem.W.kia_one PySem.W.kitx_list I.kIn ⟨_, h1, rfl⟩ e (fun z => nomatch z) h
  | @tup a xs ea =>
    cases (show u = Value.ref a from rx)
    obtain ⟨_, _, _, p⟩ := (show ObjOk X.prog X.w H s.heap a (.tup xs) from I.hok a _ ea)
    obtain ⟨o, h1, h2, _⟩ := p
    exact PySem.W.kia_one PySem.W.kitx_tuple I.kIn ⟨o, h1, h2⟩ e (fun z => nomatch z) h
  | @dK a kvs ea =>
    cases (show u = Value.ref a from rx)
    obtain ⟨_, _, vs, _, p⟩ := (show ObjOk X.prog X.w H s.heap a (.dK kvs) from I.hok a _ ea)
    obtain ⟨o, es, ep, h1, h2, _⟩ := p
    exact PySem.W.kia_one PySem.W.kitx_dict I.kIn ⟨o, h1, h2.1⟩ e (fun z => nomatch z) h
  | @dT a kvs ea =>
    cases (show u = Value.ref a from rx)
    obtain ⟨_, _, xs, _, o, es, ep, h1, h2, _⟩ := (show ObjOk X.prog X.w H s.heap a (.dT kvs) from I.hok a _ ea)
    exact PySem.W.kia_one PySem.W.kitx_dict I.kIn ⟨o, h1, h2.1⟩ e (fun z => nomatch z) h
  | @ins a C dx fs ea cl ha hn htk hm =>
    cases (show u = Value.ref a from rx)
    obtain ⟨mA, O, _⟩ := ins_get I.hok ea
    obtain ⟨od, J, _⟩ := O.look
    exact PySem.W.kia_one (PySem.W.kitx_own (cl.get _) cl.hd ha hn htk hm) I.kIn J e (fun z => nomatch z) h
end
end L2

namespace L2
open PySem PySem.Spec PyProof.Rows


structure Room (k : Nat) (A : Around) : Prop where
  hd : A.handled = none
  dp : A.depth + 3 * k + 5 < recursionLimit
  un : A.units + 16 * k + 200 < cLine
theorem Room.mono {j k : Nat} {A : Around} (r : Room k A) (h : j ≤ k) : Room j A := ⟨r.hd, by have := r.dp; omega, by have := r.un; omega⟩
theorem Room.deeper {k : Nat} {A : Around} (r : Room (k + 1) A) (env : Env) : Room k (A.deeper env) :=
  ⟨r.hd, by have := r.dp; show A.depth + 1 + 3 * k + 5 < _; omega, by have := r.un; show A.units + 3 + 16 * k + 200 < _; omega⟩
theorem make_depth {A : Around} {C : Addr} {us : List Value} {kw : List (Str × Value)} : (A.under (.builtin "type.__call__" ⟨.ref C :: us, kw⟩)).depth = A.depth + 1 := by
  first | rfl | simp [Around.under, Code.weight, Code.isCreation, Code.isGuard, Code.isCaller, Code.frames, Code.isFrame, guardIds]
theorem make_units {A : Around} {C : Addr} {us : List Value} {kw : List (Str × Value)} : (A.under (.builtin "type.__call__" ⟨.ref C :: us, kw⟩)).units = A.units + 1 := by
  first | rfl | simp [Around.under, Code.cUnits, Code.frames, Code.isFrame]
theorem Room.make {k : Nat} {A : Around} (r : Room (k + 1) A) (C : Addr) (us : List Value) (kw : List (Str × Value)) : Room k (A.under (.builtin "type.__call__" ⟨.ref C :: us, kw⟩)) :=
  ⟨r.hd, by have := r.dp; rw [make_depth]; omega, by have := r.un; rw [make_units]; omega⟩
theorem Room.depth {k : Nat} {A : Around} (r : Room k A) : A.depth < recursionLimit := by have := r.dp; omega
theorem Room.units {k : Nat} {A : Around} (r : Room k A) : A.units + 64 < cLine := by have := r.un; omega
theorem Room.units0 {k : Nat} {A : Around} (r : Room k A) : A.units < cLine := by have := r.un; omega


def tNil : TA := fun _ H Q => Q [] H
def tCons (ta : TE) (tr : TA) : TA := fun σ H Q => ta σ H fun x H1 => tr σ H1 fun xs H2 => Q (x :: xs) H2
section
variable {X : Cx} {e : Expr} {es : List Expr} {te : TE} {t : TA} {pos : Pos}
theorem pa_nil : PA X [] tNil := fun _ _ _ _ H Q I h => Calls.spliced_nil ⟨[], H, I, .nil, h⟩
theorem pa_cons (ha : PE X e te) (hr : PA X es t) (hs : starEach (e :: es) X.env = (false, eval e X.env) :: starEach es X.env := by rfl) : PA X (e :: es) (tCons te t) := by
  intro pos pins s σ H Q I h
  rw [hs]
  show wpAny _ _ (spliced ((false, eval e X.env) :: backTo pos (starEach es X.env))) _ _ s
  refine Calls.spliced_cons (thn (ha pins s σ H _ I h) fun u s1 ⟨x, H1, I1, r1, q1⟩ => ?_)
  exact thn (hr pos pins s1 σ H1 _ I1 q1) fun us s2 ⟨xs, H2, I2, r2, q2⟩ => ⟨x :: xs, H2, I2, .cons r1 r2, q2⟩


def tTup (t : TA) : TE := fun σ H Q => t σ H fun xs H1 => xs.length ≤ sizeLine ∧ ∀ p, H1 p = none → Q (.ref p) (upd H1 p (.tup xs))
def tLst (t : TA) : TE := fun σ H Q => t σ H fun xs H1 => xs.length ≤ sizeLine ∧ ∀ p, H1 p = none → Q (.ref p) (upd H1 p (.lst xs))
theorem pe_tup {x1} (h : PA X es t) : PE X (.Tuple es x1 pos) (tTup t) := by
  intro pins s σ H Q I hq
  refine wpAny_Tuple_spliced (thn (h pos pins s σ H _ I hq) fun us s1 ⟨xs, H1, I1, r, z, q⟩ => ⟨by rw [← r.length]; exact z, ?_⟩)
  have hf : H1 s1.heap.objs.size = none := I1.hok.fresh (Nat.le_refl _)
  refine ⟨.ref s1.heap.objs.size, upd H1 s1.heap.objs.size (.tup xs), I1.laid (t' := s1.toks) (fun b u e => Heap.get?_push_of_some _ e) (Nat.le_refl _) ?_, rfl, q _ hf⟩
  exact ⟨z, us, r, IsTpl.new _ _⟩
theorem pe_lst (h : PA X es t) : PE X (.List es pos) (tLst t) := by
  intro pins s σ H Q I hq
  refine wpAny_List_spliced (thn (h pos pins s σ H _ I hq) fun us s1 ⟨xs, H1, I1, r, z, q⟩ => ⟨by rw [← r.length]; exact z, ?_⟩)
  have hf : H1 s1.heap.objs.size = none := I1.hok.fresh (Nat.le_refl _)
  refine ⟨.ref s1.heap.objs.size, upd H1 s1.heap.objs.size (.lst xs), I1.laid (t' := s1.toks) (fun b u e => Heap.get?_push_of_some _ e) (Nat.le_refl _) ?_, rfl, q _ hf⟩
  exact ⟨z, us, 0, r, Heap.get?_push_size _ rfl⟩
end



abbrev Sp := List V → Hp → VK → XK → Prop

abbrev CXT := List Env → Hp → Shared → XK → Value → Shared → Prop


structure Env0 (P : Program) (w : World) (K : PySem.W.Frag) (mg : Str → Option Value) (base : Heap) (A : Around) (outer : List Env) (s : Shared) (H : Hp) : Prop where
  frames : A.frames = some outer
  mod : Mod K mg base
  bs : ∀ b o, base.get? b = some o → s.heap.get? b = some o ∧ H b = none
  bsz : base.objs.size ≤ s.heap.objs.size
  funs : s.heap.FunFrames base outer
  frf : ∀ b ∈ frs outer, H b = none
  hok : HOk P w H s.heap
  bare : AllBare s.gens

def CE (outer : List Env) (P : Program) (w : World) (H : Hp) (s : Shared) (Q : VK) (u : Value) (s' : Shared) : Prop :=
  ∃ v H', s'.os = s.os ∧ AllBare s'.gens ∧ Un (frs outer) [] H H' s.heap s'.heap ∧ HOk P w H' s'.heap ∧ RelV v u ∧ Q v H'
def CR (CX : CXT) (outer : List Env) (P : Program) (w : World) (H : Hp) (s : Shared) (Q : VK) (E : XK) (r : Result) (s' : Shared) : Prop :=
  match r with
  | .ok (.ret u) => CE outer P w H s Q u s'
  | .ok _ => False
  | .error e => CX outer H s E e s'
structure FnOk (P : Program) (w : World) (K : PySem.W.Frag) (mg : Str → Option Value) (base : Heap) (CX : CXT) (k : Nat) (f : Addr) (fd : FuncData) (ps : List Str) (sp : Sp) : Prop where
  len : ∀ vs H Q E, sp vs H Q E → vs.length = ps.length
  run : ∀ (A : Around) (outer : List Env) (s : Shared) (H : Hp) (args : Args) (us : List Value) (vs : List V) (Q : VK) (E : XK), Room k A → Env0 P w K mg base A outer s H → BindsTo s fd args (ps.zip us) → Vals vs us → sp vs H Q E →
    codeAny (model P w) A (.call (.ref f) args) (CR CX outer P w H s Q E) s
theorem FnOk.mono {P : Program} {w : World} {K : PySem.W.Frag} {mg : Str → Option Value} {base : Heap} {CX : CXT} {j k : Nat} {f : Addr} {fd : FuncData} {ps : List Str} {sp : Sp} (F : FnOk P w K mg base CX j f fd ps sp) (h : j ≤ k) :
    FnOk P w K mg base CX k f fd ps sp := ⟨F.len, fun A outer s H args us vs Q E hr => F.run A outer s H args us vs Q E (hr.mono h)⟩

theorem Env0.make {P : Program} {w : World} {K : PySem.W.Frag} {mg : Str → Option Value} {base : Heap} {A : Around} {outer : List Env} {s : Shared} {H : Hp} (e : Env0 P w K mg base A outer s H) (C : Addr) (us : List Value) (kw : List (Str × Value)) :
    Env0 P w K mg base (A.under (.builtin "type.__call__" ⟨.ref C :: us, kw⟩)) outer s H := ⟨by first | exact e.frames | (simpa [Around.under, Code.envs, Code.isFrame, pushEnvs] using e.frames), e.mod, e.bs, e.bsz, e.funs, e.frf, e.hok, e.bare⟩
section
variable {X : Cx} {pins : List (Addr × Obj)} {σ : St} {H : Hp} {s s' : Shared}

theorem Inv.env0 (I : Inv X pins σ H s) : Env0 X.prog X.w X.K X.mg X.base X.A X.stack s H :=
  ⟨I.ok.frames, I.ok.mod, I.bs, Nat.le_trans I.ok.bsz I.sz, I.stack, I.stkFree, I.hok, I.bare⟩

theorem Inv.after {Q : VK} {u : Value} (I : Inv X pins σ H s) (h : CE X.stack X.prog X.w H s Q u s') : EP X pins σ Q u s' := by
  obtain ⟨v, H', os, bare, un, hok, r, q⟩ := h
  obtain ⟨hh, g, d, t, os'⟩ := s'
  obtain rfl : os' = s.os := os
  exact ⟨v, H', I.call (h' := hh) (g' := g) (d' := d) (t' := t) (ch := []) un hok bare (fun b z => absurd z (by simp)), r, q⟩
end



def tCall (sp : Sp) (dvs : List V) (E : XK) (t : TA) : TE := fun σ H Q => t σ H fun vs H1 => sp (vs ++ dvs) H1 Q E

def tMake (C : Addr) (sp : Sp) (dvs : List V) (E : XK) (t : TA) : TE := fun σ H Q => t σ H fun vs H1 => ∀ x dx, H1 x = none → H1 dx = none → dx ≠ x →
  sp (.ref x :: (vs ++ dvs)) (upd (upd H1 dx (.own x)) x (.ins C dx [])) (fun v H2 => v = .non ∧ Q (.ref x) H2) E


def Binds (K : PySem.W.Frag) (fd : FuncData) (ps : List Str) (ds : List Value) : Prop :=
  ∀ (s : Shared) (us : List Value), K.In s.heap → (us ++ ds).length = ps.length → BindsTo s fd ⟨us, []⟩ (ps.zip (us ++ ds))

theorem Binds.all {K : PySem.W.Frag} {fd : FuncData} {ps : List Str} (h : ∀ us : List Value, us.length = ps.length → bindArgs fd ⟨us, []⟩ = pure (ps.zip us)) : Binds K fd ps [] := fun s us _ hl => by
  rw [List.append_nil] at hl ⊢
  exact .of_eq (h us hl)


def Passes (CX : CXT) (X : Cx) (E : XK) : Prop := ∀ (pins : List (Addr × Obj)) (σ : St) (H : Hp) (s : Shared) (e : Value) (s' : Shared), Inv X pins σ H s → CX X.stack H s E e s' → X.xe e s'

section
variable {X : Cx} {CX : CXT} {k : Nat} {f C : Addr} {fd : FuncData} {ps : List Str} {sp : Sp} {dvs : List V} {ds : List Value} {E : XK} {x m : Str} {p pos apos : Pos} {e o : Expr} {es : List Expr} {ta : TE} {t : TA}


theorem run_fn {pins : List (Addr × Obj)} {σ : St} {H : Hp} {s : Shared} {Q : VK} {us : List Value} {vs : List V} (F : FnOk X.prog X.w X.K X.mg X.base CX k f fd ps sp) (hr : Room k X.A) (hb : Binds X.K fd ps ds) (hd : Vals dvs ds) (hx : Passes CX X E)
    (I : Inv X pins σ H s) (r : Vals vs us) (h : sp (vs ++ dvs) H Q E) : wpAny (model X.prog X.w) X.A (call (.ref f) us) (EP X pins σ Q) X.xe s := by
  have r2 : Vals (vs ++ dvs) (us ++ ds) := r.append hd
  have hl : (us ++ ds).length = ps.length := by rw [← r2.length]; exact F.len _ _ _ _ h
  refine wpAny_call (codeAny_mono (F.run X.A X.stack s H ⟨us, []⟩ (us ++ ds) (vs ++ dvs) Q E hr I.env0 (hb s us I.kIn hl) r2 h) fun r s' hq => ?_)
  cases r with
  | error e => exact hx pins σ H s e s' I hq
  | ok fl =>
    cases fl with
    | ret u => exact I.after hq
    | next => exact False.elim hq
    | brk => exact False.elim hq
    | cont => exact False.elim hq

theorem pe_call (F : FnOk X.prog X.w X.K X.mg X.base CX k f fd ps sp) (hr : Room k X.A) (hg : Gl X x) (hm : X.mg x = some (.ref f)) (hk : PySem.W.keepIn X.K (.ref f) = true) (hb : Binds X.K fd ps ds) (hd : Vals dvs ds) (hx : Passes CX X E)
    (ha : PA X (e :: es) t) (hdb : (x == ("__debug__" : Str)) = false := by decide) (he : starEach (e :: es) X.env = (false, eval e X.env) :: starEach es X.env := by rfl) (hpl : (backTo pos (starEach es X.env)).any (·.1) = false := by rfl) :
    PE X (.Call (.Name x p) (e :: es) [] pos) (tCall sp dvs E t) := by
  intro pins s σ H Q I h
  refine wpAny_Call_Name_kw (ld_glob I hg hm ?_ hdb)
  refine PySem.W.callWith_K (h₀ := X.base) I.ok.mod.kin hk (thn (ha pos pins s σ H _ I h) fun us s1 ⟨vs, H1, I1, r, q⟩ => ⟨I1.kIn, ?_⟩) he hpl
  exact run_fn F hr hb hd hx I1 r q
structure Mk (K : PySem.W.Frag) (C f : Addr) : Prop where
  makes : PySem.W.makesIn K C = true
  init : PySem.W.findIn K (.ref C) "__init__" = some (some (.ref f))
  fn : PySem.W.isFn K (.ref f) = true
  kp : PySem.W.keepIn K (.ref C) = true

theorem run_make {pins : List (Addr × Obj)} {σ : St} {H : Hp} {s : Shared} {Q : VK} {us : List Value} {vs : List V} (M : Mk X.K C f) (F : FnOk X.prog X.w X.K X.mg X.base CX k f fd ps sp) (hr : Room (k + 1) X.A) (hb : Binds X.K fd ps ds) (hd : Vals dvs ds)
    (hx : Passes CX X E) (I : Inv X pins σ H s) (r : Vals vs us)
    (h : ∀ x dx, H x = none → H dx = none → dx ≠ x → sp (.ref x :: (vs ++ dvs)) (upd (upd H dx (.own x)) x (.ins C dx [])) (fun v H2 => v = .non ∧ Q (.ref x) H2) E) :
    wpAny (model X.prog X.w) X.A (call (.ref C) us) (EP X pins σ Q) X.xe s := by
  have hq := h (s.heap.objs.size + 1) s.heap.objs.size (I.hok.fresh (Nat.le_succ _)) (I.hok.fresh (Nat.le_refl _)) (Nat.ne_of_lt (Nat.lt_succ_self _))
  have I2 := Inv.made (C := C) I
  have r2 : Vals (V.ref (s.heap.objs.size + 1) :: (vs ++ dvs)) (Value.ref (s.heap.objs.size + 1) :: (us ++ ds)) := .cons rfl (r.append hd)
  have hl : (Value.ref (s.heap.objs.size + 1) :: us ++ ds).length = ps.length := by
    have e := r2.length
    rw [F.len _ _ _ _ hq] at e
    exact e.symm
  refine wpAny_call (make_map (f := f) I.kIn M.makes M.init (beq_iff_eq.mp M.fn) (codeAny_mono (F.run _ X.stack _ _ ⟨Value.ref (s.heap.objs.size + 1) :: us, []⟩ (Value.ref (s.heap.objs.size + 1) :: (us ++ ds)) _ _ E (hr.make C us [])
    (I2.env0.make C us []) (hb _ (Value.ref (s.heap.objs.size + 1) :: us) I2.kIn hl) r2 hq) fun r s' hq' => ?_))
  cases r with
  | error e => exact hx pins σ _ _ e s' I2 hq'
  | ok fl =>
    cases fl with
    | ret u =>
      obtain ⟨v, H', I3, rv, ev, q3⟩ := I2.after hq'
      subst ev
      exact ⟨rv, ⟨V.ref (s.heap.objs.size + 1), H', I3, rfl, q3⟩⟩
    | next => exact False.elim hq'
    | brk => exact False.elim hq'
    | cont => exact False.elim hq'
theorem pe_make (M : Mk X.K C f) (F : FnOk X.prog X.w X.K X.mg X.base CX k f fd ps sp) (hr : Room (k + 1) X.A) (hg : Gl X x) (hm : X.mg x = some (.ref C)) (hb : Binds X.K fd ps ds) (hd : Vals dvs ds) (hx : Passes CX X E)
    (ha : PA X (e :: es) t) (hdb : (x == ("__debug__" : Str)) = false := by decide) (he : starEach (e :: es) X.env = (false, eval e X.env) :: starEach es X.env := by rfl) (hpl : (backTo pos (starEach es X.env)).any (·.1) = false := by rfl) :
    PE X (.Call (.Name x p) (e :: es) [] pos) (tMake C sp dvs E t) := by
  intro pins s σ H Q I h
  refine wpAny_Call_Name_kw (ld_glob I hg hm ?_ hdb)
  refine PySem.W.callWith_K (h₀ := X.base) I.ok.mod.kin M.kp (thn (ha pos pins s σ H _ I h) fun us s1 ⟨vs, H1, I1, r, q⟩ => ⟨I1.kIn, ?_⟩) he hpl
  exact run_make M F hr hb hd hx I1 r q
end



section
variable {X : Cx} {CX : CXT} {k : Nat} {f C : Addr} {fd : FuncData} {ps ks : List Str} {sp : Sp} {E : XK} {x m : Str} {p pos apos kpos : Pos} {e o : Expr} {es : List Expr} {kws : List Keyword} {te ta : TE} {t tk : TA} {nm : Option Str}
variable {g : List Value → List Value → List Value} {gV : List V → List V → List V}
end



structure FnScope (N P : List Str) (sc : Scope) : Prop where
  kind : sc.kind = .function
  co : sc.isCoroutine = false
  gen : sc.isGenerator = false
  nd : N.Nodup
  pre : N.take P.length = P
  par : ∀ x ∈ P, sc.names.lookup x = some .local ∨ sc.names.lookup x = some .cell
  nofree : ∀ y ∈ sc.names, y.2 ≠ .free

theorem bindL_out {kindOf : Str → Option NameKind} {x : Str} : ∀ {binds : List (Str × Value)} {m : Str → Option Value}, (∀ v, (x, v) ∉ binds) → bindL kindOf binds m x = m x
  | [], _, _ => rfl
  | (n, v) :: r, m, h => by
    unfold bindL
    rw [bindL_out fun w hw => h w (List.mem_cons_of_mem _ hw)]
    split
    · have : x ≠ n := by rintro rfl; exact h v List.mem_cons_self
      simp [this]
    · rfl
theorem bindC_out {kindOf : Str → Option NameKind} {x : Str} : ∀ {binds : List (Str × Value)} {m : Str → Option Value}, (∀ v, (x, v) ∉ binds) → bindC kindOf binds m x = m x
  | [], _, _ => rfl
  | (n, v) :: r, m, h => by
    unfold bindC
    rw [bindC_out fun w hw => h w (List.mem_cons_of_mem _ hw)]
    split
    · rfl
    · have : x ≠ n := by rintro rfl; exact h v List.mem_cons_self
      simp [this]
theorem bindL_get {kindOf : Str → Option NameKind} {x : Str} {v : Value} : ∀ {P : List Str} {vs : List Value} {i : Nat} {m : Str → Option Value}, P.Nodup → P[i]? = some x → vs[i]? = some v → kindOf x = some .local →
    bindL kindOf (P.zip vs) m x = some v
  | [], _, _, _, _, h, _, _ => by simp at h
  | _ :: _, [], _, _, _, _, h, _ => by simp at h
  | p :: P, w :: vs, 0, m, nd, h1, h2, hk => by
    simp at h1 h2; subst h1; subst h2
    show bindL kindOf ((p, w) :: P.zip vs) m p = _
    unfold bindL
    rw [bindL_out fun v hv => (List.nodup_cons.mp nd).1 (List.of_mem_zip hv).1, if_pos hk]
    simp
  | p :: P, w :: vs, i + 1, m, nd, h1, h2, hk => by
    show bindL kindOf ((p, w) :: P.zip vs) m x = _
    unfold bindL
    exact bindL_get (i := i) (List.nodup_cons.mp nd).2 (by simpa using h1) (by simpa using h2) hk
theorem bindC_get {kindOf : Str → Option NameKind} {x : Str} {v : Value} : ∀ {P : List Str} {vs : List Value} {i : Nat} {m : Str → Option Value}, P.Nodup → P[i]? = some x → vs[i]? = some v → kindOf x ≠ some .local →
    bindC kindOf (P.zip vs) m x = some v
  | [], _, _, _, _, h, _, _ => by simp at h
  | _ :: _, [], _, _, _, _, h, _ => by simp at h
  | p :: P, w :: vs, 0, m, nd, h1, h2, hk => by
    simp at h1 h2; subst h1; subst h2
    show bindC kindOf ((p, w) :: P.zip vs) m p = _
    unfold bindC
    rw [bindC_out fun v hv => (List.nodup_cons.mp nd).1 (List.of_mem_zip hv).1, if_neg hk]
    simp
  | p :: P, w :: vs, i + 1, m, nd, h1, h2, hk => by
    show bindC kindOf ((p, w) :: P.zip vs) m x = _
    unfold bindC
    exact bindC_get (i := i) (List.nodup_cons.mp nd).2 (by simpa using h1) (by simpa using h2) hk


def start (N : List Str) (vs : List V) : St := vs.map some ++ List.replicate (N.length - vs.length) none


def cxOf (CX : CXT) (P : Program) (w : World) (K : PySem.W.Frag) (mg : Str → Option Value) (base : Heap) (N : List Str) (qual : Str) (scope : Scope) (f : Addr) (cd : Value) (A : Around) (outer : List Env) (s : Shared) (H : Hp) (E : XK) : Cx where
  prog := P
  w := w
  K := K
  mg := mg
  base := base
  A := A.deeper (envOfC qual scope s.heap.objs.size f cd)
  N := N
  s₀ := s
  H₀ := H
  env := envOfC qual scope s.heap.objs.size f cd
  outer := outer
  stack := envOfC qual scope s.heap.objs.size f cd :: outer
  ex := []
  calm := true
  fn := fun _ => true
  pn := []
  xe := fun e s' => wpAny (model P w) (A.deeper (envOfC qual scope s.heap.objs.size f cd)) (leaving (envOfC qual scope s.heap.objs.size f cd) e) (fun _ s'' => CX outer H s E e s'') (fun e' s'' => CX outer H s E e' s'') s'

theorem cell_has {sc : Scope} {n : Nat} {x : Str} (h : sc.names.lookup x = some .cell) : ∃ c, (cellsFrom n sc.names []).lookup x = some c := by
  have q := PySem.W.cellsFrom_some sc.names n [] (.inl h)
  exact Option.isSome_iff_exists.mp q

theorem inv_start {CX : CXT} {P : Program} {w : World} {K : PySem.W.Frag} {mg : Str → Option Value} {base : Heap} {N ps : List Str} {qual : Str} {scope : Scope} {f : Addr} {cd : Value} {A : Around} {outer : List Env} {s s1 : Shared} {H : Hp} {E : XK} {us : List Value} {vs : List V}
    (S : FnScope N ps scope) (hd : A.handled = none) (e0 : Env0 P w K mg base A outer s H) (hl : vs.length = ps.length) (r : Vals vs us)
    (x : InCallC s s.heap.objs.size (bindL (envOfC qual scope s.heap.objs.size f cd).kindOf (ps.zip us) fun _ => none) (cellsFrom (s.heap.objs.size + 1) scope.names []) (bindC (envOfC qual scope s.heap.objs.size f cd).kindOf (ps.zip us) fun _ => none) s1) :
    Inv (cxOf CX P w K mg base N qual scope f cd A outer s H E) [] (start N vs) H s1 := by
  have hpl : ps.length ≤ N.length := by have := congrArg List.length S.pre; rw [List.length_take] at this; omega
  obtain ⟨h1, tk, rfl, hk⟩ := x.done
  have noA : ∀ b : Addr, b ∉ (cxOf CX P w K mg base N qual scope f cd A outer s H E).ex := fun b z => absurd (show b ∈ ([] : List Addr) from z) (by simp)
  refine ⟨⟨e0.mod, S.kind, rfl, rfl, Nat.le_refl _, fun y z c h1 h2 => ?_, fun y hy => ?_, fun y c _ h => ?_, fun _ => hd, Around.frames_deeper e0.frames, .inr ⟨rfl, rfl⟩, fun b z => absurd z (noA b), e0.bs, e0.bsz, fun b _ _ => noA b, fun b z => absurd z (noA b), e0.funs, e0.frf⟩,
    rfl, e0.bare, Un.kept hk, ⟨_, x.toInCall.ns, fun i y v h1 h2 h3 => ?_⟩, fun y c h => ⟨_, x.cell y c h⟩, e0.hok.fresh (Nat.le_refl _), fun y c h => ?_, fun p hp => absurd (show p ∈ ([] : List (Addr × Obj)) from hp) (by simp), e0.hok.kept hk, ?_⟩
  · exact name_of_addr x.apart (PySem.mem_of_lookup h1) (PySem.mem_of_lookup h2)
  · have hy : scope.names.lookup y = some .cell ∨ scope.names.lookup y = some .free := hy
    rcases hy with hy | hy
    · exact cell_has hy
    · exact absurd rfl (S.nofree _ (PySem.mem_of_lookup hy))
  · exact Nat.le_of_lt (x.above y c (PySem.mem_of_lookup h))
  · have hi : i < vs.length := by
      unfold start at h2
      by_cases hi : i < vs.length
      · exact hi
      · rw [List.getElem?_append_right (by simpa using hi)] at h2
        rw [List.getElem?_replicate] at h2
        split at h2 <;> cases h2
    have ha : vs[i]? = some v := by
      unfold start at h2
      rw [List.getElem?_append_left (by simpa using hi), List.getElem?_map] at h2
      cases e : vs[i]? with
      | none => rw [e] at h2; cases h2
      | some a => rw [e] at h2; cases h2; rfl
    obtain ⟨u, hu, rv⟩ := r.get ha
    have hp : ps[i]? = some y := by
      rw [← S.pre, List.getElem?_take_of_lt (by omega)]; exact h1
    have ndP : ps.Nodup := by rw [← S.pre]; exact S.nd.sublist (List.take_sublist _ _)
    refine ⟨u, rv, ?_⟩
    rcases S.par y (List.mem_of_getElem? hp) with k | k
    · exact .inl ⟨k, bindL_get ndP hp hu k⟩
    · obtain ⟨c, e⟩ := cell_has (n := s.heap.objs.size + 1) k
      refine .inr ⟨.inl k, c, e, ?_⟩
      have q := x.cell y c e
      rw [bindC_get ndP hp hu (by show scope.names.lookup y ≠ _; rw [k]; decide)] at q
      exact q
  · exact e0.hok.fresh (Nat.le_of_lt (x.above y c (PySem.mem_of_lookup h)))
  · unfold start
    show _ = N.length
    rw [List.length_append, List.length_map, List.length_replicate]
    omega


theorem fn_of {CX : CXT} {P : Program} {w : World} {K : PySem.W.Frag} {mg : Str → Option Value} {base : Heap} {k : Nat} {f : Addr} {name qual : Str} {params : Arguments} {body : List Stmt} {scope : Scope} {dV kV doc pm cdv ct oc : Value} {an od : Option Addr}
    {osl : Array (Option Value)} {N ps : List Str} {sp : Sp} (lk : K.lookup f = some ⟨oc, od, .func (PySem.W.fnOf name qual params body scope dV kV doc pm an cdv ct), osl⟩) (hcd : PySem.W.codeIn K cdv qual = true) (S : FnScope N ps scope)
    (len : ∀ vs H Q E, sp vs H Q E → vs.length = ps.length)
    (hbody : ∀ (A : Around) (outer : List Env) (s : Shared) (H : Hp) (vs : List V) (Q : VK) (E : XK), Room k (A.deeper (envOfC qual scope s.heap.objs.size f cdv)) → sp vs H Q E →
      ∃ t, PSs (cxOf CX P w K mg base N qual scope f cdv A outer s H E) body t ∧ t { nx := fun _ H' => Q .non H', rt := Q } (start N vs) H) :
    FnOk P w K mg base CX (k + 1) f (PySem.W.fnOf name qual params body scope dV kV doc pm an cdv ct) ps sp := by
  refine ⟨len, fun A outer s H args us vs Q E hr e0 hb r hsp => ?_⟩
  have hl := len _ _ _ _ hsp
  have KX : K.In s.heap := e0.mod.kin.keeps fun b o e => (e0.bs b o e).1
  have lim : s.heap.NoLimit := e0.mod.nolimit.keeps fun b o e => (e0.bs b o e).1
  have hkind : ∀ y ∈ ps.zip us, scope.names.lookup y.1 = some .local ∨ (scope.names.lookup y.1 = some .cell ∧ ((cellsFrom (s.heap.objs.size + 1) scope.names []).lookup y.1).isSome = true) := fun ⟨n, v⟩ hy => by
    rcases S.par n (List.of_mem_zip hy).1 with q | q
    · exact .inl q
    · exact .inr ⟨q, PySem.W.cellsFrom_some _ _ _ (.inl q)⟩
  refine codeAny_call_function hr.depth (KX _ _ lk) rfl S.co S.gen rfl (PySem.W.codeRec_of KX hcd) (hb _ _ _ _ ?_)
  refine wpAny_newFunctionEnv_cells S.kind hkind fun env he s1 x => ?_
  subst he
  refine ⟨lim.keeps x.toInCall.keep, codeAny_func ?_⟩
  obtain ⟨t, ht, hq⟩ := hbody A outer s H vs Q E (hr.deeper _) hsp
  have I : Inv (cxOf CX P w K mg base N qual scope f cdv A outer s H E) [] (start N vs) H s1 := inv_start S hr.hd e0 hl r x
  refine wpAny_mono (ht [] s1 (start N vs) H _ I hq) (fun fl s' hs => ?_) fun e s' hs => hs
  have fin : ∀ {σ' : St} {H' : Hp} {v : V} {u : Value}, Inv (cxOf CX P w K mg base N qual scope f cdv A outer s H E) [] σ' H' s' → RelV v u → Q v H' → CE outer P w H s Q u s' :=
    fun {σ' H' v u} J rv q => ⟨v, H', J.os, J.bare, J.base, J.hok, rv, q⟩
  cases fl with
  | ret u =>
    obtain ⟨v, σ', H', J, rv, q⟩ := hs
    exact fin J rv q
  | next =>
    obtain ⟨σ', H', J, q⟩ := hs
    exact fin (v := V.non) (u := Value.none) J rfl q
  | brk =>
    obtain ⟨_, _, _, q⟩ := hs
    exact False.elim q
  | cont =>
    obtain ⟨_, _, _, q⟩ := hs
    exact False.elim q
end L2

namespace L2
open PySem PySem.Spec PyProof.Rows
section
variable {X : Cx} {x : Str} {p pos : Pos} {e : Expr} {es : List Expr} {t : TA} {id T : String} {r : List V → Hp → VK → Prop}

def tCB (r : List V → Hp → VK → Prop) (t : TA) : TE := fun σ H Q => t σ H fun vs H1 => r vs H1 Q

theorem pe_callB (hc : CallR X (.builtin id) r) (hg : Gl X x) (hm : X.mg x = none) (hv : bootBuiltins x = some (.builtin id)) (ha : PA X (e :: es) t) (hn : x ≠ "__name__" := by decide) (hdb : (x == ("__debug__" : Str)) = false := by decide)
    (he : starEach (e :: es) X.env = (false, eval e X.env) :: starEach es X.env := by rfl) (hpl : (backTo pos (starEach es X.env)).any (·.1) = false := by rfl) : PE X (.Call (.Name x p) (e :: es) [] pos) (tCB r t) := by
  intro pins s σ H Q I h
  refine wpAny_Call_Name_kw (ld_blt I hg hm hv ?_ hn hdb)
  exact PyProof.Rows.callWith_builtin1 (thn (ha pos pins s σ H _ I h) fun us s1 ⟨vs, H1, I1, r1, q1⟩ => hc pins s1 σ H1 vs us Q I1 r1 q1) he hpl

theorem pe_callTy (hc : CallR X (.type T) r) (hg : Gl X x) (hm : X.mg x = none) (hv : bootBuiltins x = some (.type T)) (ha : PA X (e :: es) t) (hn : x ≠ "__name__" := by decide) (hdb : (x == ("__debug__" : Str)) = false := by decide)
    (he : starEach (e :: es) X.env = (false, eval e X.env) :: starEach es X.env := by rfl) (hpl : (backTo pos (starEach es X.env)).any (·.1) = false := by rfl) : PE X (.Call (.Name x p) (e :: es) [] pos) (tCB r t) := by
  intro pins s σ H Q I h
  refine wpAny_Call_Name_kw (ld_blt I hg hm hv ?_ hn hdb)
  exact PyProof.Rows.callWith_type1 (thn (ha pos pins s σ H _ I h) fun us s1 ⟨vs, H1, I1, r1, q1⟩ => hc pins s1 σ H1 vs us Q I1 r1 q1) he hpl

end
end L2

namespace L2
open PySem PySem.Spec PyProof.Rows


section
variable {κ : Type} [DecidableEq κ]
def valV (kvs : List (κ × V)) (k : κ) : Option V := (kvs.find? fun kv => decide (kv.1 = k)).map (·.2)

def putK (kvs : List (κ × V)) (k : κ) (v : V) : List (κ × V) :=
  if (kvs.any fun kv => decide (kv.1 = k)) = true then kvs.map (fun kv => if kv.1 = k then (kv.1, v) else kv) else kvs ++ [(k, v)]
theorem valV_pos {p : κ × V} {r : List (κ × V)} {k : κ} (e : p.1 = k) : valV (p :: r) k = some p.2 := by simp [valV, List.find?_cons, e]
theorem valV_neg {p : κ × V} {r : List (κ × V)} {k : κ} (e : ¬ p.1 = k) : valV (p :: r) k = valV r k := by simp [valV, List.find?_cons, e]
theorem valV_any (k : κ) : ∀ kvs : List (κ × V), (kvs.any fun kv => decide (kv.1 = k)) = (valV kvs k).isSome
  | [] => rfl
  | p :: r => by
    rw [List.any_cons]
    by_cases e : p.1 = k
    · simp only [valV_pos e, decide_eq_true e, Bool.true_or, Option.isSome_some]
    · rw [valV_neg e, decide_eq_false e, Bool.false_or]; exact valV_any k r
theorem length_putK (kvs : List (κ × V)) (k : κ) (v : V) : (putK kvs k v).length ≤ kvs.length + 1 := by
  unfold putK
  split
  · rw [List.length_map]; omega
  · rw [List.length_append, List.length_cons, List.length_nil]; omega
theorem RelO.isSome_eq {o : Option V} {u : Option Value} (r : RelO o u) : o.isSome = u.isSome := by
  cases o with
  | none => cases u with
    | none => rfl
    | some _ => exact (show False from r).elim
  | some _ => cases u with
    | none => exact (show False from r).elim
    | some _ => rfl
theorem KV.val {kvs : List (κ × V)} {vs : List (κ × Value)} (r : KV kvs vs) (k : κ) : RelO (valV kvs k) (valueAt vs k) := by
  unfold KV at r
  induction r with
  | nil => exact True.intro
  | @cons p q ps qs h t ih =>
    obtain ⟨h1, h2⟩ := h
    by_cases e : p.1 = k
    · have e' : q.1 = k := h1.symm.trans e
      have b : valueAt (q :: qs) k = some q.2 := by simp [valueAt, List.find?_cons, e']
      rw [valV_pos e, b]; exact h2
    · have e' : ¬ q.1 = k := fun z => e (h1.trans z)
      have b : valueAt (q :: qs) k = valueAt qs k := by simp [valueAt, List.find?_cons, e']
      rw [valV_neg e, b]; exact ih
theorem KV.any {kvs : List (κ × V)} {vs : List (κ × Value)} (r : KV kvs vs) (k : κ) : (kvs.any fun kv => decide (kv.1 = k)) = vs.any fun kv => decide (kv.1 = k) := by
  unfold KV at r
  induction r with
  | nil => rfl
  | cons h t ih => rw [List.any_cons, List.any_cons, ih, h.1]
theorem KV.repl {kvs : List (κ × V)} {vs : List (κ × Value)} (r : KV kvs vs) (k : κ) {y : V} {u : Value} (ry : RelV y u) :
    KV (kvs.map fun kv => if kv.1 = k then (kv.1, y) else kv) (vs.map fun kv => if kv.1 = k then (kv.1, u) else kv) := by
  unfold KV at r ⊢
  induction r with
  | nil => exact .nil
  | @cons p q ps qs h t ih =>
    rw [List.map_cons, List.map_cons]
    refine .cons ?_ ih
    obtain ⟨h1, h2⟩ := h
    by_cases e : p.1 = k
    · rw [if_pos e, if_pos (h1.symm.trans e)]; exact ⟨h1, ry⟩
    · rw [if_neg e, if_neg (fun z => e (h1.trans z))]; exact ⟨h1, h2⟩
theorem KV.put {kvs : List (κ × V)} {vs : List (κ × Value)} (r : KV kvs vs) (k : κ) {y : V} {u : Value} (ry : RelV y u) : KV (putK kvs k y) (stored vs k u) := by
  unfold putK stored
  rw [r.any k]
  by_cases e : (vs.any fun kv => decide (kv.1 = k)) = true
  · rw [if_pos e, if_pos e]; exact r.repl k ry
  · rw [if_neg e, if_neg e]; exact Paired.snoc r ⟨rfl, ry⟩
theorem KV.length {kvs : List (κ × V)} {vs : List (κ × Value)} (r : KV kvs vs) : kvs.length = vs.length := Paired.length r
end



theorem kV_is {P : Program} {w : World} {k : Key} {u : Value} (r : RelV (kV k) u) : (mixKind P w).is k u = true := by
  cases k with
  | inl i => obtain ⟨t, e⟩ := (show ∃ t, u = Value.int i t from r); subst e; exact mixKind_int P w i t
  | inr x => obtain ⟨t, e⟩ := (show ∃ t, u = Value.str x t from r); subst e; exact mixKind_str P w x t
theorem items_are {P : Program} {w : World} : ∀ {ks : List Key} {us : List Value}, Vals (ks.map kV) us → ItemsAre (mixKind P w) ks us
  | [], _, r => by rw [List.map_nil] at r; cases r; exact .nil
  | k :: ks, _, r => by
    rw [List.map_cons] at r
    cases r with
    | cons h t => exact .cons (kV_is h) (items_are t)


abbrev KT (H : Hp) : List (List Key × V) → List (List Key × Addr × Value) → Prop := Paired fun p q => p.1 = q.1 ∧ H q.2.1 = some (.tup (p.1.map kV)) ∧ RelV p.2 q.2.2
theorem KT.val {H : Hp} {kvs : List (List Key × V)} {xs : List (List Key × Addr × Value)} (r : KT H kvs xs) (k : List Key) : RelO (valV kvs k) ((atKey xs k).map (·.2)) := by
  induction r with
  | nil => exact True.intro
  | @cons p q ps qs h t ih =>
    obtain ⟨h1, _, h2⟩ := h
    by_cases e : p.1 = k
    · have e' : q.1 = k := h1.symm.trans e
      have b : atKey (q :: qs) k = some q.2 := by simp [atKey, List.find?_cons, e']
      rw [valV_pos e, b]; exact h2
    · have e' : ¬ q.1 = k := fun z => e (h1.trans z)
      have b : atKey (q :: qs) k = atKey qs k := by simp [atKey, List.find?_cons, e']
      rw [valV_neg e, b]; exact ih
theorem KT.repl {H : Hp} {kvs : List (List Key × V)} {xs : List (List Key × Addr × Value)} (r : KT H kvs xs) (k : List Key) {y : V} {u : Value} (ry : RelV y u) :
    KT H (kvs.map fun kv => if kv.1 = k then (kv.1, y) else kv) (xs.map (putAt k u)) := by
  induction r with
  | nil => exact .nil
  | @cons p q ps qs h t ih =>
    rw [List.map_cons, List.map_cons]
    refine .cons ?_ ih
    obtain ⟨h1, h2, h3⟩ := h
    unfold putAt
    by_cases e : p.1 = k
    · rw [if_pos e, if_pos (h1.symm.trans e)]; exact ⟨h1, h2, ry⟩
    · rw [if_neg e, if_neg (fun z => e (h1.trans z))]; exact ⟨h1, h2, h3⟩
theorem KT.put {H : Hp} {kvs : List (List Key × V)} {xs : List (List Key × Addr × Value)} (r : KT H kvs xs) (k : List Key) {b : Addr} {y : V} {u : Value} (hb : H b = some (.tup (k.map kV))) (ry : RelV y u) :
    KT H (putK kvs k y) (storedH xs k b u) := by
  have e : (kvs.any fun kv => decide (kv.1 = k)) = (atKey xs k).isSome := by
    rw [valV_any, (r.val k).isSome_eq, Option.isSome_map]
  unfold putK storedH
  rw [e]
  by_cases q : (atKey xs k).isSome = true
  · rw [if_pos q, if_pos q]; exact r.repl k ry
  · rw [if_neg q, if_neg q]; exact Paired.snoc r ⟨rfl, hb, ry⟩
theorem KT.keeps {H H' : Hp} {kvs : List (List Key × V)} {xs : List (List Key × Addr × Value)} (r : KT H kvs xs) (ht : ∀ b ys, H b = some (.tup ys) → H' b = some (.tup ys)) : KT H' kvs xs :=
  Paired.mapP r fun _ _ z => ⟨z.1, ht _ _ z.2.1, z.2.2⟩

section
variable {P : Program} {w : World} {H : Hp} {h : Heap} {a : Addr}
theorem rd_of {u : HO} (ok : HOk P w H h) (e : Rd H a u) : ObjOk P w H h a u := e.ok ok
theorem dk_rd {kvs : List (Key × V)} (ok : HOk P w H h) (e : Rd H a (.dK kvs)) : kvs.length ≤ sizeLine ∧ (a == sysModules) = false ∧ ∃ vs, KV kvs vs ∧ h.DictOf (mixKind P w) a vs :=
  show ObjOk P w H h a (.dK kvs) from rd_of ok e
theorem dk_of {kvs : List (Key × V)} (ok : HOk P w H h) (e : H a = some (.dK kvs)) : kvs.length ≤ sizeLine ∧ (a == sysModules) = false ∧ ∃ vs, KV kvs vs ∧ h.DictOf (mixKind P w) a vs := dk_rd ok (.inl e)

theorem key_of {ks : List Key} (ok : HOk P w H h) (e : H a = some (.tup (ks.map kV))) : (tupleKind (mixKind P w)).is h ks a := by
  obtain ⟨_, its, r, o, h1, h2, n, h3⟩ := (show ObjOk P w H h a (.tup (ks.map kV)) from ok a _ e)
  exact ⟨o, its.toArray, n, h1, h2, h3.1, by simpa using items_are r⟩
theorem dt_rd {kvs : List (List Key × V)} (ok : HOk P w H h) (e : Rd H a (.dT kvs)) : kvs.length ≤ sizeLine ∧ (a == sysModules) = false ∧
    ∃ xs, KT H kvs xs ∧ h.DictOfH (tupleKind (mixKind P w)) a xs := by
  obtain ⟨z, y, xs, r, o, es, ep, h1, h2, h3, h4, h5⟩ := (show ObjOk P w H h a (.dT kvs) from rd_of ok e)
  refine ⟨z, y, xs, r, o, es, ep, h1, h2, h3, h4, fun x hx => ?_, h5⟩
  have all : ∀ {l : List (List Key × V)} {m : List (List Key × Addr × Value)}, KT H l m → ∀ x ∈ m, (tupleKind (mixKind P w)).is h x.1 x.2.1 := by
    intro l m q
    induction q with
    | nil => intro x hx; exact nomatch hx
    | @cons p q ps qs hq t ih =>
      intro x hx
      rcases List.mem_cons.mp hx with e | hx
      · subst e
        exact key_of ok (by rw [← hq.1]; exact hq.2.1)
      · exact ih x hx
  exact all r x hx
theorem dt_of {kvs : List (List Key × V)} (ok : HOk P w H h) (e : H a = some (.dT kvs)) : kvs.length ≤ sizeLine ∧ (a == sysModules) = false ∧
    ∃ xs, KT H kvs xs ∧ h.DictOfH (tupleKind (mixKind P w)) a xs := dt_rd ok (.inl e)
end


def DGet (H : Hp) (a : Addr) (y : V) (r : Option V) : Prop :=
  (∃ kvs k, Rd H a (.dK kvs) ∧ y = kV k ∧ r = valV kvs k) ∨ ∃ kvs k b, Rd H a (.dT kvs) ∧ y = .ref b ∧ H b = some (.tup (k.map kV)) ∧ r = valV kvs k

def DPut (H : Hp) (a : Addr) (y v : V) (H' : Hp) : Prop :=
  (∃ kvs k, H a = some (.dK kvs) ∧ y = kV k ∧ kvs.length < sizeLine ∧ H' = upd H a (.dK (putK kvs k v))) ∨
  ∃ kvs k b, H a = some (.dT kvs) ∧ y = .ref b ∧ H b = some (.tup (k.map kV)) ∧ kvs.length < sizeLine ∧ H' = upd H a (.dT (putK kvs k v))
section
variable {X : Cx} {pins : List (Addr × Obj)} {σ : St} {H : Hp} {s : Shared} {a : Addr} {y v : V} {u r : Value} {o : Option V} {A : Around} {E : Value → Shared → Prop}

theorem Inv.big (I : Inv X pins σ H s) : sysModules < s.heap.objs.size := by
  have h : mainGlobals < s.heap.objs.size := (I.mod.glob.keeps I.bk).lt
  exact Nat.lt_trans (by decide) h


theorem d_getItem {Q : Value → Shared → Prop} (hu : A.units + 1 < cLine) (I : Inv X pins σ H s) (g : DGet H a y (some v)) (ry : RelV y u) (h : ∀ w' s', Inv X pins σ H s' → RelV v w' → Q w' s') :
    wpAny (model X.prog X.w) A (getItem (.ref a) u) Q E s := by
  rcases g with ⟨kvs, k, e, ey, l⟩ | ⟨kvs, k, b, e, ey, eb, l⟩
  · subst ey
    obtain ⟨z, hd, vs, rel, dd⟩ := dk_rd I.hok e
    obtain ⟨w', hw, rw'⟩ := RelO.some_of (v := v) (o := valueAt vs k) (by rw [l]; exact rel.val k)
    exact wpAny_getItem_of (kV_is ry) dd.mapOf hw (h w' _ (I.tok _) rw')
  · subst ey
    cases (show u = Value.ref b from ry)
    obtain ⟨z, hd, xs, rel, dd⟩ := dt_rd I.hok e
    obtain ⟨w', hw, rw'⟩ := RelO.some_of (v := v) (o := (atKey xs k).map (·.2)) (by rw [l]; exact rel.val k)
    obtain ⟨p, hp, hp2⟩ := Option.map_eq_some_iff.mp hw
    refine wpAny_getItem_heap (tupleKind_room_in1 hu) (key_of I.hok eb) dd hp ?_
    rw [hp2]
    exact h w' _ (I.tok _) rw'

theorem d_notIn {Q : Value → Shared → Prop} (hu : A.units + 1 < cLine) (I : Inv X pins σ H s) (g : DGet H a y o) (ry : RelV y u) (h : ∀ s', Inv X pins σ H s' → Q (.bool (!o.isSome)) s') :
    wpAny (model X.prog X.w) A (compareOp .NotIn u (.ref a)) Q E s := by
  rcases g with ⟨kvs, k, e, ey, l⟩ | ⟨kvs, k, b, e, ey, eb, l⟩
  · subst ey
    obtain ⟨z, hd, vs, rel, dd⟩ := dk_rd I.hok e
    refine wpAny_notIn_of (kV_is ry) hd dd.mapOf ?_
    rw [← (rel.val k).isSome_eq, ← l]
    exact h _ (I.tok _)
  · subst ey
    cases (show u = Value.ref b from ry)
    obtain ⟨z, hd, xs, rel, dd⟩ := dt_rd I.hok e
    refine wpAny_notIn_heap (tupleKind_room_in1 hu) (key_of I.hok eb) hd dd ?_
    have q := (rel.val k).isSome_eq
    rw [Option.isSome_map] at q
    rw [← q, ← l]
    exact h _ (I.tok _)

theorem d_write {h' : Heap} {t' : Nat} {ob : HO} (I : Inv X pins σ H s) (mu : Mut (H a)) (hs : Heap.SameBut a s.heap h') (he : ∃ q, h'.get? a = some q) (new : ObjOk X.prog X.w (upd H a ob) h' a ob) :
    Inv X pins σ (upd H a ob) { s with heap := h', toks := t' } :=
  I.write (x := a) (e := a) mu (.inl rfl) (fun b q hb z => (hs.2 b hb).trans z) he new
theorem dk_new {P : Program} {w : World} {H' : Hp} {h' : Heap} {kvs : List (Key × V)} {vs : List (Key × Value)} (z : kvs.length ≤ sizeLine) (hd : (a == sysModules) = false) (rel : KV kvs vs) (dd : h'.DictOf (mixKind P w) a vs) :
    ObjOk P w H' h' a (.dK kvs) := ⟨z, hd, vs, rel, dd⟩

theorem d_setItem {H' : Hp} {Q : Unit → Shared → Prop} (hu : A.units + 1 < cLine) (I : Inv X pins σ H s) (g : DPut H a y v H') (ry : RelV y u) (rv : RelV v r) (h : ∀ s', Inv X pins σ H' s' → Q () s') :
    wpAny (model X.prog X.w) A (setItem (.ref a) u r) Q E s := by
  rcases g with ⟨kvs, k, e, ey, l, eH⟩ | ⟨kvs, k, b, e, ey, eb, l, eH⟩
  · subst ey eH
    obtain ⟨z, hd, vs, rel, dd⟩ := dk_of I.hok e
    have hz : vs.length ≤ sizeLine := by rw [← rel.length]; exact z
    have hl : (putK kvs k v).length ≤ sizeLine := by have := length_putK kvs k v; omega
    refine wpAny_setItem_pairs (hsz := hz) (kV_is ry) dd fun h' dd' hs => h _ ?_
    have he : ∃ q, h'.get? a = some q := let ⟨q, _, _, hq, _⟩ := dd'; ⟨q, hq⟩
    exact d_write I (by rw [e]; exact True.intro) hs he (dk_new hl hd (rel.put k rv) dd')
  · subst ey eH
    cases (show u = Value.ref b from ry)
    obtain ⟨z, hd, xs, rel, dd⟩ := dt_of I.hok e
    have hz : xs.length ≤ sizeLine := by rw [← Paired.length rel]; exact z
    have hl : (putK kvs k v).length ≤ sizeLine := by have := length_putK kvs k v; omega
    refine wpAny_setItem_heap (hsz := hz) (tupleKind_room_in1 hu) (key_of I.hok eb) dd fun h' dd' hs => h _ ?_
    obtain ⟨q, es, ep, hq, h2, h3, h4, _, h5⟩ := dd'
    refine d_write I (by rw [e]; exact True.intro) hs ⟨q, hq⟩ ⟨hl, hd, _, (rel.put k eb rv).keeps fun c ys ec => ?_, q, es, ep, hq, h2, h3, h4, h5⟩
    rw [upd_ne (ne_of ec e (fun z => nomatch z))]
    exact ec
end

section
variable {X : Cx} {pins : List (Addr × Obj)} {σ : St} {H : Hp} {s : Shared} {a : Addr} {kvs : List (Key × V)} {k : Key} {u : Value} {A : Around} {E : Value → Shared → Prop}

end




def NoSl (i : Expr) : Prop := ∀ ov iv, subscripted i false ov iv = operate [ov, iv] (getItem ov iv)
theorem subD_of {prog : Program} {w : World} {A : Around} {E : Value → Shared → Prop} {s : Shared} {env : Env} {value slice : Expr} {pos : Pos} {T id : String} {Q : Value → Shared → Prop}
    (hl : typeLookup (.type T) "__getitem__" = pure (some (.builtin id))) (hs : NoSl slice)
    (h : wpAny (model prog w) A (eval value env) (fun o s₁ => wpAny (model prog w) A (eval slice env) (fun i s₂ => s₂.TypeIs o T ∧ wpAny (model prog w) A (getItem o i) Q E s₂) E s₁) E s) :
    wpAny (model prog w) A (eval (.Subscript value slice pos) env) Q E s := by
  refine Subscript_ (wpAny_mono h (fun o s₁ h₁ => wpAny_mono h₁ (fun i s₂ h₂ => ?_) fun _ _ x => x) fun _ _ x => x)
  obtain ⟨hT, h₂⟩ := h₂
  unfold subscriptTail
  refine wpAny_bind ?_
  rw [getitemInPython_of_ne hT.not_modules]
  refine wpAny_bind (wpAny_specialOf hT hl ?_)
  have fin : wpAny (model prog w) A (subscripted slice false o i) (fun r s₃ => wpAny (model prog w) A (letTemporaryGo value o r >>= fun _ => pure r) Q E s₃) E s₂ := by
    rw [hs o i]
    exact wpAny_operating (wpAny_mono h₂ (fun r s₃ h₃ => wpAny_bind (wpAny_letTemporaryGo (wpAny_pure h₃))) fun _ _ x => x)
  first
    | exact wpAny_pure (wpAny_bind fin)
    | exact wpAny_bind (wpAny_pure (wpAny_bind fin))
    | exact wpAny_bind fin

theorem dict_typeIs {X : Cx} {pins : List (Addr × Obj)} {σ : St} {H : Hp} {s : Shared} {a : Addr} {y : V} {o : Option V} (I : Inv X pins σ H s) (g : DGet H a y o) : s.TypeIs (.ref a) "dict" := by
  rcases g with ⟨kvs, k, e, _, _⟩ | ⟨kvs, k, b, e, _, _, _⟩
  · obtain ⟨_, _, vs, _, dd⟩ := dk_rd I.hok e
    exact dd.typeIs
  · obtain ⟨_, _, xs, _, dd⟩ := dt_rd I.hok e
    exact dd.typeIs
def tDGet (td ty : TE) : TE := fun σ H Q => td σ H fun x H1 => ty σ H1 fun y H2 => ∃ a v, x = .ref a ∧ DGet H2 a y (some v) ∧ Q v H2

def tDNotIn (ty td : TE) : TE := fun σ H Q => ty σ H fun y H1 => td σ H1 fun x H2 => ∃ a o, x = .ref a ∧ DGet H2 a y o ∧ Q (.bl (!o.isSome)) H2

def sDPut (td ty tv : TE) : TS := fun D σ H => tv σ H fun v H1 => td σ H1 fun x H2 => ty σ H2 fun y H3 => ∃ a H4, x = .ref a ∧ DPut H3 a y v H4 ∧ D.nx σ H4

section
variable {X : Cx} {o i e value : Expr} {pos pos' tpos : Pos} {td ty tv : TE}
theorem pe_dget (hu : X.A.units + 1 < cLine) (ho : PE X o td) (hi : PE X i ty) (hs : NoSl i) : PE X (.Subscript o i pos) (tDGet td ty) := by
  intro pins s σ H Q I h
  refine subD_of PySem.F.slot_dict_getitem.lookup hs (thn (ho pins s σ H _ I h) fun u s1 ⟨x, H1, I1, rx, q1⟩ => thn (hi pins s1 σ H1 _ I1 q1) fun iv s2 ⟨y, H2, I2, ry, a, v, ex, g, q2⟩ => ?_)
  subst ex
  obtain rfl : u = Value.ref a := rx
  exact ⟨dict_typeIs I2 g, d_getItem hu I2 g ry fun w' s3 I3 rw' => ⟨v, H2, I3, rw', q2⟩⟩
theorem pc_dnotin (hu : X.A.units + 1 < cLine) (hi : PE X i ty) (ho : PE X o td) : PC X .NotIn i o (tDNotIn ty td) := by
  intro pins s σ H Q I h
  refine thn (hi pins s σ H _ I h) fun iv s1 ⟨y, H1, I1, ry, q1⟩ => thn (ho pins s1 σ H1 _ I1 q1) fun u s2 ⟨x, H2, I2, rx, a, ov, ex, g, q2⟩ => ?_
  subst ex
  obtain rfl : u = Value.ref a := rx
  exact d_notIn hu I2 g ry fun s3 I3 => ⟨.bl (!ov.isSome), H2, I3, rfl, q2⟩
theorem ps_dput (hu : X.A.units + 1 < cLine) (ho : PE X o td) (hi : PE X i ty) (hv : PE X value tv) (hs : swapsWith value (some (.Subscript o i pos')) pos.line X.env = pure false) :
    PS X (.Assign [.Subscript o i pos'] value pos) (sDPut td ty tv) := by
  intro pins s σ H D I h
  refine wpAny_Assign_Subscript (thn (hv pins s σ H _ I h) fun r s1 ⟨v, H1, I1, rv, q1⟩ => thn (ho pins s1 σ H1 _ I1 q1) fun u s2 ⟨x, H2, I2, rx, q2⟩ => thn (hi pins s2 σ H2 _ I2 q2) fun iv s3 ⟨y, H3, I3, ry, a, H4, ex, g, q3⟩ => ?_) hs
  subst ex
  obtain rfl : u = Value.ref a := rx
  exact d_setItem hu I3 g ry rv fun s4 I4 => ⟨σ, H4, I4, q3⟩
end



theorem dk_empty {P : Program} {w : World} {H : Hp} (h : Heap) (hb : sysModules < h.objs.size) : ObjOk P w H (h.push { cls := .type "dict", data := .dict #[] }) h.objs.size (.dK []) :=
  ⟨Nat.zero_le _, beq_eq_false_iff_ne.mpr (Ne.symm (Nat.ne_of_lt hb)), [], .nil, Heap.DictOf.new h⟩
theorem dt_empty {P : Program} {w : World} {H : Hp} (h : Heap) (hb : sysModules < h.objs.size) : ObjOk P w H (h.push { cls := .type "dict", data := .dict #[] }) h.objs.size (.dT []) :=
  ⟨Nat.zero_le _, beq_eq_false_iff_ne.mpr (Ne.symm (Nat.ne_of_lt hb)), [], .nil, _, #[], 0, Heap.get?_push_size _ rfl, ⟨rfl, rfl, rfl⟩, rfl, rfl, List.nodup_nil⟩

def tDNewK : TE := fun _ H Q => ∀ p, H p = none → Q (.ref p) (upd H p (.dK []))
def tDNewT : TE := fun _ H Q => ∀ p, H p = none → Q (.ref p) (upd H p (.dT []))
section
variable {X : Cx} {pos : Pos}
theorem pe_dnewK : PE X (.Dict [] [] pos) tDNewK := fun pins s σ H Q I h =>
  wpAny_Dict_empty ⟨.ref s.heap.objs.size, _, I.laid (a := s.heap.objs.size) (o := .dK []) (t' := s.toks) (fun _ _ q => Heap.get?_push_of_some _ q) (Nat.le_refl _) (dk_empty s.heap I.big), rfl, h _ (I.hok.fresh (Nat.le_refl _))⟩
theorem pe_dnewT : PE X (.Dict [] [] pos) tDNewT := fun pins s σ H Q I h =>
  wpAny_Dict_empty ⟨.ref s.heap.objs.size, _, I.laid (a := s.heap.objs.size) (o := .dT []) (t' := s.toks) (fun _ _ q => Heap.get?_push_of_some _ q) (Nat.le_refl _) (dt_empty s.heap I.big), rfl, h _ (I.hok.fresh (Nat.le_refl _))⟩
end


def tPairs : List (TE × TE) → St → Hp → (List (V × V) → Hp → Prop) → Prop
  | [], _, H, Q => Q [] H
  | (tk, tv) :: r, σ, H, Q => tk σ H fun x H1 => tv σ H1 fun y H2 => tPairs r σ H2 fun ps H3 => Q ((x, y) :: ps) H3
abbrev VV : List (V × V) → List (Value × Value) → Prop := Paired fun p q => RelV p.1 q.1 ∧ RelV p.2 q.2
def PPs (X : Cx) (pos : Pos) (keys : List (Option Expr)) (values : List Expr) (trs : List (TE × TE)) : Prop :=
  ∀ (pins : List (Addr × Obj)) (s : Shared) (σ : St) (H : Hp) (Q : List (V × V) → Hp → Prop), Inv X pins σ H s → tPairs trs σ H Q →
    wpAny (model X.prog X.w) X.A (evalPairs (pairTrees keys values X.env pos)) (fun vs s' => ∃ ps H', Inv X pins σ H' s' ∧ VV ps vs ∧ Q ps H') X.xe s
theorem pps_nil {X : Cx} {pos : Pos} : PPs X pos [] [] [] := fun pins s σ H Q I h => pairTrees_nil_walk ⟨[], H, I, .nil, h⟩
theorem pps_cons {X : Cx} {pos : Pos} {k v : Expr} {ks : List (Option Expr)} {vs : List Expr} {tk tv : TE} {trs : List (TE × TE)} (hk : PE X k tk) (hv : PE X v tv) (hr : PPs X pos ks vs trs) :
    PPs X pos (some k :: ks) (v :: vs) ((tk, tv) :: trs) := fun pins s σ H Q I h =>
  pairTrees_cons_walk (thn (hk pins s σ H _ I h) fun u s1 ⟨x, H1, I1, rx, q1⟩ => thn (hv pins s1 σ H1 _ I1 q1) fun w2 s2 ⟨y, H2, I2, ry, q2⟩ =>
    thn (hr pins s2 σ H2 _ I2 q2) fun ws s3 ⟨ps, H3, I3, rel, q3⟩ => ⟨(x, y) :: ps, H3, I3, .cons ⟨rx, ry⟩ rel, q3⟩)

def mergeK (kvs more : List (Key × V)) : List (Key × V) := more.foldl (fun acc kv => putK acc kv.1 kv.2) kvs
theorem KV.merge : ∀ {more : List (Key × V)} {rs : List (Key × Value)} {kvs : List (Key × V)} {vs : List (Key × Value)}, KV more rs → KV kvs vs → KV (mergeK kvs more) (merged vs rs) := by
  intro more rs kvs vs r
  unfold KV at r
  induction r generalizing kvs vs with
  | nil => intro q; exact q
  | @cons p q ps qs h t ih =>
    intro r0
    have e : KV (putK kvs p.1 p.2) (stored vs q.1 q.2) := by
      have := r0.put p.1 h.2
      rw [← h.1]; exact this
    exact ih e
theorem length_mergeK : ∀ (more kvs : List (Key × V)), (mergeK kvs more).length ≤ kvs.length + more.length
  | [], kvs => by show kvs.length ≤ kvs.length + 0; omega
  | p :: r, kvs => by
    have h1 := length_mergeK r (putK kvs p.1 p.2)
    have h2 := length_putK kvs p.1 p.2
    show (mergeK (putK kvs p.1 p.2) r).length ≤ _
    rw [List.length_cons]; omega
theorem carries_of {P : Program} {w : World} : ∀ {kvs : List (Key × V)} {ws : List (Value × Value)}, VV (kvs.map fun kv => (kV kv.1, kv.2)) ws → ∃ rs, Carries (mixKind P w) ws rs ∧ KV kvs rs
  | [], _, r => by rw [List.map_nil] at r; cases r; exact ⟨[], True.intro, .nil⟩
  | p :: kvs, _, r => by
    rw [List.map_cons] at r
    cases r with
    | @cons a b as bs h t =>
      obtain ⟨rs, c, q⟩ := carries_of (P := P) (w := w) t
      obtain ⟨b1, b2⟩ := b
      exact ⟨(p.1, b2) :: rs, ⟨kV_is h.1, rfl, c⟩, .cons ⟨rfl, h.2⟩ q⟩

def tDisp (trs : List (TE × TE)) : TE := fun σ H Q => ∀ p, H p = none → tPairs trs σ (upd H p (.dK [])) fun ps H2 => H2 p = some (.dK []) ∧ ∃ kvs : List (Key × V), ps = kvs.map (fun kv => (kV kv.1, kv.2)) ∧ kvs.length ≤ 15 ∧ Q (.ref p) (upd H2 p (.dK (mergeK [] kvs)))
theorem pe_disp {X : Cx} {pos : Pos} {keys : List (Option Expr)} {values : List Expr} {trs : List (TE × TE)} (h : PPs X pos keys values trs) (hall : keys.all (·.isSome) = true) (hl : keys.length = values.length) (h0 : keys ≠ [])
    (h15 : keys.length ≤ 15) : PE X (.Dict keys values pos) (tDisp trs) := by
  intro pins s σ H Q I q
  have hn := I.hok.fresh (Nat.le_refl s.heap.objs.size)
  have I1 := I.laid (a := s.heap.objs.size) (o := .dK []) (h' := s.heap.push { cls := .type "dict", data := .dict #[] }) (t' := s.toks) (fun _ _ q => Heap.get?_push_of_some _ q) (Nat.le_refl _) (dk_empty s.heap I.big)
  refine wpAny_Dict_walk (knd := mixKind X.prog X.w) hall hl h0 h15 (thn (h pins _ σ _ _ I1 (q _ hn)) fun ws s2 ⟨ps, H2, I2, rel, e, kvs, ep, lk, q2⟩ => ?_)
  subst ep
  obtain ⟨rs, c, rk⟩ := carries_of (P := X.prog) (w := X.w) rel
  obtain ⟨z, hd, vs0, r0, dd⟩ := dk_of I2.hok e
  cases r0
  refine ⟨rs, c, dd, fun h' dd' hs => ⟨.ref s.heap.objs.size, _, ?_, rfl, q2⟩⟩
  have hz : (mergeK [] kvs).length ≤ sizeLine := by
    have h1 := length_mergeK kvs []
    rw [List.length_nil] at h1
    rw [sizeLine_eq]; omega
  have he : ∃ q, h'.get? s.heap.objs.size = some q := let ⟨q, _, _, hq, _⟩ := dd'; ⟨q, hq⟩
  exact d_write I2 (by rw [e]; exact True.intro) hs he (dk_new hz hd (rk.merge .nil) dd')




section
variable {X : Cx} {pins : List (Addr × Obj)} {σ : St} {H : Hp} {s : Shared} {a : Addr} {y d : V} {u r : Value} {o : Option V} {A : Around} {E : Value → Shared → Prop}

end

section
variable {X : Cx} {o e f : Expr} {apos cpos : Pos} {td ty tx : TE}
end


section
variable {X : Cx} {pins : List (Addr × Obj)} {σ : St} {H : Hp} {s : Shared} {a : Addr} {kvs : List (Key × V)} {A : Around} {E : Value → Shared → Prop}
end


section
variable {X : Cx} {pins : List (Addr × Obj)} {σ : St} {H : Hp} {s : Shared} {a : Addr} {y : V} {u : Value} {A : Around} {E : Value → Shared → Prop}

end
end L2

namespace HT
open PySem PyProof.Rows


def lexLt : List Int → List Int → Bool
  | [], [] => false
  | [], _ :: _ => true
  | _ :: _, [] => false
  | x :: xs, y :: ys => if x = y then lexLt xs ys else decide (x < y)
theorem lexLt_cons (x y : Int) (xs ys : List Int) : lexLt (x :: xs) (y :: ys) = if x = y then lexLt xs ys else decide (x < y) := rfl
theorem lexLt_nil_nil : lexLt [] [] = false := rfl
theorem lexLt_nil_cons (y : Int) (ys : List Int) : lexLt [] (y :: ys) = true := rfl
theorem lexLt_cons_nil (x : Int) (xs : List Int) : lexLt (x :: xs) [] = false := rfl

theorem eqAt_int (A : Around) (s : Shared) (a : Int) (t : Tok) (c : Int) (u : Tok) : ∃ e, SeqAt.EqAt A s (.int a t) (.int c u) e ∧ (e = true ↔ a = c) :=
  ⟨(a == c), SeqAt.EqAt.int_int a t c u, by simp⟩
theorem rcLt_int (A : Around) (s : Shared) (a : Int) (t : Tok) (c : Int) (u : Tok) (prog : Program) (w : World) (E : Value → Shared → Prop) (Q : Value → Shared → Prop) (h : Q (.bool (decide (a < c))) s) :
    wpAny (model prog w) A (richCompare .Lt (.int a t) (.int c u)) Q E s :=
  (PyProof.Rows.lt_int h : wpAny (model prog w) A (compareOp .Lt (.int a t) (.int c u)) Q E s)

section
open PySem.SeqAt
open PySem.AutoSeq1 (wpAny_loadPart')
open PySem.MeetsSeq PySem.MeetsSeq2 PySem.MeetsSeq3

theorem tuple_lt_ints (l b : Addr) (items items2 : Array Value) (n n2 : Nat) (dd dd2 : Option Addr) (sl sl2 : Array (Option Value)) (ns ms : List Int) (hi : IntsAre items.toList ns) (hj : IntsAre items2.toList ms) :
    Meets (Builtin.«tuple.__lt__» ⟨[.ref l, .ref b], []⟩)
      (fun _ R s => s.heap.get? l = some { cls := .type "tuple", dict := dd, data := .seq items n, slots := sl } ∧ s.heap.get? b = some { cls := .type "tuple", dict := dd2, data := .seq items2 n2, slots := sl2 } ∧
        R (.ok (.ret (.bool (lexLt ns ms)))) s) :=
  .of_wp fun prog w A R s h => by
    obtain ⟨hp, g, d, tk, os⟩ := s; obtain ⟨hl, hb, h⟩ := h
    have f2 := AutoSeq1.sub_tuple_tuple
    have z1 : items.size = ns.length := by rw [← hi.length]; simp
    have z2 : items2.size = ms.length := by rw [← hj.length]; simp
    wp_walk using wpAny_loadPart' hl, wpAny_loadPart' hb, wpAny_forIn_list _ (fun rest b s' => b.1 = none ∧ s' = ⟨hp, g, d, tk, os⟩ ∧ ∃ (vs ws : List Value) (ns' ms' : List Int), rest = vs.zip ws ∧
      IntsAre vs ns' ∧ IntsAre ws ms' ∧ ns'.length + items2.size = ms'.length + items.size ∧ R (.ok (.ret (.bool (lexLt ns' ms')))) ⟨hp, g, d, tk, os⟩) _
    case turn =>
      rintro ⟨y, x⟩ rest b s' ⟨hb', rfl, vs, ws, ns', ms', hz, hvi, hwi, hlen, hR⟩
      cases hvi with
      | nil => rw [List.zip_nil_left] at hz; cases hz
      | cons a t hvi' =>
        cases hwi with
        | nil => rw [List.zip_nil_right] at hz; cases hz
        | cons c u hwi' =>
          rw [List.zip_cons_cons] at hz
          injection hz with hyx hrest
          injection hyx with hy hx
          subst hy hx
          rw [lexLt_cons] at hR
          simp only [List.length_cons] at hlen
          obtain ⟨e, he, hiff⟩ := eqAt_int A.in1 ⟨hp, g, d, tk, os⟩ a t c u
          refine wpAny_bind (he prog w _ _ ?_)
          cases e with
          | true =>
            rw [if_pos (hiff.mp rfl)] at hR
            wp_walk
            exact ⟨rfl, rfl, _, _, _, _, hrest, hvi', hwi', by omega, hR⟩
          | false =>
            rw [if_neg (fun q => absurd (hiff.mpr q) Bool.false_ne_true)] at hR
            have hri := rcLt_int A.in1 ⟨hp, g, d, tk, os⟩ a t c u prog w
            wp_walk using hri
            exact ⟨_, rfl, by simpa using hR⟩
    case fin =>
      rintro ⟨b1, b2⟩ s' ⟨hb', rfl, vs, ws, ns', ms', hz, hvi, hwi, hlen, hR⟩
      simp only at hb'
      subst hb'
      have hv : lexLt ns' ms' = decide (items.size < items2.size) := by
        cases hvi with
        | nil =>
          cases hwi with
          | nil =>
            simp only [List.length_nil] at hlen
            rw [lexLt_nil_nil]
            exact (decide_eq_false (by omega)).symm
          | cons c u hw =>
            simp only [List.length_nil, List.length_cons] at hlen
            rw [lexLt_nil_cons]
            exact (decide_eq_true (by omega)).symm
        | cons a t hv =>
          cases hwi with
          | nil =>
            simp only [List.length_nil, List.length_cons] at hlen
            rw [lexLt_cons_nil]
            exact (decide_eq_false (by omega)).symm
          | cons c u hw =>
            rw [List.zip_cons_cons] at hz
            cases hz
      rw [hv] at hR
      wp_walk
      exact ⟨_, rfl, by simpa [Builtin.Tuple.tupleCompareSizes] using hR⟩
    case h =>
      exact ⟨rfl, rfl, items.toList, items2.toList, ns, ms, rfl, hi, hj, by omega, h⟩
end

section
variable {prog : Program} {w : World} {A : Around} {E : Value → Shared → Prop} {s : Shared}

theorem lt_tupInts {l b : Addr} {items items2 : Array Value} {ns ms : List Int} {Q : Value → Shared → Prop} (hl : IsTup s.heap l items) (hb : IsTup s.heap b items2) (hi : IntsAre items.toList ns) (hj : IntsAre items2.toList ms)
    (hu : A.units < cLine) (h : Q (.bool (lexLt ns ms)) s) : wpAny (model prog w) A (compareOp .Lt (.ref l) (.ref b)) Q E s := by
  obtain ⟨⟨cls, dd, data, sl⟩, ho, hc, n, hd⟩ := id hl
  obtain ⟨⟨cls2, dd2, data2, sl2⟩, ho2, hc2, n2, hd2⟩ := id hb
  simp only at hc hd hc2 hd2
  subst hc hd hc2 hd2
  exact richCompare_meets_room (op := .Lt) ⟨_, ho, rfl⟩ ⟨_, ho2, rfl⟩ PySem.F.slot_tuple_lt PySem.F.entry_tuple_lt (PySem.F.args_tuple_lt_2 _ _) (tuple_lt_ints l b items items2 n n2 dd dd2 sl sl2 ns ms hi hj)
    ⟨ho, ho2, show Value.bool (lexLt ns ms) ≠ Value.notImplemented ∧ Q (.bool (lexLt ns ms)) s from ⟨(fun x => nomatch x), h⟩⟩ hu


def sIx (n d : Nat) : Option Int → Nat
  | none => d
  | some v => if v < 0 then (v + (n : Int)).toNat else min v.toNat n
end
end HT

namespace L2
open PySem PySem.Spec PyProof.Rows


abbrev TO := St → Hp → (Option Int → Hp → Prop) → Prop

def PO (X : Cx) (e : Option Expr) (t : TO) : Prop :=
  ∀ (pins : List (Addr × Obj)) (s : Shared) (σ : St) (H : Hp) (Q : Option Int → Hp → Prop), Inv X pins σ H s → t σ H Q →
    wpAny (model X.prog X.w) X.A (evalPart e X.env) (fun u s' => ∃ o H', Inv X pins σ H' s' ∧ IsPart u o ∧ Q o H') X.xe s
def tNoPart : TO := fun _ H Q => Q none H
def tPart (t : TE) : TO := fun σ H Q => t σ H fun x H1 => ∃ i, x = .int i ∧ Q (some i) H1

theorem intsAre_of {ns : List Int} : ∀ {us : List Value}, Vals (ns.map V.int) us → IntsAre us ns := by
  induction ns with
  | nil => intro us r; rw [List.map_nil] at r; cases r; exact .nil
  | cons n ns ih =>
    intro us r
    rw [List.map_cons] at r
    cases r with
    | cons r1 r2 =>
      obtain ⟨t, e⟩ := r1
      subst e
      exact .cons n t (ih r2)

section
variable {X : Cx} {e : Expr} {te : TE} {lo hi : Option Expr} {tl th : TO} {pos p2 : Pos}

theorem po_none : PO X none tNoPart := by
  intro pins s σ H Q I h
  rw [evalPart_none]
  exact wpAny_pure ⟨none, H, I, .none, h⟩
theorem po_some (h : PE X e te) : PO X (some e) (tPart te) := by
  intro pins s σ H Q I hw
  rw [evalPart_some]
  refine thn (h pins s σ H _ I hw) fun u s1 ⟨x, H1, I1, r1, q1⟩ => ?_
  obtain ⟨i, rfl, q⟩ := q1
  obtain ⟨t, rfl⟩ := r1
  exact ⟨some i, H1, I1, .int i t, q⟩


def SlR (X : Cx) (r : V → Option Int → Option Int → Hp → VK → Prop) : Prop :=
  ∀ (pins : List (Addr × Obj)) (s : Shared) (σ : St) (H : Hp) (x : V) (v vl vu : Value) (lo hi : Option Int) (sl : Addr) (Q : VK), Inv X pins σ H s → RelV x v → s.heap.IsSliceOf sl vl vu .none → IsPart vl lo → IsPart vu hi → r x lo hi H Q →
    ∃ T id, typeLookup (.type T) "__getitem__" = pure (some (.builtin id)) ∧ s.TypeIs v T ∧ wpAny (model X.prog X.w) X.A (getItem v (.ref sl)) (EP X pins σ Q) X.xe s
def tSl (r : V → Option Int → Option Int → Hp → VK → Prop) (te : TE) (tl th : TO) : TE := fun σ H Q => te σ H fun x H1 => tl σ H1 fun l H2 => th σ H2 fun u H3 => r x l u H3 Q

theorem pe_slice {r : V → Option Int → Option Int → Hp → VK → Prop} (hr : SlR X r) (he : PE X e te) (hl : PO X lo tl) (hu : PO X hi th) : PE X (.Subscript e (.Slice lo hi none p2) pos) (tSl r te tl th) := by
  intro pins s σ H Q I h
  refine Subscript_ (thn (he pins s σ H _ I h) fun v s1 ⟨x, H1, I1, r1, q1⟩ => ?_)
  refine wpAny_Slice (thn (hl pins s1 σ H1 _ I1 q1) fun vl s2 ⟨l, H2, I2, pl, q2⟩ => thn (hu pins s2 σ H2 _ I2 q2) fun vu s3 ⟨u, H3, I3, pu, q3⟩ => ?_)
  rw [evalPart_none]
  refine wpAny_pure ?_
  have I4 : Inv X pins σ H3 { s3 with heap := s3.heap.push { cls := .type "slice", data := .fields #[vl, vu, .none] } } := I3.kept (t' := s3.toks) fun b ob q => Heap.get?_push_of_some _ q
  obtain ⟨T, id, hT, ht, hg⟩ := hr pins { s3 with heap := s3.heap.push { cls := .type "slice", data := .fields #[vl, vu, .none] } } σ H3 x v vl vu l u s3.heap.objs.size Q I4 r1 (Heap.IsSliceOf.new ..) pl pu q3
  show wpAny (model X.prog X.w) X.A (subscriptTail e (.Slice lo hi none p2) v (.ref s3.heap.objs.size)) (EP X pins σ Q) X.xe { s3 with heap := s3.heap.push { cls := .type "slice", data := .fields #[vl, vu, .none] } }
  exact tail_any (ops := [.ref s3.heap.objs.size, v]) ht hT hg (by with_unfolding_all rfl)


def cutV (xs : List V) (lo hi : Option Int) : List V := (xs.drop (HT.sIx xs.length 0 lo)).take (HT.sIx xs.length xs.length hi - HT.sIx xs.length 0 lo)
theorem cutV_length (xs : List V) (lo hi : Option Int) : (cutV xs lo hi).length ≤ xs.length := by
  unfold cutV
  rw [List.length_take, List.length_drop]
  omega

def rLtT (K : PySem.W.Frag) : R2 := fun x y H Q => ∃ a b ns ms, x = .ref a ∧ y = .ref b ∧ SqT K H a (ns.map V.int) ∧ SqT K H b (ms.map V.int) ∧ Q (.bl (HT.lexLt ns ms)) H
theorem op_ltT (hu : X.A.units < cLine) : OpR X (compareOp .Lt) (rLtT X.K) := by
  intro pins s σ H x y v u Q I rx ry h
  obtain ⟨a, b, ns, ms, rfl, rfl, ha, hb, q⟩ := h
  cases rx
  cases ry
  obtain ⟨its, r1, p1, _⟩ := I.tuple ha
  obtain ⟨its2, r2, p2, _⟩ := I.tuple hb
  have i1 : IntsAre its.toArray.toList ns := intsAre_of r1
  have i2 : IntsAre its2.toArray.toList ms := intsAre_of r2
  exact HT.lt_tupInts p1 p2 i1 i2 hu ⟨.bl (HT.lexLt ns ms), H, I, rfl, q⟩

end
end L2

namespace L2
open PySem PySem.Spec PyProof.Rows



def ixN (n : Nat) (i : Int) : Option Nat := if 0 ≤ i then (if i < n then some i.toNat else none) else if -(n : Int) ≤ i then some (i + n).toNat else none
def atI {α : Type} (xs : List α) (i : Int) : Option α := (ixN xs.length i).bind fun j => xs[j]?
theorem ixN_seq {n : Nat} {i : Int} {j : Nat} (h : ixN n i = some j) : seqIndex? i n = some j ∧ j < n ∧ -(n : Int) ≤ i ∧ i < n := by
  unfold ixN at h
  by_cases h0 : 0 ≤ i
  · rw [if_pos h0] at h
    by_cases h1 : i < n
    · rw [if_pos h1] at h
      have e : i.toNat = j := Option.some.inj h
      exact ⟨by rw [seqIndex_of h0 h1, e], by omega, by omega, h1⟩
    · rw [if_neg h1] at h; cases h
  · rw [if_neg h0] at h
    by_cases h1 : -(n : Int) ≤ i
    · rw [if_pos h1] at h
      have e : (i + n).toNat = j := Option.some.inj h
      exact ⟨by rw [seqIndex_neg (by omega) h1, e], by omega, h1, by omega⟩
    · rw [if_neg h1] at h; cases h
theorem atI_get {α : Type} {xs : List α} {i : Int} {v : α} (h : atI xs i = some v) : ∃ j, seqIndex? i xs.length = some j ∧ xs[j]? = some v ∧ j < xs.length ∧ -(xs.length : Int) ≤ i ∧ i < xs.length := by
  unfold atI at h
  cases e : ixN xs.length i with
  | none => rw [e] at h; cases h
  | some j =>
    rw [e] at h
    obtain ⟨h1, h2, h3, h4⟩ := ixN_seq e
    exact ⟨j, h1, h, h2, h3, h4⟩
theorem atI_nat {α : Type} {xs : List α} {j : Nat} {v : α} (h : xs[j]? = some v) : atI xs (j : Int) = some v := by
  have hj : j < xs.length := (List.getElem?_eq_some_iff.mp h).1
  have e : ixN xs.length (j : Int) = some j := by
    unfold ixN
    rw [if_pos (by omega), if_pos (by omega)]; simp
  unfold atI; rw [e]; exact h
def PlainIx (b : Expr) : Prop := ∀ o i, subscripted b false o i = operate [o, i] (getItem o i)

def IxR (X : Cx) (r : R2) : Prop :=
  ∀ (value slice : Expr) (pins : List (Addr × Obj)) (s : Shared) (σ : St) (H : Hp) (x y : V) (v u : Value) (Q : VK), Inv X pins σ H s → RelV x v → RelV y u → r x y H Q →
    subscripted slice false v u = operate [v, u] (getItem v u) → wpAny (model X.prog X.w) X.A (subscriptTail value slice v u) (EP X pins σ Q) X.xe s

def MtR (X : Cx) (id : String) (r : V → List V → Hp → VK → Prop) : Prop :=
  ∀ (pins : List (Addr × Obj)) (s : Shared) (σ : St) (H : Hp) (x : V) (xs : List V) (v : Value) (us : List Value) (Q : VK), Inv X pins σ H s → RelV x v → Vals xs us → r x xs H Q →
    wpAny (model X.prog X.w) X.A (call (.builtin id) (v :: us)) (EP X pins σ Q) X.xe s
section
variable {X : Cx} {a b : Expr} {ta tb : TE} {pos : Pos}
theorem pe_ix {r : R2} (hr : IxR X r) (ha : PE X a ta) (hb : PE X b tb) (hs : PlainIx b) : PE X (.Subscript a b pos) (tOp r ta tb) := by
  intro pins s σ H Q I h
  exact Subscript_ (binT ha hb I h fun v u s2 x y H2 I2 rx ry q => hr a b pins s2 σ H2 x y v u Q I2 rx ry q (hs _ _))

def rIxL (K : PySem.W.Frag) : R2 := fun x y H Q => ∃ p xs i v, x = .ref p ∧ y = .int i ∧ SqL K H p xs ∧ atI xs i = some v ∧ Q v H
def rIxT (K : PySem.W.Frag) : R2 := fun x y H Q => ∃ p xs i v, x = .ref p ∧ y = .int i ∧ SqT K H p xs ∧ atI xs i = some v ∧ Q v H
theorem ix_list : IxR X (rIxL X.K) := by
  intro value slice pins s σ H x y v u Q I rx ry h hs
  obtain ⟨p, xs, i, z, rfl, rfl, hq, he, q⟩ := h
  cases rx
  obtain ⟨t, rfl⟩ := ry
  obtain ⟨its, r, pl, hz⟩ := I.list hq
  obtain ⟨j, h1, h2, h3, h4, h5⟩ := atI_get he
  obtain ⟨w, ew, rw'⟩ := r.get h2
  have hl := r.length
  have hn := line63
  have fin : EP X pins σ Q w s := ⟨z, H, I, rw', q⟩
  by_cases h0 : 0 ≤ i
  · have hj : i.toNat = j := by
      rw [seqIndex_of h0 h5] at h1
      exact Option.some.inj h1
    exact item_listR pl.isList h0 (by omega) (by rw [hj]; simpa using ew) fin hs
  · have hj : (i + (its.toArray.size : Int)).toNat = j := by
      rw [seqIndex_neg (by omega) h4] at h1
      rw [List.size_toArray, ← hl]
      exact Option.some.inj h1
    exact subscriptTail_builtinR (x := w) pl.isList.typeIs slot_list_getitem.lookup
      (wpAny_getItem_list_neg (Q := fun r s' => r = w ∧ EP X pins σ Q r s') pl.isList (by omega) (by rw [List.size_toArray] <;> omega) (by omega) (by rw [hj]; simpa using ew) ⟨rfl, fin⟩) hs
theorem ix_tup : IxR X (rIxT X.K) := by
  intro value slice pins s σ H x y v u Q I rx ry h hs
  obtain ⟨p, xs, i, z, rfl, rfl, hq, he, q⟩ := h
  cases rx
  obtain ⟨t, rfl⟩ := ry
  obtain ⟨its, r, pl, hz⟩ := I.tuple hq
  obtain ⟨j, h1, h2, h3, h4, h5⟩ := atI_get he
  obtain ⟨w, ew, rw'⟩ := r.get h2
  have hl := r.length
  have hn := line63
  have fin : EP X pins σ Q w s := ⟨z, H, I, rw', q⟩
  exact subscriptTail_builtinR (x := w) pl.typeIs slot_tuple_getitem.lookup
    (getItem_tuple (j := j) (Q := fun r s' => r = w ∧ EP X pins σ Q r s') pl (by omega) (by omega) (by rw [List.size_toArray, ← hl]; exact h1) (by simpa using ew) ⟨rfl, fin⟩) hs
theorem mapSeq_set (its : List Value) (n j : Nat) (u : Value) : Obj.mapSeq (·.setIfInBounds j u) { cls := .type "list", data := .seq its.toArray n } = { cls := .type "list", data := .seq (its.set j u).toArray n } := by
  simp [Obj.mapSeq]
theorem Inv.lst {pins : List (Addr × Obj)} {σ : St} {H : Hp} {s : Shared} {p : Addr} {xs : List V} (I : Inv X pins σ H s) (h : H p = some (.lst xs)) :
    ∃ (its : List Value) (n : Nat), Vals xs its ∧ s.heap.get? p = some { cls := .type "list", data := .seq its.toArray n } ∧ xs.length ≤ sizeLine := by
  obtain ⟨z, its, n, r, e⟩ := I.hok p _ h
  exact ⟨its, n, r, e, z⟩

theorem Inv.lstUpd {pins : List (Addr × Obj)} {σ : St} {H : Hp} {s : Shared} {p : Addr} {xs ys : List V} {its its' : List Value} {n n' : Nat} {f : Obj → Obj} (I : Inv X pins σ H s) (h : H p = some (.lst xs))
    (ho : s.heap.get? p = some { cls := .type "list", data := .seq its.toArray n }) (hf : f { cls := .type "list", data := .seq its.toArray n } = { cls := .type "list", data := .seq its'.toArray n' }) (r : Vals ys its') (hz : ys.length ≤ sizeLine) (t : Nat) :
    Inv X pins σ (upd H p (.lst ys)) { s with heap := s.heap.update p f, toks := t } := by
  have e : (s.heap.update p f).get? p = some { cls := .type "list", data := .seq its'.toArray n' } := by
    rw [Heap.get?_update_self f ho (by rw [hf] <;> rfl), hf]
  refine I.write (x := p) (e := p) (by rw [h]; trivial) (.inl rfl) (fun b u hb q => (Heap.get?_update_other _ _ (Ne.symm hb)).trans q) ⟨_, e⟩ ?_
  exact ⟨hz, its', n', r, e⟩
def rSetL : V → V → V → Hp → (Hp → Prop) → Prop := fun o i v H Q => ∃ p xs k j, o = .ref p ∧ i = .int k ∧ H p = some (.lst xs) ∧ ixN xs.length k = some j ∧ Q (upd H p (.lst (xs.set j v)))
theorem set_list : PSet X rSetL := by
  intro pins s σ H o i v ov iv u Q I ro ri rv h
  obtain ⟨p, xs, k, j, rfl, rfl, hp, hj, q⟩ := h
  cases ro
  obtain ⟨t, rfl⟩ := ri
  obtain ⟨its, n, r, ho, hz⟩ := I.lst hp
  obtain ⟨h1, h2, h3, h4⟩ := ixN_seq hj
  have hl := r.length
  have hn := line63
  have I' : Inv X pins σ (upd H p (.lst (xs.set j v))) { s with heap := s.heap.update p (Obj.mapSeq (·.setIfInBounds j u)) } :=
    I.lstUpd hp ho (mapSeq_set its n j u) (r.set rv j) (by rw [List.length_set]; exact hz) s.toks
  by_cases h0 : 0 ≤ k
  · have hk : k.toNat = j := by
      rw [seqIndex_of h0 h4] at h1
      exact Option.some.inj h1
    exact PySem.W.ki_setAt ho h0 (by omega) (by rw [List.size_toArray, ← hl]; exact h4) (by rw [hk]; exact ⟨_, I', q⟩)
  · have hk : (k + (its.toArray.size : Int)).toNat = j := by
      rw [seqIndex_neg (by omega) h3] at h1
      rw [List.size_toArray, ← hl]
      exact Option.some.inj h1
    exact PySem.W.ki_setBack ho (by omega) (by rw [List.size_toArray, ← hl]; exact h3) (by omega) (by rw [hk]; exact ⟨_, I', q⟩)


theorem slice_bounds (lo hi : Option Int) (n : Nat) : (sliceBounds lo hi none n).1 = ((HT.sIx n 0 lo : Nat) : Int) ∧ (sliceBounds lo hi none n).2.1 = ((HT.sIx n n hi : Nat) : Int) ∧ (sliceBounds lo hi none n).2.2 = 1 := by
  refine ⟨?_, ?_, rfl⟩
  · cases lo with
    | none => simp [sliceBounds, HT.sIx]
    | some i =>
      simp only [sliceBounds, HT.sIx, Option.getD_none, show (1 : Int) > 0 by decide, if_true]
      by_cases h : i < 0
      · simp only [h, if_true] <;> omega
      · simp only [h, if_false] <;> omega
  · cases hi with
    | none => simp [sliceBounds, HT.sIx]
    | some i =>
      simp only [sliceBounds, HT.sIx, Option.getD_none, show (1 : Int) > 0 by decide, if_true]
      by_cases h : i < 0
      · simp only [h, if_true] <;> omega
      · simp only [h, if_false] <;> omega
theorem slicePick_cut (its : List Value) (lo hi : Option Int) : slicePick its.toArray lo hi none = ((its.drop (HT.sIx its.length 0 lo)).take (HT.sIx its.length its.length hi - HT.sIx its.length 0 lo)).toArray := by
  obtain ⟨h1, h2, h3⟩ := slice_bounds lo hi its.toArray.size
  unfold slicePick
  rw [h1, h2, h3]
  simp only [sliceRange_one, pick_run, List.size_toArray] <;> rfl

def rSlL (K : PySem.W.Frag) : V → Option Int → Option Int → Hp → VK → Prop := fun x lo hi H Q => ∃ a xs, x = .ref a ∧ SqL K H a xs ∧ ∀ p, H p = none → Q (.ref p) (upd H p (.lst (cutV xs lo hi)))
theorem sl_list : SlR X (rSlL X.K) := by
  intro pins s σ H x v vl vu lo hi sl Q I rx hs pl pu h
  obtain ⟨a, xs, rfl, hx, q⟩ := h
  cases rx
  obtain ⟨its, r, ht, hz⟩ := I.list hx
  have hlen := r.length
  refine ⟨"list", _, slot_list_getitem.lookup, ht.isList.typeIs, ?_⟩
  refine wpAny_getItem_list_slice ht.isList hs pl pu .none (by simp) ?_ (by rw [List.size_toArray] <;> omega)
  rw [slicePick_cut, ← hlen]
  refine ⟨.ref s.heap.objs.size, _, I.laid (t' := s.toks) (o := .lst (cutV xs lo hi)) (fun b ob q => Heap.get?_push_of_some _ q) (Nat.le_refl _) ?_, rfl, q _ (I.hok.fresh (Nat.le_refl _))⟩
  exact ⟨Nat.le_trans (cutV_length xs lo hi) hz, _, 0, (r.drop (HT.sIx xs.length 0 lo)).take (HT.sIx xs.length xs.length hi - HT.sIx xs.length 0 lo), Heap.get?_push_size _ rfl⟩


theorem call_len_seq : CallR X (.builtin "len") (fun xs H Q => ∃ p ys, xs = [.ref p] ∧ (SqL X.K H p ys ∨ SqT X.K H p ys) ∧ Q (.int ys.length) H) := by
  intro pins s σ H xs us Q I r h
  obtain ⟨p, ys, rfl, hq, q⟩ := h
  obtain ⟨u, rfl, rx⟩ := vals1 r
  cases rx
  have hn := line63
  rcases hq with hq | hq
  · obtain ⟨its, r', pl, hz⟩ := I.list hq
    have hlen := r'.length
    exact Calls.call_len_list pl.isList (by simp only [List.size_toArray] <;> omega) ⟨.int ys.length, H, I.tok _, ⟨s.toks + 1, by rw [List.size_toArray, hlen]⟩, q⟩
  · obtain ⟨its, r', pl, hz⟩ := I.tuple hq
    have hlen := r'.length
    exact len_tuple pl (by simp only [List.size_toArray] <;> omega) ⟨.int ys.length, H, I.tok _, ⟨s.toks + 1, by rw [List.size_toArray, hlen]⟩, q⟩
theorem call_tuple_of : CallR X (.type "tuple") (fun xs H Q => ∃ p ys, xs = [.ref p] ∧ ((SqL X.K H p ys ∧ ∀ l, H l = none → Q (.ref l) (upd H l (.tup ys))) ∨ (SqT X.K H p ys ∧ Q (.ref p) H))) := by
  intro pins s σ H xs us Q I r h
  obtain ⟨p, ys, rfl, h⟩ := h
  obtain ⟨u, rfl, rx⟩ := vals1 r
  cases rx
  rcases h with ⟨hq, q⟩ | ⟨hq, q⟩
  · obtain ⟨its, r', pl, hz⟩ := I.list hq
    have hlen := r'.length
    refine call_tuple_list pl.isList (fun h' kp => ?_) (by simp only [List.size_toArray] <;> omega)
    have I1 : Inv X pins σ H { s with heap := h' } := I.kept (t' := s.toks) kp
    have I2 : Inv X pins σ (upd H h'.objs.size (.tup ys)) { s with heap := h'.push { cls := .type "tuple", data := .seq its.toArray } } :=
      I1.laid (t' := s.toks) (fun b o e => Heap.get?_push_of_some _ e) (Nat.le_refl _) (show ObjOk X.prog X.w _ _ _ (.tup ys) from ⟨hz, its, r', IsTpl.new _ _⟩)
    exact ⟨.ref h'.objs.size, _, I2, rfl, q _ (I1.hok.fresh (Nat.le_refl _))⟩
  · obtain ⟨its, r', pl, hz⟩ := I.tuple hq
    exact call_tuple_same pl ⟨.ref p, H, I, rfl, q⟩



def tyV (K : PySem.W.Frag) (T : String) (x : V) (H : Hp) : Prop := match x with
  | .str _ => T = "str"
  | .int _ => T = "int"
  | .ref p => (T = "list" ∧ ∃ xs, SqL K H p xs) ∨ (T = "tuple" ∧ ∃ o, K.lookup p = some o ∧ o.cls = .type "tuple" ∧ o.dict = none) ∨
      (T = "dict" ∧ ((∃ kvs, H p = some (.dK kvs)) ∨ ∃ kvs, H p = some (.dT kvs))) ∨ (T = "set" ∧ ∃ S n, H p = some (.set S n))
  | _ => False
theorem tyV_is {pins : List (Addr × Obj)} {σ : St} {H : Hp} {s : Shared} {T : String} {x : V} {v : Value} (I : Inv X pins σ H s) (r : RelV x v) (ty : tyV X.K T x H) :
    s.TypeIs v T ∧ ∀ a, v = .ref a → ∃ ob, s.heap.get? a = some ob ∧ ob.dict = none := by
  cases x with
  | str z =>
    obtain ⟨t, rfl⟩ := r
    cases (show T = "str" from ty)
    exact ⟨typeIs_str s z t, fun _ e => nomatch e⟩
  | int i =>
    obtain ⟨t, rfl⟩ := r
    cases (show T = "int" from ty)
    exact ⟨typeIs_int s i t, fun _ e => nomatch e⟩
  | ref p =>
    cases r
    rcases ty with ⟨rfl, xs, hq⟩ | ⟨rfl, o, hk, hc, hd⟩ | ⟨rfl, hk⟩ | ⟨rfl, S, n, hk⟩
    · obtain ⟨its, _, pl, _⟩ := I.list hq
      refine ⟨pl.isList.typeIs, fun a e => ?_⟩
      cases e
      obtain ⟨o, n, e, c, hd, _⟩ := pl
      exact ⟨o, e, hd⟩
    · refine ⟨⟨o, I.kIn p o hk, hc⟩, fun a e => ?_⟩
      cases e
      exact ⟨o, I.kIn _ o hk, hd⟩
    · have z : ∃ o, s.heap.get? p = some o ∧ o.ExactDict := by
        rcases hk with ⟨kvs, hk⟩ | ⟨kvs, hk⟩
        · obtain ⟨_, _, _, _, o, _, _, e, ex, _⟩ := I.hok p _ hk
          exact ⟨o, e, ex⟩
        · obtain ⟨_, _, _, _, o, _, _, e, ex, _⟩ := I.hok p _ hk
          exact ⟨o, e, ex⟩
      obtain ⟨o, e, ex⟩ := z
      refine ⟨⟨o, e, ex.1⟩, fun a e2 => ?_⟩
      cases e2
      exact ⟨o, e, ex.2.1⟩
    · obtain ⟨o, _, _, _, e, ex, _⟩ := I.hok p _ hk
      refine ⟨⟨o, e, ex.1⟩, fun a e2 => ?_⟩
      cases e2
      exact ⟨o, e, ex.2.1⟩
  | _ => exact False.elim ty
def tBM0 (K : PySem.W.Frag) (T : String) (r : V → List V → Hp → VK → Prop) (to : TE) : TE := fun σ H Q => to σ H fun x H1 => tyV K T x H1 ∧ r x [] H1 Q
def tBM (K : PySem.W.Frag) (T : String) (r : V → List V → Hp → VK → Prop) (to : TE) (t : TA) : TE := fun σ H Q => to σ H fun x H1 => tyV K T x H1 ∧ t σ H1 fun xs H2 => r x xs H2 Q
variable {o e : Expr} {es : List Expr} {to : TE} {t : TA} {name : Str} {apos cpos : Pos} {T id : String} {r : V → List V → Hp → VK → Prop}
theorem pe_bm0 (pa : PlainAttrs T) (slot : Slot T name id) (hty : typeOf (.builtin id) = pure (.type "method_descriptor")) (hm : MtR X id r) (ho : PE X o to)
    (hbase : attributeBase o name X.env (eval o X.env) = eval o X.env := by rfl) (hline : (apos.endLine == cpos.line) = true := by rfl) : PE X (.Call (.Attribute o name apos) [] [] cpos) (tBM0 X.K T r to) := by
  intro pins s σ H Q I h
  refine wpAny_Call_method0_late hbase hline (thn (ho pins s σ H _ I h) fun v s1 ⟨x, H1, I1, r1, ty, q1⟩ => ?_)
  obtain ⟨h1, h2⟩ := tyV_is I1 r1 ty
  exact ⟨T, id, pa, slot, hty, h1, h2, Calls.callWith_builtin rfl (PySem.evalArgs_none (hm pins s1 σ H1 x [] v [] Q I1 r1 .nil q1))⟩
theorem pe_bm (pa : PlainAttrs T) (slot : Slot T name id) (hty : typeOf (.builtin id) = pure (.type "method_descriptor")) (hm : MtR X id r) (ho : PE X o to) (ha : PA X (e :: es) t)
    (hbase : attributeBase o name X.env (eval o X.env) = eval o X.env := by rfl)
    (hfew : ((backTo cpos (starEach (e :: es) X.env)).all (fun x => !x.1) && (backToKw cpos (keywordEach [] X.env)).all (fun x => x.1.isSome)
      && decide ((e :: es).length + ([] : List Keyword).length + (if ([] : List Keyword).isEmpty then 0 else 1) < 30)) = true := by rfl)
    (hline : (apos.endLine == cpos.line) = true := by rfl) (hs : starEach (e :: es) X.env = (false, eval e X.env) :: starEach es X.env := by rfl) (hplain : (backTo cpos (starEach es X.env)).any (·.1) = false := by rfl) :
    PE X (.Call (.Attribute o name apos) (e :: es) [] cpos) (tBM X.K T r to t) := by
  intro pins s σ H Q I h
  refine wpAny_Call_method_late hbase hfew hline rfl (thn (ho pins s σ H _ I h) fun v s1 ⟨x, H1, I1, r1, ty, q1⟩ => ?_)
  obtain ⟨h1, h2⟩ := tyV_is I1 r1 ty
  refine ⟨T, id, pa, slot, hty, h1, h2, ?_⟩
  have hA := ha cpos pins s1 σ H1 _ I1 q1
  rw [hs] at hA ⊢
  refine Calls.callWith_builtin (by show (false || (backTo cpos (starEach es X.env)).any (·.1)) = false; rw [hplain] <;> rfl) (Calls.evalArgs_plain ?_)
  exact thn hA fun us s2 ⟨vs, H2, I2, r2, q2⟩ => hm pins s2 σ H2 x vs v us Q I2 r1 r2 q2

end
end L2

namespace L2
open PySem PySem.Spec PyProof.Rows

def MtM (X : Cx) (id : String) (r : V → List V → Hp → VK → Prop) : Prop :=
  ∀ (pins : List (Addr × Obj)) (s : Shared) (σ : St) (H : Hp) (x : V) (xs : List V) (v : Value) (us : List Value) (Q : VK), Inv X pins σ H s → RelV x v → Vals xs us → r x xs H Q →
    wpAny (model X.prog X.w) X.A (call (.builtin id) (v :: us)) (EP X pins σ Q) X.xe s


theorem Vals.one : ∀ {x : V} {us : List Value}, Vals [x] us → ∃ u, us = [u] ∧ RelV x u
  | _, _, .cons r .nil => ⟨_, rfl, r⟩
theorem Vals.two : ∀ {x y : V} {us : List Value}, Vals [x, y] us → ∃ u v, us = [u, v] ∧ RelV x u ∧ RelV y v
  | _, _, _, .cons r (.cons q .nil) => ⟨_, _, rfl, r, q⟩
section
variable {X : Cx} {pins : List (Addr × Obj)} {σ : St} {H : Hp} {s : Shared} {l b : Addr} {xs ys zs : List V}


theorem Inv.lset {its its' : List Value} {n : Nat} {f : Array Value → Array Value} {t' : Nat} (I : Inv X pins σ H s) (hH : H l = some (.lst xs))
    (e : s.heap.get? l = some { cls := .type "list", data := .seq its.toArray n }) (hf : f its.toArray = its'.toArray) (hv : Vals ys its') (hz : ys.length ≤ sizeLine) :
    Inv X pins σ (upd H l (.lst ys)) { s with heap := s.heap.update l (Obj.mapSeq f), toks := t' } := by
  have q := PySem.IsL.update e f
  rw [hf] at q
  refine I.write (x := l) (e := l) (by rw [hH]; exact trivial) (.inl rfl) (fun b' u hb hu => (Heap.get?_update_other s.heap (Obj.mapSeq f) (Ne.symm hb)).trans hu) ⟨_, q⟩ ?_
  exact ⟨hz, its', _, hv, q⟩
theorem Inv.lnew {its : List Value} {t' : Nat} (I : Inv X pins σ H s) (hv : Vals ys its) (hz : ys.length ≤ sizeLine) :
    Inv X pins σ (upd H s.heap.objs.size (.lst ys)) { s with heap := s.heap.push { cls := .type "list", data := .seq its.toArray }, toks := t' } :=
  I.laid (fun _ _ q => Heap.get?_push_of_some _ q) (Nat.le_refl _) ⟨hz, its, 0, hv, Heap.get?_push_size _ rfl⟩
theorem Inv.fresh (I : Inv X pins σ H s) : H s.heap.objs.size = none := I.hok.fresh (Nat.le_refl _)
theorem Inv.lstM (I : Inv X pins σ H s) (hH : H l = some (.lst xs)) : xs.length ≤ sizeLine ∧ ∃ (its : List Value) (n : Nat), Vals xs its ∧ xs.length = its.length ∧ s.heap.get? l = some { cls := .type "list", data := .seq its.toArray n } := by
  obtain ⟨z, its, n, r, e⟩ := I.hok l _ hH
  exact ⟨z, its, n, r, r.length, e⟩

theorem notLongL {n : Nat} (h : n ≤ sizeLine) : Builtin.List.listTooLong n = false := by
  unfold Builtin.List.listTooLong
  exact decide_eq_false (by omega)
end

section
variable {X : Cx}


def rAppend : V → List V → Hp → VK → Prop := fun x vs H Q => ∃ l xs y, x = .ref l ∧ vs = [y] ∧ H l = some (.lst xs) ∧ xs.length < sizeLine ∧ Q .non (upd H l (.lst (xs ++ [y])))
theorem mt_append : MtM X "list.append" rAppend := by
  intro pins s σ H x vs v us Q I rx rv h
  obtain ⟨l, xs, y, rfl, rfl, hH, hz, q⟩ := h
  cases rx
  obtain ⟨u, rfl, ru⟩ := rv.one
  obtain ⟨z, its, n, r, hl, e⟩ := I.lstM hH
  refine call_meets F.slot_list_append ⟨_, e, rfl⟩ F.entry_list_append (F.args_list_append_2 _ _) (PySem.list_append l its.toArray n u (by rw [List.size_toArray]; omega)) ⟨e, ?_⟩
  refine ⟨.non, _, I.lset (its' := its ++ [u]) hH e (by simp) (r.append (.cons ru .nil)) ?_, rfl, q⟩
  rw [List.length_append, List.length_singleton]
  omega

def rExtend : V → List V → Hp → VK → Prop := fun x vs H Q => ∃ l b xs zs, x = .ref l ∧ vs = [.ref b] ∧ H l = some (.lst xs) ∧ H b = some (.lst zs) ∧ xs.length + zs.length ≤ sizeLine ∧ Q .non (upd H l (.lst (xs ++ zs)))
theorem mt_extend : MtM X "list.extend" rExtend := by
  intro pins s σ H x vs v us Q I rx rv h
  obtain ⟨l, b, xs, zs, rfl, rfl, hH, hB, hz, q⟩ := h
  cases rx
  obtain ⟨u, rfl, ru⟩ := rv.one
  cases ru
  obtain ⟨z, its, n, r, hl, e⟩ := I.lstM hH
  obtain ⟨z2, its2, n2, r2, hl2, e2⟩ := I.lstM hB
  have hsz : its.toArray.size + its2.toArray.size ≤ sizeLine := by rw [List.size_toArray, List.size_toArray]; omega
  have hlong : ¬ (!its.toArray.isEmpty && Builtin.List.listTooLong (its.toArray.size + its2.toArray.size)) = true := by
    rw [notLongL hsz, Bool.and_false]
    exact Bool.false_ne_true
  refine call_meets F.slot_list_extend ⟨_, e, rfl⟩ F.entry_list_extend (F.args_list_extend_2 _ _)
    (AutoSeq1.list_extend_list_list_0 l its.toArray n b its2.toArray n2 hlong (by rw [List.size_toArray]; omega) (by omega)) ⟨e, e2, ?_⟩
  refine ⟨.non, _, I.lset (its' := its ++ its2) hH e (by simp) (r.append r2) ?_, rfl, q⟩
  rw [List.length_append]
  omega

def rCat : R2 := fun x y H Q => ∃ l b xs zs, x = .ref l ∧ y = .ref b ∧ H l = some (.lst xs) ∧ H b = some (.lst zs) ∧ xs.length + zs.length ≤ sizeLine ∧ ∀ p, H p = none → Q (.ref p) (upd H p (.lst (xs ++ zs)))
theorem op_cat : OpR X (binaryOp .Add) rCat := by
  intro pins s σ H x y v u Q I rx ry h
  obtain ⟨l, b, xs, zs, rfl, rfl, hH, hB, hz, q⟩ := h
  cases rx
  cases ry
  obtain ⟨z, its, n, r, hl, e⟩ := I.lstM hH
  obtain ⟨z2, its2, n2, r2, hl2, e2⟩ := I.lstM hB
  refine PySem.P.add_list e e2 ?_ (by rw [List.size_toArray, List.size_toArray]; omega)
  have ea : its.toArray ++ its2.toArray = (its ++ its2).toArray := by simp
  rw [ea]
  exact ⟨.ref _, _, I.lnew (t' := s.toks) (r.append r2) (by rw [List.length_append]; omega), rfl, q _ I.fresh⟩

end


section
variable {prog : Program} {w : World} {A : Around} {E : Value → Shared → Prop} {s : Shared}
end

section
variable {X : Cx}

end
end L2

namespace Att
open PySem PySem.W PySem.Calls PyProof.Rows


theorem ints_of_wellAll {P : Params} {h : Heap} : ∀ (ns : List Int) (vs : List Value), WellAll P h vs (ns.map WData.int) → IntsAre vs ns := by
  intro ns
  induction ns with
  | nil =>
    intro vs w
    rw [List.map_nil] at w
    cases w
    exact .nil
  | cons n ns ih =>
    intro vs w
    rw [List.map_cons] at w
    cases w with
    | cons a b =>
      cases a
      exact .cons _ _ (ih _ b)

theorem script_of {l : OpenLaw} {n : Nat} (hn : l.most = some n) {P : Params} {h : Heap} {args : List WData} {vals : List Value}
    (hpre : l.row.toRowW.claim.pre args = true) (hwl : WellAll P h vals args) :
    ∃ a vs ns, vals = [Value.ref a] ∧ args = [WData.list (ns.map WData.int)] ∧ h.get? a = some { cls := .type "list", data := .seq vs.toArray } ∧ IntsAre vs ns ∧ ns.length ≤ n := by
  have hsh : WShape.hasAll [] args [.list .int] = true := (pre_splitW hpre).1
  have hc : l.pre.holds [] { args := args } = true := (pre_splitW hpre).2
  obtain ⟨d, r, rfl, h1, h2⟩ := hasAllW_cons hsh
  obtain rfl := hasAllW_nil h2
  obtain ⟨xs, rfl, h3⟩ := hasW_list h1
  obtain ⟨ns, rfl⟩ := items_int h3
  have hlen : ns.length ≤ n := by
    unfold OpenLaw.pre at hc
    have h4 : (WTm.not (.lt (.lit (.int (n : Int))) (.len (.arg 0)))).holds [] { args := [.list (ns.map .int)] } = true := by
      have h4 := (holds_andW hc).1
      rw [hn] at h4
      exact h4
    have h5 := condW_of h4 (w_not (w_lt w_lit (w_len_list (w_arg rfl))))
    rw [List.length_map] at h5
    refine Nat.le_of_not_lt fun q => ?_
    have q' : (n : Int) < ((ns.length : Nat) : Int) := by omega
    first
      | (rw [decide_eq_true q'] at h5; exact absurd h5 (by decide))
      | (simp at h5; omega)
  cases hwl with
  | cons w1 w2 =>
    cases w2
    cases w1 with
    | list ho hall => exact ⟨_, _, ns, rfl, rfl, ho, ints_of_wellAll ns _ hall, hlen⟩

theorem post_true (l : OpenLaw) (args : List WData) : l.row.toRowW.claim.post args (.bool true) args = true :=
  postW_of (r := l.row.toRowW) (X := (true == true))
    (show WShape.has [] (.bool true) .bool = true by first | rfl | decide | simp [WShape.has, WShape.arms, WShape.armsAll])
    (show (WTm.eq .res (.lit (.bool true))).value [] { args := args, res := some (.bool true), after := args } = some (.bool (true == true)) from w_eq_bool (w_res rfl) w_lit) rfl


theorem attach_call {l : OpenLaw} {n : Nat} {q : Program} {loose : List Str} {XP : (Str → Option Value) → Heap → Prop} {YP : World → Heap → Prop} {d : DefRec}
    (hn : l.most = some n) (hdf : d.params.defaults = [])
    (call : ∀ (w : World) (s₀ s₁ : Shared) (mg mb : Str → Option Value) (fa : Addr) (o : Obj) (pm cd doc : Value) (a : Addr) (vs : List Value) (ns : List Int),
      Ground q loose [] XP w s₀ mg mb s₁.heap → YP w s₁.heap →
      s₁.heap.get? fa = some o → o.data = .func (docDef d.name d.params d.body d.scope pm cd doc) → s₁.heap.CodeRec cd d.name → mg d.name = some (.ref fa) →
      s₁.heap.get? a = some { cls := .type "list", data := .seq vs.toArray } → IntsAre vs ns → ns.length ≤ n → s₁.gens = #[] →
      codeAny (model l.prog w) callerA (.call (.ref fa) ⟨[.ref a], []⟩) (fun r s' => r = .ok (.ret (.bool true)) ∧ OldK s₁.heap s'.heap ∧ s'.os = s₁.os ∧ AllBare s'.gens) s₁) :
    WalkO q loose XP YP l.row.toRowW d [] (fun f vs => PySem.call f vs) := by
  intro w s₀ s₁ mg mb G Y fa o pm cd doc dV kV ho hd hcd hD hmg hg args vals as hpre hlay hrd hwl hlo
  obtain rfl : dV = .none := Dflts.none hD hdf
  obtain rfl : kV = .none := Dflts.noKw hD
  obtain ⟨a, vs, ns, rfl, rfl, hobj, hints, hlen⟩ := script_of hn hpre hwl
  refine enter_call (codeAny_mono (call w s₀ s₁ mg mb fa o pm cd doc a vs ns G Y ho (fd_plain hd) hcd hmg hobj hints hlen hg) fun r s' hq => ?_)
  obtain ⟨rfl, h2, h3, h4⟩ := hq
  exact ⟨.inl ⟨.bool true, .bool true, [], rfl, fun _ => rfl, .bool true, post_true l _, fun _ => ⟨List.Pairwise.nil, fun _ hm => (nomatch hm)⟩⟩, h2, h3, h4⟩


section
variable {prog : Program} {w : World} {A : Around} {E : Value → Shared → Prop} {s : Shared} {K : Frag}


end
end Att

namespace L2
open PySem PySem.Spec PyProof.Rows

theorem vals_ints : ∀ {vs : List Value} {ns : List Int}, IntsAre vs ns → Vals (ns.map V.int) vs
  | _, _, .nil => .nil
  | _, _, .cons n t h => .cons ⟨t, rfl⟩ (vals_ints h)


end L2

namespace L2
open PySem PySem.Spec PyProof.Rows

end L2




namespace L2
open PySem PySem.Spec PyProof.Rows



def inClass (s : Stmt) (j : Nat) : Stmt := match s with
  | .ClassDef _ _ _ body _ _ _ _ _ _ _ => body.getD j (.Pass ⟨0, 0, 0, 0⟩)
  | _ => .Pass ⟨0, 0, 0, 0⟩
def defArgs (s : Stmt) : Arguments := match s with
  | .FunctionDef _ a _ _ _ _ _ _ _ _ => a
  | _ => { posonlyargs := [], args := [], vararg := none, kwonlyargs := [], kw_defaults := [], kwarg := none, defaults := [] }
def defBody (s : Stmt) : List Stmt := match s with
  | .FunctionDef _ _ b _ _ _ _ _ _ _ => b
  | _ => []
def defScope (s : Stmt) : Scope := match s with
  | .FunctionDef _ _ _ _ _ _ sc _ _ _ => sc
  | _ => { kind := .function, names := [], isGenerator := false, isCoroutine := false }


abbrev CX0 : CXT := fun _ _ _ _ _ _ => False
abbrev E0 : XK := fun _ _ _ => False
theorem pass0 {X : Cx} : Passes CX0 X E0 := fun _ _ _ _ _ _ _ h => h.elim


structure Fun (K : PySem.W.Frag) (x qual : Str) (st : Stmt) (f : Addr) (fd : FuncData) : Prop where
  ex : ∃ (oc : Value) (od : Option Addr) (kV doc pm : Value) (an : Option Addr) (cdv ct : Value) (osl : Array (Option Value)),
    fd = PySem.W.fnOf x qual (defArgs st) (defBody st) (defScope st) .none kV doc pm an cdv ct ∧ K.lookup f = some ⟨oc, od, .func fd, osl⟩ ∧ PySem.W.codeIn K cdv qual = true
  kp : PySem.W.keepIn K (.ref f) = true
section
variable {P : Program} {w : World} {K : PySem.W.Frag} {mg : Str → Option Value} {base : Heap}

theorem Fun.ok {x qual : Str} {st : Stmt} {f : Addr} {fd : FuncData} {N ps : List Str} {k : Nat} {sp : Sp} (F : Fun K x qual st f fd) (S : FnScope N ps (defScope st)) (len : ∀ vs H Q E, sp vs H Q E → vs.length = ps.length)
    (hbody : ∀ (cdv : Value) (A : Around) (outer : List Env) (s : Shared) (H : Hp) (vs : List V) (Q : VK) (E : XK), Room k (A.deeper (envOfC qual (defScope st) s.heap.objs.size f cdv)) → sp vs H Q E →
      ∃ t, PSs (cxOf CX0 P w K mg base N qual (defScope st) f cdv A outer s H E).nox (defBody st) t ∧ t { nx := fun _ H' => Q .non H', rt := Q } (start N vs) H) : FnOk P w K mg base CX0 (k + 1) f fd ps sp := by
  obtain ⟨oc, od, kV, doc, pm, an, cdv, ct, osl, rfl, lk, hcd⟩ := F.ex
  refine fn_of lk hcd S len fun A outer s H vs Q E hr hsp => ?_
  obtain ⟨t, h, q⟩ := hbody cdv A outer s H vs Q E hr hsp
  exact ⟨t, h.nox, q⟩

theorem Fun.binds {x qual : Str} {st : Stmt} {f : Addr} {fd : FuncData} {ps : List Str} (F : Fun K x qual st f fd)
    (h : ∀ (kV doc pm : Value) (an : Option Addr) (cdv ct : Value) (us : List Value), us.length = ps.length → bindArgs (PySem.W.fnOf x qual (defArgs st) (defBody st) (defScope st) .none kV doc pm an cdv ct) ⟨us, []⟩ = pure (ps.zip us)) : Binds K fd ps [] := by
  obtain ⟨oc, od, kV, doc, pm, an, cdv, ct, osl, rfl, lk, hcd⟩ := F.ex
  exact .all (h kV doc pm an cdv ct)
theorem fun_mk {x qual : Str} {st : Stmt} {f : Addr} {oc : Value} {od an : Option Addr} {osl : Array (Option Value)} {kV doc pm cdv ct : Value} (l : K.lookup f = some ⟨oc, od, .func (PySem.W.fnOf x qual (defArgs st) (defBody st) (defScope st) .none kV doc pm an cdv ct), osl⟩)
    (c : PySem.W.codeIn K cdv qual = true) (k : PySem.W.keepIn K (.ref f) = true) : Fun K x qual st f (PySem.W.fnOf x qual (defArgs st) (defBody st) (defScope st) .none kV doc pm an cdv ct) := ⟨⟨oc, od, kV, doc, pm, an, cdv, ct, osl, rfl, l, c⟩, k⟩
end
theorem hu_of {A : Around} {k : Nat} (hr : Room k A) : A.units + 1 < cLine := Nat.lt_of_le_of_lt (Nat.add_le_add_left (by decide : 1 ≤ 64) _) hr.units
theorem small1000 {n : Nat} (h : n ≤ 1000) : n < sizeLine := Nat.lt_of_le_of_lt h (by decide)


section
variable {X : Cx}
theorem pv (i : Nat) {x : Str} {pos : Pos} (hN : X.N[i]? = some x := by rfl) (hv : Vis X.env.scope x := by first | exact Or.inl rfl | exact Or.inr (Or.inl rfl) | exact Or.inr (Or.inr rfl)) (hd : (x == ("__debug__" : Str)) = false := by decide)
    (hcd : (x == ("__classdict__" : Str)) = false := by decide) : PE X (.Name x pos) (tVar i) := pe_var hN hv hd hcd

end


theorem iteF {A B : Prop} (h : B) : if false = true then A else B := by
  rw [if_neg Bool.false_ne_true]
  exact h
theorem iteT {A B : Prop} (h : A) : if true = true then A else B := by
  rw [if_pos rfl]
  exact h
theorem ite2 {c A B : Prop} [Decidable c] (h1 : c → A) (h2 : ¬ c → B) : if c then A else B := by
  by_cases h : c
  · rw [if_pos h]
    exact h1 h
  · rw [if_neg h]
    exact h2 h
def Same (H H' : Hp) : Prop := ∀ b o, H b = some o → H' b = some o
theorem Same.refl (H : Hp) : Same H H := fun _ _ h => h
theorem Same.trans {H H1 H2 : Hp} (a : Same H H1) (b : Same H1 H2) : Same H H2 := fun c o h => b c o (a c o h)
theorem Same.free {H H' : Hp} (e : Same H H') {l : Addr} (h : H' l = Option.none) : H l = Option.none := by
  cases q : H l with
  | none => rfl
  | some o =>
    rw [e l o q] at h
    cases h
theorem Same.seq {K : PySem.W.Frag} {H H' : Hp} {a : Addr} {xs : List V} (e : Same H H') (h : SqL K H a xs) : SqL K H' a xs := by
  rcases h with (h | ⟨o, h⟩) | h
  · exact .inl (.inl (e _ _ h))
  · exact .inl (.inr ⟨o, e _ _ h⟩)
  · exact .inr h


section
variable {κ : Type} [DecidableEq κ]
end
end L2



namespace GX
open PySem

theorem forIn_fold {α β : Type} {f : α → β → Sem (ForInStep β)} (g : α → β → β) : ∀ (l : List α) (b : β), (∀ x ∈ l, ∀ b, f x b = pure (.yield (g x b))) →
    forIn l b f = pure (l.foldl (fun b x => g x b) b)
  | [], b, _ => rfl
  | x :: l, b, h => by
    simp only [List.forIn_cons, h x (.head _), pure_bind]
    exact forIn_fold g l (g x b) fun y hy => h y (List.mem_cons_of_mem _ hy)

def closeF (env : Env) (x : Str × NameKind) (cs : List (Str × Addr)) : List (Str × Addr) := if x.2 == .free then (x.1, (env.cells.lookup x.1).getD 0) :: cs else cs

theorem closure_eq {env : Env} {sc : Scope} (h : ∀ y ∈ sc.names, y.2 = .free → ∃ c, env.cells.lookup y.1 = some c) :
    closureFor sc env = pure (sc.names.foldl (fun b x => closeF env x b) []) := by
  simp only [closureFor]
  rw [forIn_fold (closeF env) sc.names [] (fun x hx b => by
    obtain ⟨n, k⟩ := x
    unfold closeF
    by_cases hk : k = .free
    · subst hk
      obtain ⟨c, hc⟩ := h _ hx rfl
      have e : cellOf env n = pure c := by unfold cellOf; rw [hc]
      simp [e, hc]
    · have hb : (k == NameKind.free) = false := by simpa using hk
      simp only [hb, Bool.false_eq_true, if_false])]
  rfl

theorem closeF_sub {env : Env} : ∀ (l : List (Str × NameKind)) (acc : List (Str × Addr)), (∀ y ∈ l, y.2 = .free → ∃ c, env.cells.lookup y.1 = some c) → (∀ p ∈ acc, env.cells.lookup p.1 = some p.2) →
    ∀ p ∈ l.foldl (fun b x => closeF env x b) acc, env.cells.lookup p.1 = some p.2
  | [], acc, _, ha => ha
  | x :: l, acc, h, ha => by
    refine closeF_sub l _ (fun y hy => h y (List.mem_cons_of_mem _ hy)) fun p hp => ?_
    unfold closeF at hp
    dsimp only at hp
    by_cases hk : x.2 = .free
    · obtain ⟨c, hc⟩ := h x List.mem_cons_self hk
      rw [hk] at hp
      simp only [beq_self_eq_true, if_true] at hp
      rcases List.mem_cons.mp hp with rfl | hp
      · rw [hc]; rfl
      · exact ha p hp
    · have hb : (x.2 == NameKind.free) = false := by simpa using hk
      simp only [hb, Bool.false_eq_true, if_false] at hp
      exact ha p hp
theorem closeF_has {env : Env} {n : Str} : ∀ (l : List (Str × NameKind)) (acc : List (Str × Addr)), ((∃ c, (n, c) ∈ acc) ∨ (n, NameKind.free) ∈ l) → ∃ c, (n, c) ∈ l.foldl (fun b x => closeF env x b) acc
  | [], acc, h => by
    rcases h with h | h
    · exact h
    · cases h
  | x :: l, acc, h => by
    refine closeF_has l _ ?_
    unfold closeF
    dsimp only
    rcases h with ⟨c, h⟩ | h
    · refine .inl ⟨c, ?_⟩
      split
      · exact List.mem_cons_of_mem _ h
      · exact h
    · rcases List.mem_cons.mp h with h | h
      · refine .inl ?_
        subst h
        exact ⟨_, by rw [if_pos (by rfl)]; exact .head _⟩
      · exact .inr h
theorem lookup_of_mem {n : Str} {c : Addr} : ∀ {l : List (Str × Addr)}, (n, c) ∈ l → ∃ c', l.lookup n = some c'
  | [], h => by cases h
  | (m, d) :: l, h => by
    rw [List.lookup_cons]
    cases e : n == m with
    | true => exact ⟨d, rfl⟩
    | false =>
      rcases List.mem_cons.mp h with h | h
      · cases h
        simp at e
      · exact lookup_of_mem h

theorem mem_lk {n : Str} {c : Addr} : ∀ {l : List (Str × Addr)}, l.lookup n = some c → (n, c) ∈ l
  | [], h => by cases h
  | (m, d) :: l, h => by
    rw [List.lookup_cons] at h
    cases e : n == m with
    | true =>
      rw [e] at h
      have e' : n = m := by simpa using e
      have h' : d = c := Option.some.inj h
      rw [e', h']
      exact List.mem_cons_self
    | false =>
      rw [e] at h
      exact List.mem_cons_of_mem _ (mem_lk h)


theorem closure_ok {env : Env} {sc : Scope} (h : ∀ y ∈ sc.names, y.2 = .free → ∃ c, env.cells.lookup y.1 = some c) :
    ∃ cl, closureFor sc env = pure cl ∧ (∀ x c, cl.lookup x = some c → env.cells.lookup x = some c) ∧ (∀ n, (n, NameKind.free) ∈ sc.names → ∃ c, cl.lookup n = some c) := by
  refine ⟨_, closure_eq h, fun x c e => ?_, fun n hn => ?_⟩
  · exact closeF_sub sc.names [] h (fun p hp => by cases hp) (x, c) (mem_lk e)
  · obtain ⟨c, hc⟩ := closeF_has (env := env) sc.names [] (.inr hn)
    exact lookup_of_mem hc


theorem lookup_relabel {env : Env} {x : Str} {names : List (Str × NameKind)} :
    (names.map fun (n, k) => if (k == NameKind.free && env.scope.kind == .function && env.kindOf n == some .cell) then (n, NameKind.cell) else (n, k)).lookup x
      = (names.lookup x).map fun k => if (k == NameKind.free && env.scope.kind == .function && env.kindOf x == some .cell) then NameKind.cell else k := by
  induction names with
  | nil => rfl
  | cons p r ih =>
    obtain ⟨n, k⟩ := p
    rw [List.map_cons]
    by_cases e : x = n
    · subst e
      dsimp only
      split <;> simp_all
    · have e' : (x == n) = false := by simpa using e
      dsimp only
      split <;> simp only [List.lookup_cons, e'] <;> exact ih


def oneTurn (elt target : Expr) (ifs : List Expr) (it acc : Value) (env : Env) : Sem Bool := do
  match ← pyNext it with
  | none => pure false
  | some v =>
    letOwnedTupleGo target it v
    assign target env v
    let ok ← forIn ifs true fun c r => if r = true then do let ok ← isTrue c env (eval c env); pure (ForInStep.yield ok) else pure (ForInStep.yield r)
    if ok = true then do
      let x ← eval elt env
      let _ ← call (.builtin "list.append") [acc, x]
      pure true
    else pure true
theorem turn_is (elt target iter : Expr) (ifs : List Expr) (scope : Scope) (pos : Pos) (it acc : Value) (env : Env) :
    compTurn (.ListComp elt [⟨target, iter, ifs, 0⟩] scope pos) 0 it acc env = (do
      standAt iter.pos
      let more ← oneTurn elt target ifs it acc env
      if more = true then again (.compLoop (.ListComp elt [⟨target, iter, ifs, 0⟩] scope pos) 0 it acc env) else pure (.done .next)) := by
  rw [compTurn_list, oneTurn]
  simp only [bind_assoc]
  congr 1
  funext _
  congr 1
  funext r
  cases r with
  | none => simp
  | some v =>
    simp only [bind_assoc]
    congr 1
    funext _
    congr 1
    funext _
    congr 1
    funext ok
    cases ok <;> simp
theorem compLoop_go {prog : Program} {w : World} {A : Around} {R : Result → Shared → Prop} {s : Shared} {elt target iter : Expr} {ifs : List Expr} {scope : Scope} {pos : Pos} {it acc : Value} {env : Env} (I : Nat → Shared → Prop)
    (turn : ∀ n s, I n s → wpAny (model prog w) A (oneTurn elt target ifs it acc env) (fun more s' => if more = true then ∃ m, m < n ∧ I m s' else R (.ok .next) s') (fun _ _ => False) s) (n : Nat) (h : I n s) :
    codeAny (model prog w) A (.compLoop (.ListComp elt [⟨target, iter, ifs, 0⟩] scope pos) 0 it acc env) R s := by
  apply codeAny_loop rfl I _ n h
  intro n s hI
  apply wpAny_noted
  rw [turn_is]
  change wpAny _ A _ _ _ _
  apply wpAny_bind
  apply wpAny_standAt
  apply wpAny_bind
  refine wpAny_mono (turn n s hI) (fun more s' q => ?_) fun _ _ z => z.elim
  cases more
  · exact wpAny_pure q
  · exact wpAny_pure ⟨rfl, q⟩
end GX

set_option Elab.async false
set_option linter.all false
set_option maxRecDepth 100000
namespace GX
open PySem PySem.Spec PyProof.Rows


section
variable {prog : Program} {w : World}
variable {A : Around} {key : Value} {op : CmpOp} {lp : String} {B : Builtin} {l I S : Addr} {vs : List Value} {bt : Nat → Nat → Bool} {G : List (Nat × Value) → Shared → Prop} {R : Result → Shared → Prop} {kw : List (Str × Value)}
end
end GX

namespace GX
open PySem
end GX

namespace GB

theorem and_pow (n h : Nat) : (n &&& 2 ^ h = 0) ↔ n.testBit h = false := by
  constructor
  · intro e
    have q : (n &&& 2 ^ h).testBit h = false := by rw [e]; exact Nat.zero_testBit h
    rw [Nat.testBit_and, Nat.testBit_two_pow_self, Bool.and_true] at q
    exact q
  · intro e
    apply Nat.eq_of_testBit_eq
    intro i
    rw [Nat.testBit_and, Nat.zero_testBit, Nat.testBit_two_pow]
    by_cases hi : h = i
    · subst hi; rw [e]; rfl
    · rw [decide_eq_false hi, Bool.and_false]


def hnds (n : Nat) : List Nat := (List.range 63).filter fun h => n.testBit h

theorem bit_high {n b h : Nat} (hn : n < 2 ^ b) (hb : b ≤ h) : n.testBit h = false :=
  Nat.testBit_lt_two_pow (Nat.lt_of_lt_of_le hn (Nat.pow_le_pow_right (by decide) hb))

theorem filter_range {p : Nat → Bool} {b c : Nat} (hb : b ≤ c) (hp : ∀ h, b ≤ h → p h = false) : (List.range c).filter p = (List.range b).filter p := by
  induction c with
  | zero =>
    have : b = 0 := by omega
    subst this; rfl
  | succ c ih =>
    by_cases e : b = c + 1
    · subst e; rfl
    · rw [List.range_succ, List.filter_append, ih (by omega)]
      have : [c].filter p = [] := by
        rw [List.filter_cons, hp c (by omega)]
        rfl
      rw [this, List.append_nil]

theorem hnds_eq {n b : Nat} (hb : b ≤ 63) (hn : n < 2 ^ b) : (List.range b).filter (fun h => n.testBit h) = hnds n :=
  (filter_range hb fun _ hh => bit_high hn hh).symm

theorem div_bit (n h : Nat) : (n / 2 ^ h % 2 = 1) ↔ n.testBit h = true := by
  rw [Nat.testBit_eq_decide_div_mod_eq, decide_eq_true_iff]

theorem mem_hnds {n h : Nat} : h ∈ hnds n ↔ h < 63 ∧ n.testBit h = true := by
  unfold hnds
  rw [List.mem_filter, List.mem_range]

theorem hnds_sorted (n : Nat) : (hnds n).Pairwise (· < ·) := List.Pairwise.filter _ List.pairwise_lt_range


def hl (n : Int) : List Int := (hnds n.toNat).map (fun (h : Nat) => (h : Int))

theorem hl_mem {n : Int} {h : Nat} : (h : Int) ∈ hl n ↔ h < 63 ∧ n.toNat.testBit h = true := by
  unfold hl
  rw [List.mem_map]
  constructor
  · rintro ⟨a, ha, e⟩
    have : a = h := by omega
    subst this
    exact mem_hnds.mp ha
  · intro q
    exact ⟨h, mem_hnds.mpr q, rfl⟩

theorem idiv_bit {n : Int} (h0 : 0 ≤ n) (h : Nat) : (n / (2 : Int) ^ h % 2 = 1) ↔ n.toNat.testBit h = true := by
  obtain ⟨m, rfl⟩ := Int.eq_ofNat_of_zero_le h0
  rw [Int.toNat_natCast, ← div_bit]
  have e : ((m : Int) / (2 : Int) ^ h % 2) = ((m / 2 ^ h % 2 : Nat) : Int) := by
    push_cast
    rfl
  rw [e]
  omega
end GB

namespace GB
def setN (l : List Nat) : Nat := l.foldl (fun a h => a ||| 2 ^ h) 0
theorem fold_bit (h : Nat) : ∀ (l : List Nat) (a : Nat), (l.foldl (fun a h => a ||| 2 ^ h) a).testBit h = (a.testBit h || decide (h ∈ l))
  | [], a => by simp
  | x :: l, a => by
    rw [List.foldl_cons, fold_bit h l, Nat.testBit_or, Nat.testBit_two_pow, Bool.or_assoc]
    congr 1
    rw [Bool.eq_iff_iff]
    simp only [Bool.or_eq_true, decide_eq_true_iff, List.mem_cons]
    constructor
    · rintro (e | e)
      · exact .inl e.symm
      · exact .inr e
    · rintro (e | e)
      · exact .inl e.symm
      · exact .inr e
theorem setN_bit (l : List Nat) (h : Nat) : (setN l).testBit h = decide (h ∈ l) := by
  unfold setN
  rw [fold_bit, Nat.zero_testBit, Bool.false_or]
theorem setN_lt {l : List Nat} {b : Nat} (h : ∀ x ∈ l, x < b) : setN l < 2 ^ b := by
  apply Nat.lt_pow_two_of_testBit
  intro i hi
  rw [setN_bit]
  exact decide_eq_false fun z => by have := h i z; omega
end GB

namespace L2
open PySem PySem.Spec PyProof.Rows


def capOk (N : List Str) (sc : Scope) (x : Str) : Option Nat → Bool
  | none => true
  | some j => decide (N[j]? = some x) && decide (sc.names.lookup x = some .free)

def BlkP (N N' : List Str) (src : List (Option Nat)) (esc sc : Scope) : Prop :=
  (∀ y ∈ sc.names, y.2 ≠ .cell) ∧ (∀ y ∈ sc.names, y.2 = .local → sc.names.lookup y.1 = some .local) ∧
  (∀ y ∈ sc.names, y.2 = .free → esc.names.lookup y.1 = some .cell ∨ esc.names.lookup y.1 = some .free) ∧
  N'.Nodup ∧ src.length = N'.length ∧ ∀ p ∈ N'.zip src, capOk N sc p.1 p.2 = true
instance (N N' : List Str) (src : List (Option Nat)) (esc sc : Scope) : Decidable (BlkP N N' src esc sc) := by unfold BlkP; infer_instance

def blkSt (src : List (Option Nat)) (σ : St) : St := src.map fun o => o.bind fun j => (σ[j]?).bind fun v => v
def Cx.blk (X : Cx) (N' : List Str) (sc : Scope) (cl : List (Str × Addr)) (C : Addr) (s2 : Shared) (H2 : Hp) (fp : List Addr) : Cx :=
  { X with N := N', s₀ := s2, H₀ := H2, env := compEnvC sc cl C X.env, outer := X.stack, ex := fp, fn := fun _ => false, pn := [], xe := fun _ _ => False }

def PIf (X : Cx) (ifs : List Expr) (t : TT) : Prop :=
  ∀ (pins : List (Addr × Obj)) (s : Shared) (σ : St) (H : Hp) (Q : Bool → Hp → Prop), Inv X pins σ H s → t σ H Q →
    wpAny (model X.prog X.w) X.A (forIn ifs true fun c r => if r = true then do let ok ← isTrue c X.env (eval c X.env); pure (ForInStep.yield ok) else pure (ForInStep.yield r)) (TP X pins σ Q) X.xe s
def tYes : TT := fun _ H Q => Q true H
theorem pif_nil {X : Cx} : PIf X [] tYes := fun _ _ _ H _ I h => wpAny_tests_nil ⟨H, I, h⟩
theorem pif_one {X : Cx} {c : Expr} {t : TT} (h : PT X c t) : PIf X [c] t := fun pins s σ H Q I hw => wpAny_tests_one (h pins s σ H Q I hw)

theorem Un.but {fs ex : List Addr} {H H' : Hp} {h h1 h2 : Heap} {C : Addr} (u : Un fs ex H H' h h1) (sb : Heap.SameBut C h1 h2) (hC : h.get? C = none) : Un fs ex H H' h h2 :=
  have ne : ∀ b o, h.get? b = some o → b ≠ C := fun b o e z => by rw [z, hC] at e; cases e
  ⟨fun b o e n hb hx => (sb.2 b (ne b o e)).trans (u.keep b o e n hb hx), fun b o e n hb hx => let ⟨sl, z⟩ := u.slot b o e n hb hx; ⟨sl, (sb.2 b (ne b o e)).trans z⟩, u.free,
    fun b o e hx => let ⟨o', z⟩ := u.there b o e hx; ⟨o', (sb.2 b (ne b o e)).trans z⟩, u.tups, u.frzs, u.tbls⟩
theorem HOk.but {P : Program} {w : World} {H : Hp} {h h' : Heap} {C : Addr} (x : HOk P w H h) (sb : Heap.SameBut C h h') (hC : H C = none) : HOk P w H h' := fun b ob e => by
  refine (x b ob e).stay (fun c v hc q => (sb.2 c ?_).trans q) (fun _ q => q) fun _ _ q => q
  rintro rfl
  rcases hc with rfl | hc
  · rw [hC] at e; cases e
  · rw [hC] at hc; cases hc


def cTurn (g : TG) (tt : TT) (te : TE) (D : Addr) (N : St → Hp → Prop) (x : V) (σ : St) (H : Hp) : Prop :=
  g x σ H fun σ2 H2 => tt σ2 H2 fun b H3 => if b = true then te σ2 H3 fun y H4 => ∃ ys, H4 D = some (.lst ys) ∧ ys.length < sizeLine ∧ N σ2 (upd H4 D (.lst (ys ++ [y]))) else N σ2 H3

def tComp (src : List (Option Nat)) (wi : TI) (g : TG) (tt : TT) (te : TE) : TE := fun σ H Q => wi σ H fun J H1 => ∀ D, H1 D = none → ∃ W : Nat → Nat → St → Hp → Prop, (∃ m, W 0 m (blkSt src σ) (upd H1 D (.lst []))) ∧
  ∀ i m σ' H', W i m σ' H' → (J.stop i H' ∧ Q (.ref D) H') ∨ (J.go i H' ∧ ∃ N : St → Hp → Prop, (∀ σ2 H2, N σ2 H2 → ∃ m', m' < m ∧ W (i + 1) m' σ2 H2) ∧
    ∀ x H'', J.yld i H' x H'' → cTurn g tt te D N x σ' H'')


theorem comp_core {X : Cx} {elt tg iter : Expr} {ifs : List Expr} {sc : Scope} {pos : Pos} {g : TG} {tt : TT} {te : TE} {N' : List Str} {src : List (Option Nat)} {cl : List (Str × Addr)} {pins : List (Addr × Obj)} {σ : St} {H2 : Hp} {s2 : Shared} {it : Addr} {fp : List Addr}
    {tn : Nat → Heap → Prop} {J : It} {W : Nat → Nat → St → Hp → Prop} {m0 : Nat} {Qe : Hp → Prop} {RR : Value → Addr → Result → Shared → Prop}
    (hc : X.calm = true) (hk : sc.kind = .function) (hB : BlkP X.N N' src X.env.scope sc) (hsub : ∀ x c, cl.lookup x = some c → X.env.cells.lookup x = some c) (hhas : ∀ n, (n, NameKind.free) ∈ sc.names → ∃ c, cl.lookup n = some c)
    (hg : ∀ cl C s2 H2 fp, N'.Nodup → PG (X.blk N' sc cl C s2 H2 fp) tg g)
    (ht : ∀ cl C s2 H2 fp, PIf (X.blk N' sc cl C s2 H2 fp) ifs tt)
    (he : ∀ cl C s2 H2 fp, PE (X.blk N' sc cl C s2 H2 fp) elt te)
    (I2 : Inv X pins σ H2 s2) (T : Turn X.prog X.w X.K tg J fp it tn) (st2 : tn 0 s2.heap) (f2 : ∀ b ∈ fp, FpOk X pins H2 b)
    (w0 : W 0 m0 (blkSt src σ) (upd H2 s2.heap.objs.size (.lst [])))
    (turn : ∀ i m σ' H', W i m σ' H' → (J.stop i H' ∧ Qe H') ∨ (J.go i H' ∧ ∃ N : St → Hp → Prop, (∀ σ2 H2, N σ2 H2 → ∃ m', m' < m ∧ W (i + 1) m' σ2 H2) ∧
      ∀ x H'', J.yld i H' x H'' → cTurn g tt te s2.heap.objs.size N x σ' H''))
    (fin : ∀ C s4 σ3 H3, s2.heap.objs.size ≤ C → Inv (X.blk N' sc cl C s2 H2 fp) [] σ3 H3 s4 → Qe H3 → RR (.ref s2.heap.objs.size) C (.ok .next) s4) :
    wpAny (model X.prog X.w) X.A (newList []) (fun acc s₃ => wpAny (model X.prog X.w) X.A (newFunctionEnv sc X.env.globals cl [] X.env.qual none .none (some X.env)) (fun cenv s₄ =>
      codeAny (model X.prog X.w) X.A (.compStart (.ListComp elt [⟨tg, iter, ifs, 0⟩] sc pos) 0 (.ref it) acc { cenv with scope := relabel sc X.env }) (RR acc cenv.locals) s₄) X.xe s₃) X.xe s2 := by
  obtain ⟨b1, b2, b3, b4, b5, b6⟩ := hB
  refine wpAny_newObj_type (wpAny_newFunctionEnv b1 (by intro y hy; simp at hy) (fun h₁ ns₁ sb₁ => ?_) hk)
  dsimp only at ns₁ sb₁ ⊢
  generalize hP : s2.heap.push { cls := .type "list", dict := none, data := .seq ([] : List Value).toArray } = Hl at ns₁ sb₁ ⊢
  have hC : Hl.objs.size = s2.heap.objs.size + 1 := by rw [← hP, Heap.size_push]
  have nDC : s2.heap.objs.size ≠ Hl.objs.size := by rw [hC]; exact Nat.ne_of_lt (Nat.lt_succ_self _)
  have below : ∀ {b : Addr} {o : Obj}, s2.heap.get? b = some o → b ≠ Hl.objs.size := fun {b o} z => by
    have := Heap.lt_size z
    rw [hC]
    exact Nat.ne_of_lt (Nat.lt_succ_of_lt this)
  have old : ∀ b o, s2.heap.get? b = some o → h₁.get? b = some o := fun b o z => sb₁.extBut b o (below z) (Heap.get?_push_of_some _ (hP ▸ Heap.get?_push_of_some _ z))
  have hD1 : h₁.get? s2.heap.objs.size = some { cls := .type "list", data := .seq ([] : List Value).toArray } := sb₁.extBut _ _ nDC (Heap.get?_push_of_some _ (hP ▸ Heap.get?_push_size _ rfl))
  have fD : H2 s2.heap.objs.size = none := I2.hok.fresh (Nat.le_refl _)
  have fC : H2 Hl.objs.size = none := I2.hok.fresh (by rw [hC]; exact Nat.le_succ _)
  have ok : (X.blk N' sc cl Hl.objs.size s2 H2 fp).Ok := by
    refine ⟨I2.ok.mod, hk, I2.ok.glob, I2.ok.blt, ?_, fun x y c h1 h2 => I2.ok.inj x y c (hsub x c h1) (hsub y c h2), fun x hx => ?_, fun x c z => ?_, I2.ok.hd, I2.ok.frames, .inl rfl, fun b hb => ⟨?_, fun x c z => (f2 b hb).2.2.2.2.1 x c (hsub x c z)⟩,
      I2.bs, Nat.le_trans I2.ok.bsz I2.sz, fun b o z hb => ?_, fun b hb z => ?_, I2.stack, I2.stkFree⟩
    · show s2.heap.objs.size ≤ Hl.objs.size
      rw [hC]; exact Nat.le_succ _
    · have hx' : (sc.names.map fun (n, k) => if (k == NameKind.free && X.env.scope.kind == .function && X.env.kindOf n == some .cell) then (n, NameKind.cell) else (n, k)).lookup x = some .cell ∨
          (sc.names.map fun (n, k) => if (k == NameKind.free && X.env.scope.kind == .function && X.env.kindOf n == some .cell) then (n, NameKind.cell) else (n, k)).lookup x = some .free := hx
      rw [GX.lookup_relabel] at hx'
      cases e : sc.names.lookup x with
      | none =>
        rw [e] at hx'
        simp at hx'
      | some k =>
        rw [e] at hx'
        by_cases hf : k = .free
        · subst hf
          exact hhas x (PySem.mem_of_lookup e)
        · have hb : (k == NameKind.free) = false := by simpa using hf
          have e2 : ((some k).map fun k => if (k == NameKind.free && X.env.scope.kind == .function && X.env.kindOf x == some .cell) then NameKind.cell else k) = some k := by
            show some (if (k == NameKind.free && X.env.scope.kind == .function && X.env.kindOf x == some .cell) = true then NameKind.cell else k) = some k
            rw [hb, Bool.false_and, Bool.false_and]
            rfl
          rw [e2] at hx'
          rcases hx' with z | z
          · exact absurd (Option.some.inj z) (b1 _ (PySem.mem_of_lookup e))
          · exact absurd (Option.some.inj z) hf
    · cases z
    · obtain ⟨o, z, _⟩ := T.obj 0 _ st2 b hb
      exact below z
    · rcases (f2 b hb).2.2.2.1 with f3 | f3
      · exact I2.ok.noex b o z f3
      · have l1 := Heap.lt_size z
        have l2 := I2.ok.bsz
        exact absurd (Nat.lt_of_lt_of_le l1 (Nat.le_trans l2 f3)) (Nat.lt_irrefl _)
    · rcases List.mem_cons.mp (I2.stkSub b z) with z | z
      · exact (f2 b hb).2.1 z
      · exact (f2 b hb).2.2.1 z
  have IY : Inv (X.blk N' sc cl Hl.objs.size s2 H2 fp) [] (blkSt src σ) (upd H2 s2.heap.objs.size (.lst [])) { s2 with heap := h₁, toks := s2.toks + ([] : List (Str × Value)).length } := by
    refine ⟨ok, rfl, I2.bare, Un.laid old (Nat.le_refl _) fD, ⟨_, ns₁, fun i x v e1 e2 _ => ?_⟩, fun x c z => ?_, ?_, fun x c z => ?_, fun p hp => ?_, I2.hok.laid old (Nat.le_refl _) ⟨Nat.zero_le _, [], 0, .nil, hD1⟩, ?_⟩
    · have e1' : N'[i]? = some x := e1
      unfold blkSt at e2
      rw [List.getElem?_map] at e2
      cases es : src[i]? with
      | none => rw [es] at e2; cases e2
      | some o =>
        rw [es] at e2
        cases o with
        | none => cases e2
        | some j =>
          have e3 : (σ[j]?).bind (fun v => v) = some v := Option.some.inj e2
          have e4 : σ[j]? = some (some v) := by
            cases q : σ[j]? with
            | none => rw [q] at e3; cases e3
            | some w => rw [q] at e3; exact congrArg some e3
          have hz : (x, some j) ∈ N'.zip src := List.mem_of_getElem? (i := i) (by rw [List.getElem?_zip_eq_some]; exact ⟨e1', es⟩)
          have hcap := b6 _ hz
          have hcap' : (decide (X.N[j]? = some x) && decide (sc.names.lookup x = some .free)) = true := hcap
          rw [Bool.and_eq_true] at hcap'
          have c1 : X.N[j]? = some x := of_decide_eq_true hcap'.1
          have c2 : sc.names.lookup x = some .free := of_decide_eq_true hcap'.2
          have hfree := PySem.mem_of_lookup c2
          have vis := b3 _ hfree rfl
          obtain ⟨m, hn, hl⟩ := I2.loc
          obtain ⟨u, ru, lk⟩ := hl j x v c1 e4 (.inr vis)
          rcases lk with ⟨k1, _⟩ | ⟨_, c, k2, z⟩
          · have k1' : X.env.scope.names.lookup x = some .local := k1
            rcases vis with v | v <;> (rw [k1'] at v; cases v)
          · obtain ⟨c', k3⟩ := hhas x hfree
            have k4 := hsub x c' k3
            rw [k2] at k4
            cases k4
            refine ⟨u, ru, .inr ⟨?_, c, k3, z.keeps old⟩⟩
            show (sc.names.map fun (n, k) => if (k == NameKind.free && X.env.scope.kind == .function && X.env.kindOf n == some .cell) then (n, NameKind.cell) else (n, k)).lookup x = some .cell ∨
              (sc.names.map fun (n, k) => if (k == NameKind.free && X.env.scope.kind == .function && X.env.kindOf n == some .cell) then (n, NameKind.cell) else (n, k)).lookup x = some .free
            rw [GX.lookup_relabel, c2]
            show some (if _ then NameKind.cell else NameKind.free) = _ ∨ some (if _ then NameKind.cell else NameKind.free) = _
            split
            · exact .inl rfl
            · exact .inr rfl
    · obtain ⟨v, q⟩ := I2.cell x c (hsub x c z)
      exact ⟨v, q.keeps old⟩
    · show upd H2 s2.heap.objs.size (.lst []) Hl.objs.size = none
      rw [upd_ne (Ne.symm nDC)]
      exact fC
    · obtain ⟨v, q⟩ := I2.cell x c (hsub x c z)
      rw [upd_ne (Nat.ne_of_lt q.lt)]
      exact I2.freeC x c (hsub x c z)
    · exact absurd (show p ∈ ([] : List (Addr × Obj)) from hp) (by simp)
    · show (src.map _).length = N'.length
      rw [List.length_map]
      exact b5
  have stat : ∀ {H' : Hp}, (∀ b ∈ fp, H' b = none) → ∀ b ∈ fp, FpOk (X.blk N' sc cl Hl.objs.size s2 H2 fp) [] H' b := fun hn b hb =>
    ⟨hn b hb, (ok.exf b hb).1, ok.exfs b hb, .inl hb, (ok.exf b hb).2, fun p hp => absurd (show p ∈ ([] : List (Addr × Obj)) from hp) (by simp)⟩
  have loop : codeAny (model X.prog X.w) X.A (.compLoop (.ListComp elt [⟨tg, iter, ifs, 0⟩] sc pos) 0 (.ref it) (.ref s2.heap.objs.size) (compEnvC sc cl Hl.objs.size X.env))
      (RR (.ref s2.heap.objs.size) Hl.objs.size) { s2 with heap := h₁, toks := s2.toks + ([] : List (Str × Value)).length } := by
    refine GX.compLoop_go (fun n s' => ∃ i σ' H', Inv (X.blk N' sc cl Hl.objs.size s2 H2 fp) [] σ' H' s' ∧ tn i s'.heap ∧ (∀ b ∈ fp, H' b = none) ∧ W i n σ' H') ?_ m0
      ⟨0, _, _, IY, T.keep 0 _ _ st2 (fun b _ o z => old b o z), fun b hb => ?_, w0⟩
    · rintro n s3 ⟨i, σ3, H3, I3, st3, fr3, w3⟩
      rcases turn i n σ3 H3 w3 with ⟨stop, qn⟩ | ⟨go, N, hN, step⟩
      · refine wpAny_bind (thn (T.done (X.blk N' sc cl Hl.objs.size s2 H2 fp) rfl rfl rfl hc i [] s3 σ3 H3 (fun _ _ => False) I3 (stat fr3) st3 stop) fun r s4 ⟨hr, I4⟩ => ?_)
        subst hr
        exact wpAny_pure <| fin _ s4 σ3 H3 (by rw [hC]; exact Nat.le_succ _) I4 qn
      · refine wpAny_bind (thn (T.item (X.blk N' sc cl Hl.objs.size s2 H2 fp) rfl rfl rfl hc i [] s3 σ3 H3 (fun _ _ => False) I3 (stat fr3) st3 go) fun r s4 ⟨u, hr, h4⟩ => ?_)
        subst hr
        refine wpAny_bind (thn h4 fun _ s5 ⟨x, H5, I5, r5, y5, st5, fr5⟩ => ?_)
        have I5' := I5.pinned (stat fr5) (T.obj _ _ st5)
        have again : ∀ {σ7 : St} {H7 : Hp} {s7 : Shared}, Inv (X.blk N' sc cl Hl.objs.size s2 H2 fp) ([] ++ pinsAt fp s5.heap) σ7 H7 s7 → N σ7 H7 →
            ∃ m, m < n ∧ ∃ i σ' H', Inv (X.blk N' sc cl Hl.objs.size s2 H2 fp) [] σ' H' s7 ∧ tn i s7.heap ∧ (∀ b ∈ fp, H' b = none) ∧ W i m σ' H' := fun {σ7 H7 s7} I7 n7 => by
          obtain ⟨m', hm, w7⟩ := hN σ7 H7 n7
          refine ⟨m', hm, i + 1, σ7, H7, I7.unpinned, T.keep _ _ _ st5 fun b hb o z => (I7.pin (b, o) (List.mem_append_right _ (List.mem_append_right _ (mem_pinsAt hb z)))).1, fun b hb => ?_, w7⟩
          obtain ⟨o, z, _⟩ := T.obj _ _ st5 b hb
          exact (I7.pin (b, o) (List.mem_append_right _ (List.mem_append_right _ (mem_pinsAt hb z)))).2.1
        refine wpAny_bind (thn (hg cl Hl.objs.size s2 H2 fp b4 _ s5 σ3 H5 x u _ I5' r5 (step x H5 y5)) fun _ s6 ⟨σ6, H6, I6, q6⟩ => ?_)
        refine wpAny_bind (thn (ht cl Hl.objs.size s2 H2 fp _ s6 σ6 H6 _ I6 q6) fun ok s7 ⟨H7, I7, q7⟩ => ?_)
        cases ok with
        | true =>
          rw [if_pos rfl] at q7 ⊢
          refine wpAny_bind (thn (he cl Hl.objs.size s2 H2 fp _ s7 σ6 H7 _ I7 q7) fun yv s8 ⟨y, H8, I8, r8, ys, hD, hz, n8⟩ => ?_)
          exact wpAny_bind <| thn (mt_append (X := X.blk N' sc cl Hl.objs.size s2 H2 fp) _ s8 σ6 H8 (.ref s2.heap.objs.size) [y] (.ref s2.heap.objs.size) [yv] (fun _ H' => N σ6 H') I8 rfl (.cons r8 .nil) ⟨_, ys, y, rfl, rfl, hD, hz, n8⟩)
            fun _ s9 ⟨_, H9, I9, _, n9⟩ => wpAny_pure (again I9 n9)
        | false =>
          rw [if_neg Bool.false_ne_true] at q7 ⊢
          exact wpAny_pure (again I7 q7)
    · obtain ⟨o, z, _⟩ := T.obj 0 _ st2 b hb
      rw [upd_ne (Nat.ne_of_lt (Heap.lt_size z))]
      exact (f2 b hb).1
  exact codeAny_compStart_list loop (T.self X.A 0 _ _ _ (T.keep 0 _ _ st2 (fun b _ o z => old b o z)) loop)

theorem pe_comp {X : Cx} {elt tg iter : Expr} {ifs : List Expr} {sc : Scope} {pos : Pos} {wi : TI} {g : TG} {tt : TT} {te : TE} (N' : List Str) (src : List (Option Nat))
    (hc : X.calm = true) (hk : sc.kind = .function) (hB : decide (BlkP X.N N' src X.env.scope sc) = true) (hi : PI X tg iter wi)
    (hg : ∀ cl C s2 H2 fp, N'.Nodup → PG (X.blk N' sc cl C s2 H2 fp) tg g)
    (ht : ∀ cl C s2 H2 fp, PIf (X.blk N' sc cl C s2 H2 fp) ifs tt)
    (he : ∀ cl C s2 H2 fp, PE (X.blk N' sc cl C s2 H2 fp) elt te)
    (hs : ∀ x, foldedSetIterable iter X.env x = pure x := by intro _; rfl) :
    PE X (.ListComp elt [⟨tg, iter, ifs, 0⟩] sc pos) (tComp src wi g tt te) := by
  intro pins s σ H Q I h
  have B := of_decide_eq_true hB
  obtain ⟨cl, hclos, hsub, hhas⟩ := GX.closure_ok (env := X.env) (sc := sc) fun y hy hf => I.ok.has y.1 (B.2.2.1 y hy hf)
  rw [eval_ListComp]
  refine wpAny_comprehension_free (use := none) rfl hs hclos hk B.2.1 (thn (hi pins s σ H _ I h) fun v s1 h1 => thn h1 fun itv s2 h2 => ?_)
  obtain ⟨it, fp, tn, J, H2, e, I2, T, st2, f2, q⟩ := h2
  subst e
  obtain ⟨W, ⟨m0, w0⟩, turn⟩ := q s2.heap.objs.size (I2.hok.fresh (Nat.le_refl _))
  refine comp_core (RR := fun acc C => compPost (model X.prog X.w) X.A X.xe none (EP X pins σ Q) acc C) (Qe := fun H' => Q (.ref s2.heap.objs.size) H') hc hk B hsub hhas hg ht he I2 T st2 f2 w0 turn fun C s4 σ3 H3 hC I4 qn => ?_
  obtain ⟨m, hn, _⟩ := I4.loc
  refine ⟨m, hn, fun h' sb => ⟨.ref s2.heap.objs.size, H3, ?_, rfl, qn⟩⟩
  exact I2.call' (s' := { s4 with heap := h' }) (ch := fp) I4.os (I4.base.but sb (Heap.get?_none_of_le hC)) (I4.hok.but sb I4.free) I4.bare fun b hb => ⟨(f2 b hb).2.2.2.1, (f2 b hb).2.1, (f2 b hb).2.2.2.2.1, (f2 b hb).2.2.2.2.2⟩


theorem ps_comp {X : Cx} {elt tg iter : Expr} {ifs : List Expr} {sc : Scope} {pos py spos : Pos} {y : Str} {i : Nat} {wi : TI} {g : TG} {tt : TT} {te : TE} (N' : List Str) (src : List (Option Nat))
    (hN : X.N.Nodup) (hy : X.N[i]? = some y) (hl : Loc X.env.scope y) (hc : X.calm = true) (hk : sc.kind = .function) (hB : decide (BlkP X.N N' src X.env.scope sc) = true) (hi : PI X tg iter wi)
    (hg : ∀ cl C s2 H2 fp, N'.Nodup → PG (X.blk N' sc cl C s2 H2 fp) tg g)
    (ht : ∀ cl C s2 H2 fp, PIf (X.blk N' sc cl C s2 H2 fp) ifs tt)
    (he : ∀ cl C s2 H2 fp, PE (X.blk N' sc cl C s2 H2 fp) elt te)
    (hsw : swapsWith (.ListComp elt [⟨tg, iter, ifs, 0⟩] sc pos) (some (.Name y py)) spos.line X.env = pure true := by rfl)
    (hs : ∀ x, foldedSetIterable iter X.env x = pure x := by intro _; rfl) (hf : X.fn y = true ∨ X.env.scope.names.lookup y = some .local := by first | exact .inl rfl | exact .inr rfl) :
    PS X (.Assign [.Name y py] (.ListComp elt [⟨tg, iter, ifs, 0⟩] sc pos) spos) (tAsg (tComp src wi g tt te) (gName i)) := by
  intro pins s σ H D I h
  have B := of_decide_eq_true hB
  obtain ⟨cl, hclos, hsub, hhas⟩ := GX.closure_ok (env := X.env) (sc := sc) fun y hy hf => I.ok.has y.1 (B.2.2.1 y hy hf)
  rw [exec_Assign_Name_used _ _ _ _ hsw]
  refine wpAny_bind (wpAny_standAt (wpAny_bind ?_))
  show wpAny _ X.A (do let _ ← comprehension (.ListComp elt [⟨tg, iter, ifs, 0⟩] sc pos) sc X.env _ (newList []) false (eval iter X.env) (some (assign (.Name y py) X.env))) _ _ s
  refine wpAny_bind (wpAny_mono (wpAny_comprehension_free (use := some (assign (.Name y py) X.env)) (Q := fun _ s' => SP X pins D .next s') rfl hs hclos hk B.2.1
    (thn (hi pins s σ H _ I h) fun v s1 h1 => thn h1 fun itv s2 h2 => ?_)) (fun _ s' hq => wpAny_pure (wpAny_pure hq)) fun _ _ e => e)
  obtain ⟨it, fp, tn, J, H2, e, I2, T, st2, f2, q⟩ := h2
  subst e
  obtain ⟨W, ⟨m0, w0⟩, turn⟩ := q s2.heap.objs.size (I2.hok.fresh (Nat.le_refl _))
  refine comp_core (RR := fun acc C => compPost (model X.prog X.w) X.A X.xe (some (assign (.Name y py) X.env)) (fun _ s' => SP X pins D .next s') acc C) (Qe := fun H' => D.nx (σ.set i (some (.ref s2.heap.objs.size))) H') hc hk B hsub hhas hg ht he I2 T st2 f2 w0 turn
    fun C s4 σ3 H3 hC I4 qn => ?_
  have IX : Inv X pins σ H3 s4 := I2.call' (ch := fp) I4.os I4.base I4.hok I4.bare fun b hb => ⟨(f2 b hb).2.2.2.1, (f2 b hb).2.1, (f2 b hb).2.2.2.2.1, (f2 b hb).2.2.2.2.2⟩
  have nC : ∀ {b : Addr} {o : Obj}, s2.heap.get? b = some o → C ≠ b := fun {b o} z => Nat.ne_of_gt (Nat.lt_of_lt_of_le (Heap.lt_size z) hC)
  have nL : C ≠ X.env.locals := Nat.ne_of_gt (Nat.lt_of_lt_of_le I2.lt hC)
  have nK : ∀ x c, X.env.cells.lookup x = some c → c ≠ C := fun x c z => by
    obtain ⟨v, o, ho, _⟩ := I2.cell x c z
    exact Ne.symm (nC ho)
  obtain ⟨m, hn, _⟩ := I4.loc
  show wpAny _ X.A (assign (.Name y py) X.env (.ref s2.heap.objs.size)) _ _ s4
  refine wpAny_assign_Name (store_ok2 IX hN hy hl (v := .ref s2.heap.objs.size) rfl (fun s5 I5 h5 => ?_) hf)
  obtain ⟨a, sb, ha⟩ := h5
  have na : C ≠ a := by
    rcases ha with z | z
    · rw [z]; exact nL
    · exact Ne.symm (nK _ _ z)
  refine ⟨m, hn.sameBut sb na, fun h' sb' => ⟨_, H3, ?_, qn⟩⟩
  exact I5.turned (it := C) (t' := s5.toks) (fun b o hb z => (sb'.2 b hb).trans z) I4.free nL (.inr (Nat.le_trans I2.sz hC)) nK fun p hp => Ne.symm (nC (I2.pin p hp).1)


theorem comp_range {lo : Int} {n : Nat} {g : TG} {tt : TT} {te : TE} {σ : St} {H : Hp} {D : Addr} {Qe : Hp → Prop} (Pv : Nat → St → Hp → Prop) (h0 : Pv 0 σ H)
    (hs : ∀ i σ H, i < n → Pv i σ H → cTurn g tt te D (Pv (i + 1)) (.int (lo + i)) σ H) (hd : ∀ σ H, Pv n σ H → Qe H) :
    ∃ W : Nat → Nat → St → Hp → Prop, (∃ m, W 0 m σ H) ∧ ∀ i m σ' H', W i m σ' H' → ((Itr lo n).stop i H' ∧ Qe H') ∨ ((Itr lo n).go i H' ∧ ∃ N : St → Hp → Prop, (∀ σ2 H2, N σ2 H2 → ∃ m', m' < m ∧ W (i + 1) m' σ2 H2) ∧
      ∀ x H'', (Itr lo n).yld i H' x H'' → cTurn g tt te D N x σ' H'') := by
  refine ⟨fun i m σ H => m = n - i ∧ i ≤ n ∧ Pv i σ H, ⟨n, by simp, Nat.zero_le _, h0⟩, ?_⟩
  rintro i m σ H ⟨rfl, hi, p⟩
  by_cases hlt : i < n
  · refine .inr ⟨hlt, Pv (i + 1), fun σ' H' p' => ⟨n - (i + 1), by omega, rfl, hlt, p'⟩, fun x H' y => ?_⟩
    obtain ⟨e, y⟩ := y
    subst e y
    exact hs i σ _ hlt p
  · have e : i = n := by omega
    subst e
    exact .inl ⟨Nat.le_refl _, hd σ H p⟩
theorem comp_list {K : PySem.W.Frag} {a : Addr} {xs : List V} {g : TG} {tt : TT} {te : TE} {σ : St} {H : Hp} {D : Addr} {Qe : Hp → Prop} (Pv : Nat → St → Hp → Prop) (h0 : Pv 0 σ H) (hl : ∀ i σ H, i ≤ xs.length → Pv i σ H → SqL K H a xs)
    (hs : ∀ i x σ H, xs[i]? = some x → Pv i σ H → cTurn g tt te D (Pv (i + 1)) x σ H) (hd : ∀ σ H, Pv xs.length σ H → Qe H) :
    ∃ W : Nat → Nat → St → Hp → Prop, (∃ m, W 0 m σ H) ∧ ∀ i m σ' H', W i m σ' H' → ((Itl K a).stop i H' ∧ Qe H') ∨ ((Itl K a).go i H' ∧ ∃ N : St → Hp → Prop, (∀ σ2 H2, N σ2 H2 → ∃ m', m' < m ∧ W (i + 1) m' σ2 H2) ∧
      ∀ x H'', (Itl K a).yld i H' x H'' → cTurn g tt te D N x σ' H'') := by
  refine ⟨fun i m σ H => m = xs.length - i ∧ i ≤ xs.length ∧ Pv i σ H, ⟨xs.length, by simp, Nat.zero_le _, h0⟩, ?_⟩
  rintro i m σ H ⟨rfl, hi, p⟩
  have q := hl i σ H hi p
  by_cases hlt : i < xs.length
  · refine .inr ⟨⟨xs, xs[i], q, by simp [hlt]⟩, Pv (i + 1), fun σ' H' p' => ⟨xs.length - (i + 1), by omega, rfl, hlt, p'⟩, fun x H' y => ?_⟩
    obtain ⟨e, y⟩ := y
    subst e
    exact hs i x σ _ (y xs q) p
  · have e : i = xs.length := by omega
    subst e
    exact .inl ⟨⟨xs, q, Nat.le_refl _⟩, hd σ H p⟩
end L2

namespace L2
open PySem PySem.Spec PyProof.Rows
section
variable {X : Cx}

def CDivB (_ j : Int) : Prop := 0 < j ∧ j < 18446744073709551616
theorem op_fdivB : OpR X (binaryOp .FloorDiv) (rI CDivB fun i j => .int (i / j)) := opI fun i j _ _ _ _ _ hc q => by
  have h1 : (0 : Int) < j := hc.1
  have h2 : j < 18446744073709551616 := hc.2
  refine floordiv_int (by omega) (by rw [Int.fdiv_eq_ediv_of_nonneg i (by omega)]; exact q) (.inl (PyProof.noPylong_of_log2 ?_))
  have h3 : j.natAbs.log2 < 64 := (Nat.log2_lt (by omega)).mpr (by omega)
  omega
theorem call_isinst : CallR X (.builtin "isinstance") (fun xs H Q => ∃ (x : V) (t : Value) (T : String) (b : Bool), xs = [x, .ty T] ∧ TyOf X.K H x t ∧ PySem.W.kitOne X.K t (.type T) = some b ∧ Q (.bl b) H) := by
  intro pins s σ H xs us Q I r h
  obtain ⟨x, t, T, b, rfl, ty, e, q⟩ := h
  obtain ⟨u, w', rfl, r1, r2⟩ := vals2 r
  obtain rfl : w' = Value.type T := r2
  exact isinst_ok I r1 ty e fun tk => ⟨.bl b, H, I.tok tk, rfl, q⟩
theorem mt_bitlen : MtR X "int.bit_length" (fun x vs H Q => ∃ i, x = .int i ∧ vs = [] ∧ Q (.int (Builtin.Int.intBits i)) H) := by
  intro pins s σ H x xs v us Q I rx rv h
  obtain ⟨i, rfl, rfl, q⟩ := h
  obtain ⟨t, rfl⟩ := rx
  cases rv
  exact call_int_bit_length ⟨.int (Builtin.Int.intBits i), H, I.tok _, ⟨_, rfl⟩, q⟩

end


structure Cal (K : PySem.W.Frag) (mg : Str → Option Value) (x : Str) (f : Addr) (fd : FuncData) (ps : List Str) : Prop where
  mg : mg x = some (.ref f)
  kp : PySem.W.keepIn K (.ref f) = true
  bd : Binds K fd ps []
theorem pcall {X : Cx} {k : Nat} {f : Addr} {fd : FuncData} {ps : List Str} {sp : Sp} {x : Str} {e : Expr} {es : List Expr} {t : TA} {p pos : Pos} (F : FnOk X.prog X.w X.K X.mg X.base CX0 k f fd ps sp) (c : Cal X.K X.mg x f fd ps) (hr : Room k X.A) (ha : PA X (e :: es) t)
    (hg : Gl X x := by rfl) (hdb : (x == ("__debug__" : Str)) = false := by decide) (he : starEach (e :: es) X.env = (false, eval e X.env) :: starEach es X.env := by rfl) (hpl : (backTo pos (starEach es X.env)).any (·.1) = false := by rfl) :
    PE X (.Call (.Name x p) (e :: es) [] pos) (tCall sp [] E0 t) := pe_call F hr hg c.mg c.kp c.bd .nil pass0 ha hdb he hpl

theorem pe_type {X : Cx} {x : Str} {T : String} {pos : Pos} (hm : X.mg x = none) (hv : bootBuiltins x = some (.type T)) (hg : Gl X x := by rfl) (hn : x ≠ "__name__" := by decide) (hdb : (x == ("__debug__" : Str)) = false := by decide) : PE X (.Name x pos) (tC (.ty T)) :=
  pe_bltn hg hm hv rfl hn hdb
def tTru (K : PySem.W.Frag) (t : TE) : TT := fun σ H Q => t σ H fun x H' => ∃ k, TruV K x H' k ∧ Q k H'

theorem pt_callK {X : Cx} (K : PySem.W.Frag) {f : Expr} {es : List Expr} {kws : List Keyword} {pos : Pos} {t : TE} (hK : X.K = K) (h : PE X (.Call f es kws pos) t) : PT X (.Call f es kws pos) (tTru K t) := by
  subst hK
  exact pt_truth h fun _ => rfl

end L2

namespace L2
open PySem PySem.Spec PyProof.Rows
section
variable {X : Cx}
theorem bitOr_pp {x y : Int} (hx : 0 ≤ x) (hy : 0 ≤ y) : Builtin.bitOr x y = ((x.toNat ||| y.toNat : Nat) : Int) := by
  have nn : ∀ z : Int, Builtin.bitNot (Builtin.bitNot z) = z := fun z => by unfold Builtin.bitNot; omega
  have ng : ∀ z : Int, 0 ≤ z → ¬ 0 ≤ Builtin.bitNot z := fun z hz => by unfold Builtin.bitNot; omega
  unfold Builtin.bitOr
  rw [bitAnd_nn (ng x hx) (ng y hy), nn, nn, nn]

end
end L2

set_option Elab.async false
set_option linter.all false
set_option maxRecDepth 100000
namespace GX
open PySem
section
variable {prog : Program} {w : World} {A : Around} {E : Value → Shared → Prop} {s : Shared} {l : Addr} {items : Array Value} {n : Nat} {Q : Option Value → Shared → Prop}
end
end GX

set_option Elab.async false
set_option linter.all false
set_option maxRecDepth 100000
namespace GX
open PySem
section
variable {prog : Program} {w : World} {A : Around} {R : Result → Shared → Prop} {I d : Addr} {fp wr : List Addr} {n : Nat} {P : Nat → Value → Prop} {St : Nat → Heap → Prop} {K : Type} [DecidableEq K] {knd : KeyKind prog w K}
end
section
variable {prog : Program} {w : World} {A : Around} {E : Value → Shared → Prop} {s : Shared} {K : Type} [DecidableEq K] {knd : KeyKind prog w K}
end
end GX
namespace GX
open PySem PyProof.Rows
section
variable {prog : Program} {w : World} {A : Around} {E : Value → Shared → Prop} {s : Shared}

theorem sorted_in {x : Value} {kw : List (Str × Value)} {Q : Value → Shared → Prop} (ok : argsOk "sorted" ⟨[x], kw⟩)
    (h : wpAny (model prog w) A.in1 (collect x) (fun vs s1 => wpAny (model prog w) A.in1 (newList vs >>= fun l => holding [l] (call (.builtin "list.sort") [l] kw) >>= fun _ => ret l) (fun f s2 => ∃ v, f = .done (.ret v) ∧ Q v s2) E s1) E s) :
    wpAny (model prog w) A (call (.builtin "sorted") [x] kw) Q E s :=
  call_function_entry_kw kind_sorted plain_sorted entry_sorted ok (wpAny_bind (m := checkCount _ _ _ _) (wpAny_pure (wpAny_bind (wpAny_mono h (fun _ _ q => q) fun _ _ e => e))))
end
end GX

namespace L2
open PySem PySem.Spec PyProof.Rows

def dI (m : List (Int × Int)) : List (Key × V) := m.map fun p => (Sum.inl p.1, V.int p.2)
section
variable {X : Cx}
theorem sort_tail {A : Around} {E : Value → Shared → Prop} {prog : Program} {w : World} {s : Shared} {vs : List Value} {ns : List Int} {Q : Value → Shared → Prop} (hi : IntsAre vs ns) (h64 : vs.length < 64) (hz : vs.length ≤ sizeLine)
    (h : ∀ h' out ns' e, (∀ b o, s.heap.get? b = some o → h'.get? b = some o) → h'.get? s.heap.objs.size = some (seqObj "list" out e) → IntsAre out.toList ns' → ns'.Perm ns → ns'.Pairwise (· ≤ ·) → Q (.ref s.heap.objs.size) { s with heap := h' }) :
    wpAny (model prog w) A (do let l ← newList vs; let _ ← holding [l] (call (.builtin "list.sort") [l] []); ret l) (fun fin s' => ∃ v, fin = .done (.ret v) ∧ Q v s') E s := by
  refine wpAny_bind (wpAny_newList ?_ hz)
  have ho : (s.heap.push (seqObj "list" vs.toArray 0)).get? s.heap.objs.size = some (seqObj "list" vs.toArray 0) := Heap.get?_push_size _ rfl
  refine wpAny_bind (wpAny_holding (wpAny_call_entry slot_list_sort ⟨_, ho, rfl⟩ entry_list_sort (list_sort_tree ho hi h64 fun out ns' a1 a2 a3 => ⟨_, rfl, ?_⟩) (args_list_sort _)))
  obtain ⟨e, he⟩ := sortedHeap_at (out := out) ho
  refine wpAny_pure ⟨_, rfl, h _ out ns' e (fun b o q => ?_) he a1 a2 a3⟩
  have l := Heap.lt_size q
  rw [sortedHeap_old (Nat.ne_of_lt l) (by rw [size_push']; exact Nat.lt_succ_of_lt l)]
  exact Heap.get?_push_of_some _ q
theorem Inv.lay_ints {pins : List (Addr × Obj)} {σ : St} {H : Hp} {s : Shared} {h' : Heap} {out : Array Value} {ns : List Int} {e tk : Nat} (I : Inv X pins σ H s) (k : ∀ b o, s.heap.get? b = some o → h'.get? b = some o) (he : h'.get? s.heap.objs.size = some (seqObj "list" out e)) (hi : IntsAre out.toList ns) (hz : ns.length ≤ sizeLine) :
    Inv X pins σ (upd H s.heap.objs.size (.lst (ns.map V.int))) { s with heap := h', toks := tk } :=
  I.laid k (Nat.le_refl _) ⟨by rw [List.length_map]; exact hz, out.toList, e, vals_ints hi, he⟩

end
end L2

namespace L2
open PySem PySem.Spec PyProof.Rows
section
variable {X : Cx}

end
theorem comp_tup {K : PySem.W.Frag} {a : Addr} {xs : List V} {g : TG} {tt : TT} {te : TE} {σ : St} {H : Hp} {D : Addr} {Qe : Hp → Prop} (Pv : Nat → St → Hp → Prop) (h0 : Pv 0 σ H) (hl : ∀ i σ H, i ≤ xs.length → Pv i σ H → SqT K H a xs)
    (hs : ∀ i x σ H, xs[i]? = some x → Pv i σ H → cTurn g tt te D (Pv (i + 1)) x σ H) (hd : ∀ σ H, Pv xs.length σ H → Qe H) :
    ∃ W : Nat → Nat → St → Hp → Prop, (∃ m, W 0 m σ H) ∧ ∀ i m σ' H', W i m σ' H' → ((Itt K a).stop i H' ∧ Qe H') ∨ ((Itt K a).go i H' ∧ ∃ N : St → Hp → Prop, (∀ σ2 H2, N σ2 H2 → ∃ m', m' < m ∧ W (i + 1) m' σ2 H2) ∧
      ∀ x H'', (Itt K a).yld i H' x H'' → cTurn g tt te D N x σ' H'') := by
  refine ⟨fun i m σ H => m = xs.length - i ∧ i ≤ xs.length ∧ Pv i σ H, ⟨xs.length, by simp, Nat.zero_le _, h0⟩, ?_⟩
  rintro i m σ H ⟨rfl, hi, p⟩
  have q := hl i σ H hi p
  by_cases hlt : i < xs.length
  · refine .inr ⟨⟨xs, xs[i], q, by simp [hlt]⟩, Pv (i + 1), fun σ' H' p' => ⟨xs.length - (i + 1), by omega, rfl, hlt, p'⟩, fun x H' y => ?_⟩
    obtain ⟨e, y⟩ := y
    subst e
    exact hs i x σ _ (y xs q) p
  · have e : i = xs.length := by omega
    subst e
    exact .inl ⟨⟨xs, q, Nat.le_refl _⟩, hd σ H p⟩


theorem KV.get {kvs : List (Key × V)} {vs : List (Key × Value)} : ∀ {i : Nat} {k : Key} {v : V}, KV kvs vs → kvs[i]? = some (k, v) → ∃ u, vs[i]? = some (k, u) ∧ RelV v u := by
  intro i k v r
  induction r generalizing i with
  | nil => intro e; simp at e
  | cons r1 r2 ih =>
    rename_i p q _ _
    intro e
    cases i with
    | zero =>
      have e' : p = (k, v) := Option.some.inj e
      subst e'
      obtain ⟨k', u⟩ := q
      have ek : k = k' := r1.1
      subst ek
      exact ⟨u, rfl, r1.2⟩
    | succ i => exact ih e
theorem Inv.turnLay {X : Cx} {pins : List (Addr × Obj)} {σ : St} {H : Hp} {s : Shared} {h' : Heap} {it a : Addr} {o : HO} (I : Inv X pins σ H s) (k : ∀ b o, b ≠ it → s.heap.get? b = some o → h'.get? b = some o) (hf : FpOk X pins H it) (hio : ∃ o, h'.get? it = some o) (ha : s.heap.objs.size ≤ a) (hai : a ≠ it)
    (new : ObjOk X.prog X.w (upd H a o) h' a o) : Inv X pins σ (upd H a o) { s with heap := h' } := by
  obtain ⟨f0, f1, f2, f3, f4, f5⟩ := hf
  have hn : H a = none := I.hok.fresh ha
  have nea : ∀ b ob, s.heap.get? b = some ob → b ≠ a := fun b ob e z => by
    have := Heap.lt_size e
    rw [z] at this
    exact absurd (Nat.lt_of_lt_of_le this ha) (Nat.lt_irrefl _)
  have nit : ∀ b u, H b = some u → b ≠ it := fun b u e z => by rw [z, f0] at e; cases e
  refine I.step (g' := s.gens) (d' := s.drawn) (t' := s.toks) (ch := [it]) (fun b hb => ?_) (fun b o _ _ hc e _ => k b o (fun z => hc (by simp [z])) e) (fun b o _ _ hc e _ => ⟨o.slots, k b o (fun z => hc (by simp [z])) e⟩) (fun b ob _ e n => by rw [upd_ne (nea b ob e)]; exact n)
    (fun b o hc e => ⟨o, k b o (fun z => hc (by simp [z])) e⟩) (fun b xs e => by rw [upd_ne (ne_of_none e hn)]; exact e) (fun b o u e => by rw [upd_ne (ne_of_none e hn)]; exact e) (fun b ps e => ⟨#[], by rw [upd_ne (ne_of_none e hn), e]; simp⟩) (fun m hm => ?_) (fun b u e => ?_) I.bare
  · have e : b = it := by simpa using hb
    subst e
    exact ⟨f3, f1, f4, f5⟩
  · obtain ⟨ob, es, ep, ho, r⟩ := hm
    exact ⟨ob, es, ep, k _ ob (Ne.symm f1) ho, r⟩
  · by_cases hb : b = a
    · subst hb
      rw [upd_same] at e
      cases e
      exact new
    · rw [upd_ne hb] at e
      refine (I.hok b u e).stay (fun c v hc q => k c v ?_ q) (fun c q => by rw [upd_ne (ne_of_none q hn)]; exact q) fun c xs q => by rw [upd_ne (ne_of_none q hn)]; exact q
      rcases hc with z | z
      · rw [z]; exact nit b u e
      · exact nit c _ z
section
variable {X : Cx}
end
end L2

set_option Elab.async false
set_option linter.all false
set_option maxRecDepth 100000
namespace GX
open PySem PyProof.Rows

end GX

set_option Elab.async false
set_option linter.all false
set_option maxRecDepth 100000
namespace GX
open PySem PyProof.Rows
section
variable {prog : Program} {w : World} {A : Around} {E : Value → Shared → Prop} {s : Shared}

end
end GX

set_option Elab.async false
set_option linter.all false
set_option maxRecDepth 100000
namespace GX
open PySem PyProof.Rows
section
variable {prog : Program} {w : World} {A : Around} {E : Value → Shared → Prop} {s : Shared}
end
end GX

set_option Elab.async false
set_option linter.all false
set_option maxRecDepth 100000
namespace GX
open PySem PyProof.Rows
section
variable {prog : Program} {w : World} {A : Around} {E : Value → Shared → Prop} {s : Shared}

end
end GX
namespace GX
open PySem PyProof.Rows
section
variable {prog : Program} {w : World} {A : Around} {E : Value → Shared → Prop} {s : Shared}

variable {I a : Addr} {o : Obj} {es : Array (Int × Value)} {ep : Nat} {t : SetTable} {i : Nat}
end
end GX

set_option Elab.async false
set_option linter.all false
set_option maxRecDepth 100000
namespace GX
open PySem PyProof.Rows
section
variable {prog : Program} {w : World} {A : Around} {E : Value → Shared → Prop} {s : Shared} {I a : Addr} {o : Obj} {es : Array (Int × Value)} {ep : Nat} {t : SetTable}
end
end GX

set_option Elab.async false
set_option linter.all false
set_option maxRecDepth 100000
namespace GX
open PySem PyProof.Rows
theorem perm_of_nd {α : Type} [DecidableEq α] : ∀ {l m : List α}, l.Nodup → (∀ x ∈ l, x ∈ m) → m.length ≤ l.length → m.Perm l
  | [], m, _, _, h => by
    have e : m = [] := List.eq_nil_of_length_eq_zero (Nat.le_zero.mp h)
    rw [e]
  | x :: l, m, nd, sub, h => by
    rw [List.nodup_cons] at nd
    have hx := sub x List.mem_cons_self
    have pm := List.perm_cons_erase hx
    refine pm.trans (List.Perm.cons x (perm_of_nd nd.2 (fun y hy => ?_) ?_))
    · have hy' := sub y (List.mem_cons_of_mem _ hy)
      exact (List.mem_erase_of_ne (show y ≠ x from fun z => nd.1 (z ▸ hy))).mpr hy'
    · have := pm.length_eq
      rw [List.length_cons] at this h
      omega
section
variable {prog : Program} {w : World} {A : Around} {E : Value → Shared → Prop} {s : Shared} {a : Addr} {o : Obj} {es : Array (Int × Value)} {ep : Nat} {t : SetTable}

end
end GX

set_option Elab.async false
set_option linter.all false
set_option maxRecDepth 100000
namespace L2
open PySem PySem.Spec PyProof.Rows

section
variable {X : Cx}
end
end L2

set_option Elab.async false
set_option linter.all false
set_option maxRecDepth 100000
namespace GX
open PySem PyProof.Rows
section
variable {prog : Program} {w : World} {A : Around} {E : Value → Shared → Prop} {s : Shared} {I : Addr} {fp wr : List Addr} {N : Nat} {P : Nat → Value → Prop} {St : Nat → Heap → Prop}
end
end GX
namespace L2
open PySem PySem.Spec PyProof.Rows
section
variable {X : Cx}

end
end L2

set_option Elab.async false
set_option linter.all false
set_option maxRecDepth 100000
namespace L2
open PySem PySem.Spec PyProof.Rows
section
variable {X : Cx}

theorem Inv.thaw {pins : List (Addr × Obj)} {σ : St} {H : Hp} {s : Shared} {a : Addr} {o : Obj} {kvs : List (Key × V)} (I : Inv X pins σ H s) (h : H a = some (.frz o (.dK kvs))) (n1 : ∀ xs, X.H₀ a ≠ some (.tup xs)) (n2 : ∀ o u, X.H₀ a ≠ some (.frz o u)) (n3 : ∀ ps, X.H₀ a ≠ some (.tbl ps)) : Inv X pins σ (upd H a (.dK kvs)) s := by
  have ne : ∀ b, H b = none → b ≠ a := fun b q z => by rw [z, h] at q; cases q
  have b := I.base
  refine ⟨I.ok, I.os, I.bare, ⟨b.keep, b.slot, fun c oc e n x => ?_, b.there, fun c xs e => ?_, fun c oc u e => ?_, fun c ps e => ?_⟩, I.loc, I.cell, by rw [upd_ne (ne _ I.free)]; exact I.free, fun x c z => by rw [upd_ne (ne _ (I.freeC x c z))]; exact I.freeC x c z,
    fun p hp => let ⟨p1, p2, p3⟩ := I.pin p hp; ⟨p1, by rw [upd_ne (ne _ p2)]; exact p2, p3⟩, fun c u e => ?_, I.len⟩
  · have q := b.free c oc e n x
    rw [upd_ne (ne _ q)]
    exact q
  · have nc : c ≠ a := fun z => n1 _ (z ▸ e)
    rw [upd_ne nc]
    exact b.tups c xs e
  · have nc : c ≠ a := fun z => n2 _ _ (z ▸ e)
    rw [upd_ne nc]
    exact b.frzs c oc u e
  · have nc : c ≠ a := fun z => n3 _ (z ▸ e)
    rw [upd_ne nc]
    exact b.tbls c ps e
  · by_cases hc : c = a
    · subst hc
      rw [upd_same] at e
      cases e
      exact (I.hok c _ h).2
    · rw [upd_ne hc] at e
      refine (I.hok c u e).stay (fun _ _ _ q => q) (fun d q => ?_) fun d xs q => ?_
      · rw [upd_ne (fun z => by rw [z, h] at q; cases q)]
        exact q
      · rw [upd_ne (fun z => by rw [z, h] at q; cases q)]
        exact q

def tThaw (t : TS) : TS := fun D σ H => ∃ a kvs, H a = some (.dK kvs) ∧ t { D with nx := fun σ' H' => (∃ o, H' a = some (.frz o (.dK kvs))) ∧ D.nx σ' (upd H' a (.dK kvs)), rt := fun v H' => (∃ o, H' a = some (.frz o (.dK kvs))) ∧ D.rt v (upd H' a (.dK kvs)) } σ H
theorem ps_thaw {st : Stmt} {t : TS} (h : PS X st t) : PS X st (tThaw t) := by
  intro pins s σ H D I hw
  obtain ⟨a, kvs, ha, ht⟩ := hw
  have n1 : ∀ xs, X.H₀ a ≠ some (.tup xs) := fun xs e => by have := I.base.tups a xs e; rw [ha] at this; cases this
  have n2 : ∀ o u, X.H₀ a ≠ some (.frz o u) := fun o u e => by have := I.base.frzs a o u e; rw [ha] at this; cases this
  have n3 : ∀ ps, X.H₀ a ≠ some (.tbl ps) := fun ps e => by obtain ⟨m, q⟩ := I.base.tbls a ps e; rw [ha] at q; cases q
  refine thn (h pins s σ H _ I ht) fun f s1 q => ?_
  cases f with
  | next =>
    obtain ⟨σ', H', I', ⟨o, e⟩, n⟩ := q
    exact ⟨σ', _, I'.thaw e n1 n2 n3, n⟩
  | brk => exact q
  | cont => exact q
  | ret u =>
    obtain ⟨v, σ', H', I', r, ⟨o, e⟩, n⟩ := q
    exact ⟨v, σ', _, I'.thaw e n1 n2 n3, r, n⟩
end
end L2

set_option Elab.async false
set_option linter.all false
set_option maxRecDepth 100000
namespace L2
open PySem PySem.Spec PyProof.Rows

mutual
inductive Dp (K : PySem.W.Frag) (H : Hp) : V → PyData → Prop
  | none : Dp K H .non .none
  | bool (b : Bool) : Dp K H (.bl b) (.bool b)
  | int (i : Int) : Dp K H (.int i) (.int i)
  | str (x : Str) : Dp K H (.str x) (.str x)
  | tup {a : Addr} {xs : List V} {ds : List PyData} : SqT K H a xs → Dps K H xs ds → Dp K H (.ref a) (.tuple ds)
inductive Dps (K : PySem.W.Frag) (H : Hp) : List V → List PyData → Prop
  | nil : Dps K H [] []
  | cons {x : V} {xs : List V} {d : PyData} {ds : List PyData} : Dp K H x d → Dps K H xs ds → Dps K H (x :: xs) (d :: ds)
end
section
variable {X : Cx} {pins : List (Addr × Obj)} {σ : St} {H : Hp} {s : Shared}
mutual
theorem Dp.reads (I : Inv X pins σ H s) : ∀ {x : V} {d : PyData} {u : Value}, Dp X.K H x d → RelV x u → ∃ as, Reads s.heap u d as
  | _, _, _, .none, r => by cases r; exact ⟨_, .none⟩
  | _, _, _, .bool b, r => by cases r; exact ⟨_, .bool b⟩
  | _, _, _, .int i, r => by obtain ⟨t, rfl⟩ := r; exact ⟨_, .int i t⟩
  | _, _, _, .str z, r => by obtain ⟨t, rfl⟩ := r; exact ⟨_, .str z t⟩
  | _, _, _, .tup h t, r => by
    cases r
    obtain ⟨its, rv, ⟨o, e, c, n, dd⟩, _⟩ := I.tuple h
    obtain ⟨as, q⟩ := Dps.reads I t rv
    exact ⟨_, .tuple e c dd (by simpa using q)⟩
theorem Dps.reads (I : Inv X pins σ H s) : ∀ {xs : List V} {ds : List PyData} {us : List Value}, Dps X.K H xs ds → Vals xs us → ∃ as, ReadsAll s.heap us ds as
  | _, _, _, .nil, r => by cases r; exact ⟨_, .nil⟩
  | _, _, _, .cons h t, r => by
    cases r with
    | cons r1 r2 =>
      obtain ⟨as, q⟩ := Dp.reads I h r1
      obtain ⟨bs, q2⟩ := Dps.reads I t r2
      exact ⟨_, .cons q q2⟩
end

def Dl (K : PySem.W.Frag) (H : Hp) (x : V) (d : PyData) : Prop := Dp K H x d ∨ ∃ a xs ds, x = .ref a ∧ d = .list ds ∧ SqL K H a xs ∧ Dps K H xs ds
theorem Dl.reads (I : Inv X pins σ H s) {x : V} {d : PyData} {u : Value} (h : Dl X.K H x d) (r : RelV x u) : ∃ as, Reads s.heap u d as := by
  rcases h with h | ⟨a, xs, ds, rfl, rfl, h, t⟩
  · exact Dp.reads I h r
  · cases r
    obtain ⟨its, rv, ⟨o, n, e, c, _, dd⟩, _⟩ := I.list h
    obtain ⟨as, q⟩ := Dps.reads I t rv
    exact ⟨_, .list e c dd (by simpa using q)⟩

def rEqP (K : PySem.W.Frag) : R2 := fun x y H Q => ∃ d e, Dl K H x d ∧ Dl K H y e ∧ d.canLay0 = true ∧ e.canLay0 = true ∧ min d.depth e.depth ≤ 60 ∧ Q (.bl (d.eqv e)) H
def rNeP (K : PySem.W.Frag) : R2 := fun x y H Q => ∃ d e, Dl K H x d ∧ Dl K H y e ∧ d.canLay0 = true ∧ e.canLay0 = true ∧ min d.depth e.depth ≤ 60 ∧ Q (.bl (!d.eqv e)) H
theorem op_eqDl (hu : X.A.units + 64 < cLine) : OpR X (compareOp .Eq) (rEqP X.K) := by
  intro pins s σ H x y v u Q I rx ry h
  obtain ⟨d, e, h1, h2, c1, c2, dp, q⟩ := h
  obtain ⟨as, r1⟩ := h1.reads I rx
  obtain ⟨bs, r2⟩ := h2.reads I ry
  exact SeqAt.compareEq_reads r1 r2 c1 c2 (by omega) ⟨.bl _, H, I, rfl, q⟩
theorem op_neDl (hu : X.A.units + 64 < cLine) : OpR X (compareOp .NotEq) (rNeP X.K) := by
  intro pins s σ H x y v u Q I rx ry h
  obtain ⟨d, e, h1, h2, c1, c2, dp, q⟩ := h
  obtain ⟨as, r1⟩ := h1.reads I rx
  obtain ⟨bs, r2⟩ := h2.reads I ry
  exact SeqAt.compareNe_reads r1 r2 c1 c2 (by omega) ⟨.bl _, H, I, rfl, q⟩

def rInP (K : PySem.W.Frag) (neg : Bool) : R2 := fun x y H Q => ∃ a xs ds d, y = .ref a ∧ (SqL K H a xs ∨ SqT K H a xs) ∧ Dps K H xs ds ∧ Dp K H x d ∧ PyData.canLayAll0 ds = true ∧ d.canLay0 = true ∧ d.depth ≤ 60 ∧ Q (.bl (if neg then !(ds.any fun z => z.eqv d) else ds.any fun z => z.eqv d)) H
theorem op_inP (hu : X.A.units + 64 < cLine) : OpR X (compareOp .In) (rInP X.K false) := by
  intro pins s σ H x y v u Q I rx ry h
  obtain ⟨a, xs, ds, d, rfl, hs, hd, hx, c1, c2, dp, q⟩ := h
  obtain ⟨bs, r2⟩ := hx.reads I rx
  cases ry
  rcases hs with hs | hs
  · obtain ⟨as, r1⟩ := Dl.reads I (x := .ref a) (u := .ref a) (.inr ⟨a, xs, ds, rfl, rfl, hs, hd⟩) rfl
    exact SeqAt.in_list_reads r1 r2 c1 c2 (by omega) ⟨.bl _, H, I, rfl, q⟩
  · obtain ⟨as, r1⟩ := Dp.reads I (x := .ref a) (u := .ref a) (.tup hs hd) rfl
    exact SeqAt.in_tuple_reads r1 r2 c1 c2 (by omega) ⟨.bl _, H, I, rfl, q⟩
theorem op_notinP (hu : X.A.units + 64 < cLine) : OpR X (compareOp .NotIn) (rInP X.K true) := by
  intro pins s σ H x y v u Q I rx ry h
  obtain ⟨a, xs, ds, d, rfl, hs, hd, hx, c1, c2, dp, q⟩ := h
  obtain ⟨bs, r2⟩ := hx.reads I rx
  cases ry
  rcases hs with hs | hs
  · obtain ⟨as, r1⟩ := Dl.reads I (x := .ref a) (u := .ref a) (.inr ⟨a, xs, ds, rfl, rfl, hs, hd⟩) rfl
    exact SeqAt.notIn_list_reads r1 r2 c1 c2 (by omega) ⟨.bl _, H, I, rfl, q⟩
  · obtain ⟨as, r1⟩ := Dp.reads I (x := .ref a) (u := .ref a) (.tup hs hd) rfl
    exact SeqAt.notIn_tuple_reads r1 r2 c1 c2 (by omega) ⟨.bl _, H, I, rfl, q⟩
end
theorem rEqP_refl {K : PySem.W.Frag} {x y : V} {H : Hp} {Q : VK} {d : PyData} (h1 : Dl K H x d) (h2 : Dl K H y d) (c : d.canLay0 = true) (dp : d.depth ≤ 60) (q : Q (.bl true) H) : rEqP K x y H Q :=
  ⟨d, d, h1, h2, c, c, by omega, by rw [SeqAt.eqv_refl d c]; exact q⟩
theorem rNeP_refl {K : PySem.W.Frag} {x y : V} {H : Hp} {Q : VK} {d : PyData} (h1 : Dl K H x d) (h2 : Dl K H y d) (c : d.canLay0 = true) (dp : d.depth ≤ 60) (q : Q (.bl false) H) : rNeP K x y H Q :=
  ⟨d, d, h1, h2, c, c, by omega, by rw [SeqAt.eqv_refl d c]; exact q⟩
end L2

set_option Elab.async false
set_option linter.all false
set_option maxRecDepth 100000
namespace L2
open PySem PySem.Spec PyProof.Rows
theorem same_upd {H : Hp} {l : Addr} {o : HO} (h : H l = none) : Same H (upd H l o) := fun b u e => by rw [upd_ne (ne_of_none e h)]; exact e

def But (d : Addr) (H H' : Hp) : Prop := ∀ b, b ≠ d → H' b = H b
theorem But.upd {d : Addr} {H : Hp} {o : HO} : But d H (L2.upd H d o) := fun b h => upd_ne h
theorem But.same {d : Addr} {B H H' : Hp} (e : But d H H') (s : Same B H) (h : B d = none) : Same B H' := fun b o hb => by rw [e b (ne_of_none hb h)]; exact s b o hb
theorem But.at {d b : Addr} {H H' : Hp} {o : Option HO} (e : But d H H') (n : b ≠ d) (h : H b = o) : H' b = o := by rw [e b n]; exact h
def nwT (xs : List V) (H : Hp) (Q : VK) : Prop := xs.length ≤ sizeLine ∧ ∀ p, H p = none → Q (.ref p) (upd H p (.tup xs))
def nwL (xs : List V) (H : Hp) (Q : VK) : Prop := xs.length ≤ sizeLine ∧ ∀ p, H p = none → Q (.ref p) (upd H p (.lst xs))
section
variable {D : Ends} {σ : St} {H : Hp} {Q : VK} {K : PySem.W.Frag}
theorem x_seq {t u : TS} (h : t { D with nx := u D } σ H) : tSeq t u D σ H := h
theorem x_seqA {te : TE} {g : TG} {u : TS} (h : te σ H fun x H1 => g x σ H1 (u D)) : tSeq (tAsg te g) u D σ H := h
theorem x_seqD {te : TE} {u : TS} (h : te σ H fun _ H1 => u D σ H1) : tSeq (tDrop te) u D σ H := h
theorem x_seqF {wi : TI} {g : TG} {tb u : TS} (h : tFor wi g tb { D with nx := u D } σ H) : tSeq (tFor wi g tb) u D σ H := h
theorem x_seqM {ta tv : TE} {f : Str} {u : TS} (h : sFld K ta tv f { D with nx := u D } σ H) : tSeq (sFld K ta tv f) u D σ H := h
theorem x_seqG {c : TT} {te : TE} {u : TS} (h : c σ H fun b H1 => if b = true then te σ H1 D.rt else u D σ H1) : tSeq (tIfS c (tRet te) tNext) u D σ H := h

theorem x_cut (I : St → Hp → Prop) {t u : TS} (h2 : ∀ σ' H', I σ' H' → u D σ' H') (h : ∀ N : St → Hp → Prop, (∀ σ' H', I σ' H' → N σ' H') → t { D with nx := N } σ H) : tSeq t u D σ H := h _ h2
theorem x_next (h : D.nx σ H) : tNext D σ H := h
theorem x_ret {te : TE} (h : te σ H D.rt) : tRet te D σ H := h
theorem x_drop {te : TE} (h : te σ H fun _ H1 => D.nx σ H1) : tDrop te D σ H := h
theorem x_asg {te : TE} {g : TG} (h : te σ H fun x H1 => g x σ H1 D.nx) : tAsg te g D σ H := h
theorem x_ifs {c : TT} {t u : TS} (h : c σ H fun b H1 => if b = true then t D σ H1 else u D σ H1) : tIfS c t u D σ H := h
theorem x_name {i : Nat} {v : V} {R : St → Hp → Prop} (h : R (σ.set i (some v)) H) : gName i v σ H R := h
theorem x_gnil {R : St → Hp → Prop} (h : R σ H) : gNil [] σ H R := ⟨rfl, h⟩
theorem x_gcons {t : TG} {u : TGs} {v : V} {r : List V} {R : St → Hp → Prop} (h : t v σ H fun σ' H' => u r σ' H' R) : gCons t u (v :: r) σ H R := ⟨v, r, rfl, h⟩
theorem x_gtup {n : Nat} {t : TGs} {a : Addr} {xs : List V} {R : St → Hp → Prop} (h1 : SqT K H a xs) (h2 : xs.length = n) (h : t xs σ H R) : gTup K n t (.ref a) σ H R := ⟨a, xs, rfl, h1, h2, h⟩
theorem x_var {i : Nat} {v : V} (h1 : σ[i]? = some (some v)) (h : Q v H) : tVar i σ H Q := ⟨v, h1, h⟩
theorem x_c {v : V} (h : Q v H) : tC v σ H Q := h
theorem x_op {r : R2} {ta tb : TE} (h : ta σ H fun x H1 => tb σ H1 fun y H2 => r x y H2 Q) : tOp r ta tb σ H Q := h
theorem x_un {r : V → Hp → VK → Prop} {ta : TE} (h : ta σ H fun x H1 => r x H1 Q) : tUn r ta σ H Q := h
theorem x_I0 {g : Int → Int → V} {i j : Int} (h : Q (g i j) H) : rI0 g (.int i) (.int j) H Q := ⟨i, j, rfl, rfl, h⟩
theorem x_I {C : Int → Int → Prop} {g : Int → Int → V} {i j : Int} (hc : C i j) (h : Q (g i j) H) : rI C g (.int i) (.int j) H Q := ⟨i, j, rfl, rfl, hc, h⟩
theorem x_U {g : Int → V} {i : Int} (h : Q (g i) H) : rU g (.int i) H Q := ⟨i, rfl, h⟩
theorem decI (i j : Int) : decide (V.int i = V.int j) = decide (i = j) := by
  by_cases h : i = j
  · subst h; rw [decide_eq_true rfl, decide_eq_true rfl]
  · rw [decide_eq_false h, decide_eq_false (fun e => h (V.int.inj e))]
theorem x_eqI {i j : Int} (h : Q (.bl (decide (i = j))) H) : rEq (.int i) (.int j) H Q := ⟨rfl, by rw [decI]; exact h⟩
theorem x_neI {i j : Int} (h : Q (.bl (!decide (i = j))) H) : rNe (.int i) (.int j) H Q := ⟨rfl, by rw [decI]; exact h⟩
theorem x_test {t : TE} {R : Bool → Hp → Prop} (h : t σ H fun x H' => ∃ k, x = .bl k ∧ R k H') : tTest t σ H R := h
theorem x_tru {t : TE} {R : Bool → Hp → Prop} (h : t σ H fun x H' => ∃ k, TruV K x H' k ∧ R k H') : tTru K t σ H R := h
theorem x_b {t : TE} {R : Bool → Hp → Prop} (h : t σ H fun x H' => ∃ k, x = .bl k ∧ R k H') : tB t σ H R := h
theorem x_exbl {c : Bool} {P : Bool → Prop} (h : P c) : ∃ k, V.bl c = .bl k ∧ P k := ⟨c, rfl, h⟩
theorem x_extru {c : Bool} {P : Bool → Prop} (h : P c) : ∃ k, TruV K (.bl c) H k ∧ P k := ⟨c, rfl, h⟩
theorem x_and {t u : TT} {R : Bool → Hp → Prop} (h : t σ H fun c H1 => if c = true then u σ H1 R else R false H1) : tAnd t u σ H R := h
theorem x_or {t u : TT} {R : Bool → Hp → Prop} (h : t σ H fun c H1 => if c = true then R true H1 else u σ H1 R) : tOr t u σ H R := h
theorem x_not {t : TT} {R : Bool → Hp → Prop} (h : t σ H fun c H1 => R (!c) H1) : tNot t σ H R := h
theorem x_andV {ta tb : TE} (h : ta σ H fun x H1 => ∃ c, x = .bl c ∧ if c = true then tb σ H1 Q else Q (.bl false) H1) : tAndV ta tb σ H Q := h
theorem x_orV {ta tb : TE} (h : ta σ H fun x H1 => ∃ c, x = .bl c ∧ if c = true then Q (.bl true) H1 else tb σ H1 Q) : tOrV ta tb σ H Q := h
theorem x_ife {t : TT} {ta tb : TE} (h : t σ H fun c H1 => if c = true then ta σ H1 Q else tb σ H1 Q) : tIf t ta tb σ H Q := h
theorem x_nil {R : List V → Hp → Prop} (h : R [] H) : tNil σ H R := h
theorem x_cons {ta : TE} {tr : TA} {R : List V → Hp → Prop} (h : ta σ H fun x H1 => tr σ H1 fun xs H2 => R (x :: xs) H2) : tCons ta tr σ H R := h
theorem x_tup {t : TA} (h : t σ H fun xs H1 => nwT xs H1 Q) : tTup t σ H Q := h
theorem x_lst {t : TA} (h : t σ H fun xs H1 => nwL xs H1 Q) : tLst t σ H Q := h
theorem x_nwT {xs : List V} (hl : xs.length ≤ sizeLine) (h : ∀ p H', H p = none → Same H H' → H' p = some (.tup xs) → Q (.ref p) H') : nwT xs H Q := ⟨hl, fun p hp => h p _ hp (same_upd hp) upd_same⟩
theorem x_nwL {xs : List V} (hl : xs.length ≤ sizeLine) (h : ∀ p H', H p = none → Same H H' → H' p = some (.lst xs) → Q (.ref p) H') : nwL xs H Q := ⟨hl, fun p hp => h p _ hp (same_upd hp) upd_same⟩
theorem x_dnew (h : ∀ p H', H p = none → Same H H' → H' p = some (.dK (dI [])) → Q (.ref p) H') : tDNewK σ H Q := fun p hp => h p _ hp (same_upd hp) upd_same
theorem x_call {sp : Sp} {dvs : List V} {E : XK} {t : TA} (h : t σ H fun vs H1 => sp (vs ++ dvs) H1 Q E) : tCall sp dvs E t σ H Q := h
theorem x_cb {r : List V → Hp → VK → Prop} {t : TA} (h : t σ H fun vs H1 => r vs H1 Q) : tCB r t σ H Q := h
theorem x_sl {r : V → Option Int → Option Int → Hp → VK → Prop} {te : TE} {tl th : TO} (h : te σ H fun x H1 => tl σ H1 fun l H2 => th σ H2 fun u H3 => r x l u H3 Q) : tSl r te tl th σ H Q := h
theorem x_nopart {R : Option Int → Hp → Prop} (h : R none H) : tNoPart σ H R := h
theorem x_part {t : TE} {R : Option Int → Hp → Prop} (h : t σ H fun x H1 => ∃ i, x = .int i ∧ R (some i) H1) : tPart t σ H R := h
theorem x_exint {c : Int} {P : Int → Prop} (h : P c) : ∃ k, V.int c = .int k ∧ P k := ⟨c, rfl, h⟩
theorem x_slL {a : Addr} {xs : List V} {lo hi : Option Int} (h1 : SqL K H a xs) (h : ∀ p H', H p = none → Same H H' → H' p = some (.lst (cutV xs lo hi)) → Q (.ref p) H') : rSlL K (.ref a) lo hi H Q := ⟨a, xs, rfl, h1, fun p hp => h p _ hp (same_upd hp) upd_same⟩
theorem x_ixL {a : Addr} {xs : List V} {i : Int} {v : V} (h1 : SqL K H a xs) (h2 : atI xs i = some v) (h : Q v H) : rIxL K (.ref a) (.int i) H Q := ⟨a, xs, i, v, rfl, rfl, h1, h2, h⟩
theorem x_ixT {a : Addr} {xs : List V} {i : Int} {v : V} (h1 : SqT K H a xs) (h2 : atI xs i = some v) (h : Q v H) : rIxT K (.ref a) (.int i) H Q := ⟨a, xs, i, v, rfl, rfl, h1, h2, h⟩

theorem x_dget {td ty : TE} (h : td σ H fun x H1 => ty σ H1 fun y H2 => ∃ a v, x = .ref a ∧ DGet H2 a y (some v) ∧ Q v H2) : tDGet td ty σ H Q := h
theorem x_dnotin {td ty : TE} (h : ty σ H fun y H1 => td σ H1 fun x H2 => ∃ a o, x = .ref a ∧ DGet H2 a y o ∧ Q (.bl (!o.isSome)) H2) : tDNotIn ty td σ H Q := h
theorem x_dput {td ty tv : TE} (h : tv σ H fun v H1 => td σ H1 fun x H2 => ty σ H2 fun y H3 => ∃ a H4, x = .ref a ∧ DPut H3 a y v H4 ∧ D.nx σ H4) : sDPut td ty tv D σ H := h
theorem x_for {wi : TI} {g : TG} {tb : TS} (h : wi σ H fun J H1 => ∃ W : Nat → Nat → St → Hp → Prop, (∃ m, W 0 m σ H1) ∧ ∀ i m σ H, W i m σ H →
  (J.stop i H ∧ D.nx σ H) ∨ (J.go i H ∧ ∃ N : St → Hp → Prop, (∀ σ' H', N σ' H' → ∃ m', m' < m ∧ W (i + 1) m' σ' H') ∧ ∀ x H', J.yld i H x H' → g x σ H' fun σ2 H2 => tb { D with nx := N, ct := N, bk := D.nx } σ2 H2)) : tFor wi g tb D σ H := h
theorem x_ilist {tl : TE} {R : It → Hp → Prop} (h : tl σ H fun x H1 => ∃ a, x = .ref a ∧ (∃ xs, SqL K H1 a xs) ∧ R (Itl K a) H1) : iList K tl σ H R := h
theorem x_exil {a : Addr} {xs : List V} {P : Addr → Prop} (hd : SqL K H a xs) (h : P a) : ∃ b, V.ref a = .ref b ∧ (∃ xs, SqL K H b xs) ∧ P b := ⟨a, rfl, ⟨xs, hd⟩, h⟩
theorem x_itup {tl : TE} {R : It → Hp → Prop} (h : tl σ H fun x H1 => ∃ a, x = .ref a ∧ (∃ xs, SqT K H1 a xs) ∧ R (Itt K a) H1) : iTup K tl σ H R := h
theorem x_exit {a : Addr} {xs : List V} {P : Addr → Prop} (hd : SqT K H a xs) (h : P a) : ∃ b, V.ref a = .ref b ∧ (∃ xs, SqT K H b xs) ∧ P b := ⟨a, rfl, ⟨xs, hd⟩, h⟩
theorem x_ir1 {ta : TA} {R : It → Hp → Prop} (h : ta σ H fun vs H1 => ∃ j : Int, vs = [.int j] ∧ -(2 ^ 62) ≤ j ∧ j < 2 ^ 62 ∧ R (Itr 0 j.toNat) H1) : iRng1 ta σ H R := h
theorem x_bm {T : String} {r : V → List V → Hp → VK → Prop} {to : TE} {t : TA} (h : to σ H fun x H1 => tyV K T x H1 ∧ t σ H1 fun xs H2 => r x xs H2 Q) : tBM K T r to t σ H Q := h
theorem x_tyl {a : Addr} {xs : List V} {P : Prop} (hd : H a = some (.lst xs)) (h : P) : tyV K "list" (.ref a) H ∧ P := ⟨.inl ⟨rfl, _, SqL.of hd⟩, h⟩
theorem x_append {a : Addr} {xs : List V} {y : V} (hd : H a = some (.lst xs)) (hl : xs.length < sizeLine) (h : ∀ H2, But a H H2 → H2 a = some (.lst (xs ++ [y])) → Q .non H2) : rAppend (.ref a) [y] H Q := ⟨a, xs, y, rfl, rfl, hd, hl, h _ .upd upd_same⟩
theorem x_comp {src : List (Option Nat)} {wi : TI} {g : TG} {tt : TT} {te : TE} (h : wi σ H fun J H1 => ∀ D, H1 D = none → ∃ W : Nat → Nat → St → Hp → Prop, (∃ m, W 0 m (blkSt src σ) (upd H1 D (.lst []))) ∧
  ∀ i m σ' H', W i m σ' H' → (J.stop i H' ∧ Q (.ref D) H') ∨ (J.go i H' ∧ ∃ N : St → Hp → Prop, (∀ σ2 H2, N σ2 H2 → ∃ m', m' < m ∧ W (i + 1) m' σ2 H2) ∧
    ∀ x H'', J.yld i H' x H'' → cTurn g tt te D N x σ' H'')) : tComp src wi g tt te σ H Q := h
end
theorem iteNT {A B : Prop} (h : B) : if (!true) = true then A else B := h
theorem iteNF {A B : Prop} (h : A) : if (!false) = true then A else B := h
end L2

set_option Elab.async false
set_option linter.all false
set_option maxRecDepth 100000
namespace L2
open PySem PySem.Spec PyProof.Rows
section
variable {X : Cx} {K : PySem.W.Frag}
theorem ix_tupK (hK : X.K = K) : IxR X (rIxT K) := by subst hK; exact ix_tup
theorem ix_listK (hK : X.K = K) : IxR X (rIxL K) := by subst hK; exact ix_list
theorem sl_listK (hK : X.K = K) : SlR X (rSlL K) := by subst hK; exact sl_list
theorem op_eqK (hK : X.K = K) (hu : X.A.units + 64 < cLine) : OpR X (compareOp .Eq) (rEqP K) := by subst hK; exact op_eqDl hu
theorem op_neK (hK : X.K = K) (hu : X.A.units + 64 < cLine) : OpR X (compareOp .NotEq) (rNeP K) := by subst hK; exact op_neDl hu
theorem op_ninK (hK : X.K = K) (hu : X.A.units + 64 < cLine) : OpR X (compareOp .NotIn) (rInP K true) := by subst hK; exact op_notinP hu
def rLen (K : PySem.W.Frag) : List V → Hp → VK → Prop := fun xs H Q => ∃ p ys, xs = [.ref p] ∧ (SqL K H p ys ∨ SqT K H p ys) ∧ Q (.int ys.length) H
theorem call_lenK (hK : X.K = K) : CallR X (.builtin "len") (rLen K) := by subst hK; exact call_len_seq
def rTupleOf (K : PySem.W.Frag) : List V → Hp → VK → Prop := fun xs H Q => ∃ p ys, xs = [.ref p] ∧ ((SqL K H p ys ∧ ∀ l, H l = none → Q (.ref l) (upd H l (.tup ys))) ∨ (SqT K H p ys ∧ Q (.ref p) H))
theorem call_tupleK (hK : X.K = K) : CallR X (.type "tuple") (rTupleOf K) := by subst hK; exact call_tuple_of
def rIsI (K : PySem.W.Frag) : List V → Hp → VK → Prop := fun xs H Q => ∃ (x : V) (t : Value) (T : String) (b : Bool), xs = [x, .ty T] ∧ TyOf K H x t ∧ PySem.W.kitOne K t (.type T) = some b ∧ Q (.bl b) H
theorem call_isiK (hK : X.K = K) : CallR X (.builtin "isinstance") (rIsI K) := by subst hK; exact call_isinst
theorem pg_tupK {es : List Expr} {k : Nat} {t : TGs} {n : Nat} {pos : Pos} (hK : X.K = K) (hc : X.calm = true) (h : PGs X es t) (hn : (assignEach es X.env).length = n := by rfl) (hst : (assignEach es X.env).findIdx? (·.1) = none := by rfl) : PG X (.Tuple es k pos) (gTup K n t) := by subst hK; exact pg_tup hc h hn hst
theorem pi_listK {tg l : Expr} {tl : TE} (hK : X.K = K) (hl : PE X l tl) : PI X tg l (iList K tl) := by subst hK; exact pi_list hl
theorem pi_tupK {tg l : Expr} {tl : TE} (hK : X.K = K) (hl : PE X l tl) : PI X tg l (iTup K tl) := by subst hK; exact pi_tup hl
theorem pt_nameK {x : Str} {pos : Pos} {t : TE} (hK : X.K = K) (h : PE X (.Name x pos) t) : PT X (.Name x pos) (tTru K t) := by
  subst hK
  exact pt_truth h fun _ => rfl
theorem pe_appendK {o e : Expr} {to : TE} {t : TA} {apos cpos : Pos} (hK : X.K = K) (h : PE X (.Call (.Attribute o "append" apos) [e] [] cpos) (tBM X.K "list" rAppend to t)) : PE X (.Call (.Attribute o "append" apos) [e] [] cpos) (tBM K "list" rAppend to t) := by subst hK; exact h
end
section
variable {σ : St} {H : Hp} {Q : VK} {K : PySem.W.Frag}
theorem x_rtupL {a : Addr} {xs : List V} (hd : SqL K H a xs) (h : ∀ p H', H p = none → Same H H' → H' p = some (.tup xs) → Q (.ref p) H') : rTupleOf K [.ref a] H Q := ⟨a, xs, rfl, .inl ⟨hd, fun p hp => h p _ hp (same_upd hp) upd_same⟩⟩
end
end L2

set_option Elab.async false
set_option linter.all false
set_option maxRecDepth 100000
namespace L2
open PySem PySem.Spec PyProof.Rows
theorem cut_ints (ns : List Int) (lo hi : Option Int) : ∃ ms : List Int, cutV (ns.map V.int) lo hi = ms.map V.int ∧ ms.length ≤ ns.length := by
  refine ⟨(ns.drop (HT.sIx (ns.map V.int).length 0 lo)).take (HT.sIx (ns.map V.int).length (ns.map V.int).length hi - HT.sIx (ns.map V.int).length 0 lo), ?_, ?_⟩
  · unfold cutV
    rw [List.map_take, List.map_drop]
  · rw [List.length_take, List.length_drop]
    omega
theorem take_get {α : Type} {ls : List α} {i : Nat} {n : α} (h : ls[i]? = some n) : ls.take (i + 1) = ls.take i ++ [n] := by
  rw [List.take_succ, h]
  rfl
theorem int_get {ms : List Int} {i : Nat} {x : V} (h : (ms.map V.int)[i]? = some x) : ∃ n : Int, ms[i]? = some n ∧ x = .int n := by
  rw [List.getElem?_map] at h
  cases e : ms[i]? with
  | none => rw [e] at h; cases h
  | some n => rw [e] at h; exact ⟨n, rfl, (Option.some.inj h).symm⟩
theorem atI_int {α : Type} {xs : List α} {i : Int} {v : α} (h0 : 0 ≤ i) (h : xs[i.toNat]? = some v) : atI xs i = some v := by
  obtain ⟨n, rfl⟩ := Int.eq_ofNat_of_zero_le h0
  exact atI_nat h
def SmH (H H' : Hp) : Prop := ∀ a xs, H a = some (.tup xs) → H' a = some (.tup xs)
theorem SmH.same {H H' : Hp} (e : Same H H') : SmH H H' := fun _ _ h => e _ _ h
theorem SmH.upd {H : Hp} {l : Addr} {o : HO} (h1 : ∀ xs, H l ≠ some (.tup xs)) : SmH H (upd H l o) := fun a xs h => by
  have : a ≠ l := fun e => h1 xs (e ▸ h)
  rw [upd_ne this]; exact h
theorem SmH.lst {H : Hp} {l : Addr} {o : HO} {ys : List V} (h : H l = some (.lst ys)) : SmH H (L2.upd H l o) := .upd (fun _ z => by rw [h] at z; cases z)
section
variable {σ : St} {H : Hp} {Q : VK} {K : PySem.W.Frag} {X : Cx}
theorem x_rlenQ {a : Addr} {xs : List V} (hd : SqL K H a xs ∨ SqT K H a xs) (h : Q (.int xs.length) H) : rLen K [.ref a] H Q := ⟨a, xs, rfl, hd, h⟩
end
theorem x_nonand {P : Prop} (h : P) : V.non = V.non ∧ P := ⟨rfl, h⟩
end L2

set_option Elab.async false
set_option linter.all false
set_option maxRecDepth 100000
namespace L2
open PySem PySem.Spec PyProof.Rows
section
variable {X : Cx} {CX : CXT} {k : Nat} {f C : Addr} {fd : FuncData} {ps : List Str} {sp : Sp} {dvs : List V} {ds : List Value} {E : XK} {x m : Str} {p pos apos : Pos} {e o : Expr} {es : List Expr} {ta : TE} {t : TA}

structure ClsFn (K : PySem.W.Frag) (C : Addr) (m : Str) (f : Addr) : Prop where
  ga : PySem.W.specialIn K (.ref C) "__getattribute__" = some (some (.builtin "type.__getattribute__"))
  rd : PySem.W.readsIn K C (.type "type") = true
  at_ : PySem.W.findCls K (.ref C) (.type "type") m = some (.val (.ref f))
  hd : PySem.W.handedIn (.ref f) = true
  kp : PySem.W.keepIn K (.ref f) = true
theorem pe_clsfn {pl : Sem Bool} (hg : Gl X x) (hm : X.mg x = some (.ref C)) (c : ClsFn X.K C m f) (F : FnOk X.prog X.w X.K X.mg X.base CX0 k f fd ps sp) (hb : Binds X.K fd ps []) (hr : Room k X.A) (ha : PA X (e :: es) t)
    (hdb : (x == ("__debug__" : Str)) = false := by decide)
    (hst : starEach (e :: es) X.env = (false, eval e X.env) :: starEach es X.env := by rfl) (hpl : (backTo pos (starEach es X.env)).any (·.1) = false := by rfl)
    (ht : eval (.Call (.Attribute (.Name x p) m apos) (e :: es) [] pos) X.env = (do
      let ov ← eval (.Name x p) X.env
      standAt apos.atName
      let (f, first) ← holding [ov] (getMethod ov m pl)
      callWith pos f first (backTo pos (starEach (e :: es) X.env)) (backToKw pos (keywordEach [] X.env))) := by rfl) :
    PE X (.Call (.Attribute (.Name x p) m apos) (e :: es) [] pos) (tCall sp [] E0 t) := by
  intro pins s σ H Q I h
  refine PySem.W.methodCall_KW (pl := pl) (thn (pe_glob (v := .ref C) hg hm rfl hdb pins s σ H (fun v H1 => v = .ref C ∧ t σ H1 fun vs H2 => sp (vs ++ []) H2 Q E0) I ⟨rfl, h⟩) fun u s1 ⟨x, H1, I1, rx, ex, q⟩ => ?_) ht
  subst ex
  obtain rfl : u = Value.ref C := rx
  refine PySem.W.method_cls I1.kIn c.ga (PySem.W.cls_value I1.kIn c.rd c.at_ c.hd ?_)
  refine PySem.W.callWith_K (first := []) (h₀ := X.base) I.ok.mod.kin c.kp (thn (ha pos pins _ σ H1 _ (I1.tok _) q) fun us s2 ⟨vs, H2, I2, r, q2⟩ => ⟨I2.kIn, ?_⟩) hst hpl
  exact run_fn (us := us) (vs := vs) F hr hb .nil pass0 I2 r q2

def MOk (P : Program) (w : World) (K : PySem.W.Frag) (mg : Str → Option Value) (base : Heap) (k : Nat) (m : Str) (ms : List (Addr × Sp)) : Prop :=
  ∀ cs ∈ ms, ∃ f fd ps, Cls K cs.1 ∧ Meth K cs.1 m f ∧ FnOk P w K mg base CX0 k f fd ps cs.2 ∧ Binds K fd ps []
theorem MOk.nil {P : Program} {w : World} {K : PySem.W.Frag} {mg : Str → Option Value} {base : Heap} : MOk P w K mg base k m [] := fun _ h => nomatch h
theorem MOk.cons {P : Program} {w : World} {K : PySem.W.Frag} {mg : Str → Option Value} {base : Heap} {ms : List (Addr × Sp)} (c : Cls K C) (hm : Meth K C m f) (F : FnOk P w K mg base CX0 k f fd ps sp) (hb : Binds K fd ps []) (r : MOk P w K mg base k m ms) : MOk P w K mg base k m ((C, sp) :: ms) := by
  intro cs h
  rcases List.mem_cons.mp h with rfl | h
  · exact ⟨f, fd, ps, c, hm, F, hb⟩
  · exact r cs h
def mtS (ms : List (Addr × Sp)) (m : Str) (t : TA) (σ : St) (x : V) (H : Hp) (Q : VK) : Prop :=
  ∃ cs ∈ ms, ∃ a dx fs, x = .ref a ∧ H a = some (.ins cs.1 dx fs) ∧ fs.lookup m = none ∧ t σ H fun vs H2 => cs.2 (x :: (vs ++ [])) H2 Q E0
def tMethS (ms : List (Addr × Sp)) (m : Str) (ta : TE) (t : TA) : TE := fun σ H Q => ta σ H fun x H1 => mtS ms m t σ x H1 Q
theorem pe_methS {pl : Sem Bool} {ms : List (Addr × Sp)} (M : MOk X.prog X.w X.K X.mg X.base k m ms) (he : PE X o ta) (hr : Room k X.A) (ha : PA X (e :: es) t)
    (hst : starEach (e :: es) X.env = (false, eval e X.env) :: starEach es X.env := by rfl) (hpl : (backTo pos (starEach es X.env)).any (·.1) = false := by rfl)
    (ht : eval (.Call (.Attribute o m apos) (e :: es) [] pos) X.env = (do
      let ov ← eval o X.env
      standAt apos.atName
      let (f, first) ← holding [ov] (getMethod ov m pl)
      callWith pos f first (backTo pos (starEach (e :: es) X.env)) (backToKw pos (keywordEach [] X.env))) := by rfl) :
    PE X (.Call (.Attribute o m apos) (e :: es) [] pos) (tMethS ms m ta t) := by
  intro pins s σ H Q I h
  refine PySem.W.methodCall_KW (pl := pl) (thn (he pins s σ H _ I h) fun u s1 ⟨x, H1, I1, rx, cs, hcs, a, dx, fs, ex, ea, l, q⟩ => ?_) ht
  subst ex
  obtain rfl : u = Value.ref a := rx
  obtain ⟨f, fd, ps, c, hm, F, hb⟩ := M cs hcs
  refine getmeth_ok I1 ea c hm l ?_
  refine PySem.W.callWith_K (first := [.ref a]) (h₀ := X.base) I.ok.mod.kin hm.kp (thn (ha pos pins s1 σ H1 _ I1 q) fun us s2 ⟨vs, H2, I2, r, q2⟩ => ⟨I2.kIn, ?_⟩) hst hpl
  exact run_fn (us := .ref a :: us) (vs := .ref a :: vs) F hr hb .nil pass0 I2 (.cons rfl r) q2
theorem pe_methS0 {pl : Sem Bool} {ms : List (Addr × Sp)} (M : MOk X.prog X.w X.K X.mg X.base k m ms) (he : PE X o ta) (hr : Room k X.A)
    (ht : eval (.Call (.Attribute o m apos) [] [] pos) X.env = (do
      let ov ← eval o X.env
      standAt apos.atName
      let (f, first) ← holding [ov] (getMethod ov m pl)
      callWith pos f first (backTo pos (starEach [] X.env)) (backToKw pos (keywordEach [] X.env))) := by rfl) :
    PE X (.Call (.Attribute o m apos) [] [] pos) (tMethS ms m ta tNil) := by
  intro pins s σ H Q I h
  refine PySem.W.methodCall_KW (pl := pl) (thn (he pins s σ H _ I h) fun u s1 ⟨x, H1, I1, rx, cs, hcs, a, dx, fs, ex, ea, l, q⟩ => ?_) ht
  subst ex
  obtain rfl : u = Value.ref a := rx
  obtain ⟨f, fd, ps, c, hm, F, hb⟩ := M cs hcs
  refine getmeth_ok I1 ea c hm l ?_
  exact PySem.W.callWith_K0 (first := [.ref a]) I1.kIn hm.kp (run_fn (us := [.ref a]) (vs := [.ref a]) F hr hb .nil pass0 I1 (.cons rfl .nil) q)
end
section
variable {X : Cx} {K : PySem.W.Frag}
theorem pe_fldK {e : Expr} {ta : TE} {f : Str} {pos : Pos} (hK : X.K = K) (he : PE X e ta) (hb : attributeBase e f X.env (eval e X.env) = eval e X.env) : PE X (.Attribute e f pos) (tFld K ta f) := by subst hK; exact pe_fld he hb
theorem ps_fldK {o value : Expr} {ta tv : TE} {f : Str} {pos pos' : Pos} (hK : X.K = K) (ha : PE X o ta) (hv : PE X value tv) (hs : swapsWith value (some (.Attribute o f pos')) pos.line X.env = pure false) : PS X (.Assign [.Attribute o f pos'] value pos) (sFld K ta tv f) := by subst hK; exact ps_fld ha hv hs
end
section
variable {D : Ends} {σ : St} {H : Hp} {Q : VK} {K : PySem.W.Frag}
def fldK (K : PySem.W.Frag) (f : Str) (x : V) (H : Hp) (Q : VK) : Prop := ∃ a C dx fs v, x = .ref a ∧ H a = some (.ins C dx fs) ∧ Cls K C ∧ NoAttr K C f ∧ fs.lookup f = some v ∧ Q v H
theorem x_fld {ta : TE} {f : Str} (h : ta σ H fun x H1 => fldK K f x H1 Q) : tFld K ta f σ H Q := h
theorem x_fldk {f : Str} {a C dx : Addr} {fs : List (Str × V)} {v : V} (e : H a = some (.ins C dx fs)) (c : Cls K C) (n : NoAttr K C f) (l : fs.lookup f = some v) (h : Q v H) : fldK K f (.ref a) H Q := ⟨a, C, dx, fs, v, rfl, e, c, n, l, h⟩
def sfK (K : PySem.W.Frag) (f : Str) (y x : V) (H : Hp) (R : Hp → Prop) : Prop := ∃ a C dx fs, x = .ref a ∧ H a = some (.ins C dx fs) ∧ Cls K C ∧ NoAttr K C f ∧ fs.length < 1000 ∧ R (upd H a (.ins C dx (putF f y fs)))
theorem x_sfld {ta tv : TE} {f : Str} (h : tv σ H fun y H1 => ta σ H1 fun x H2 => sfK K f y x H2 fun H3 => D.nx σ H3) : sFld K ta tv f D σ H := h
theorem x_sfk {f : Str} {y : V} {a C dx : Addr} {fs : List (Str × V)} {R : Hp → Prop} (e : H a = some (.ins C dx fs)) (c : Cls K C) (n : NoAttr K C f) (hl : fs.length < 1000) (h : ∀ H2, But a H H2 → H2 a = some (.ins C dx (putF f y fs)) → R H2) : sfK K f y (.ref a) H R := ⟨a, C, dx, fs, rfl, e, c, n, hl, h _ .upd upd_same⟩
theorem x_methS {ms : List (Addr × Sp)} {m : Str} {ta : TE} {t : TA} (h : ta σ H fun x H1 => mtS ms m t σ x H1 Q) : tMethS ms m ta t σ H Q := h
theorem x_mtS0 {ms : List (Addr × Sp)} {m : Str} {t : TA} {C a dx : Addr} {sp : Sp} {fs : List (Str × V)} (e : H a = some (.ins C dx fs)) (l : fs.lookup m = none) (h : t σ H fun vs H2 => sp (.ref a :: (vs ++ [])) H2 Q E0) : mtS ((C, sp) :: ms) m t σ (.ref a) H Q :=
  ⟨(C, sp), List.mem_cons_self, a, dx, fs, rfl, e, l, h⟩
def mkK (C : Addr) (sp : Sp) (vs : List V) (H : Hp) (Q : VK) : Prop := ∀ x dx, H x = none → H dx = none → dx ≠ x → sp (.ref x :: (vs ++ [])) (upd (upd H dx (.own x)) x (.ins C dx [])) (fun v H2 => v = .non ∧ Q (.ref x) H2) E0
theorem x_make {C : Addr} {sp : Sp} {t : TA} (h : t σ H fun vs H1 => mkK C sp vs H1 Q) : tMake C sp [] E0 t σ H Q := h
theorem x_mk {C : Addr} {sp : Sp} {vs : List V} (h : ∀ x dx H', H x = none → Same H H' → H' x = some (.ins C dx []) → sp (.ref x :: (vs ++ [])) H' (fun v H2 => v = .non ∧ Q (.ref x) H2) E0) : mkK C sp vs H Q := by
  intro x dx nx ndx nex
  refine h x dx _ nx (fun b o e => ?_) upd_same
  rw [upd_ne (ne_of_none e nx), upd_ne (ne_of_none e ndx)]
  exact e
end
theorem x_nx {f b c : St → Hp → Prop} {r : VK} {σ : St} {H : Hp} (h : f σ H) : Ends.nx ⟨f, r, b, c⟩ σ H := h
theorem x_yes {σ : St} {H : Hp} {R : Bool → Hp → Prop} (h : R true H) : tYes σ H R := h
theorem x_turn {g : TG} {tt : TT} {te : TE} {D : Addr} {N : St → Hp → Prop} {x : V} {σ : St} {H : Hp} (h : g x σ H fun σ2 H2 => tt σ2 H2 fun b H3 => if b = true then te σ2 H3 fun y H4 => ∃ ys, H4 D = some (.lst ys) ∧ ys.length < sizeLine ∧ N σ2 (upd H4 D (.lst (ys ++ [y]))) else N σ2 H3) : cTurn g tt te D N x σ H := h
theorem x_seqN {D : Ends} {σ : St} {H : Hp} {c : TT} {u : TS} (h : c σ H fun b H1 => if b = true then False else u D σ H1) : tSeq (tIfS c tNever tNext) u D σ H := h
end L2

set_option Elab.async false
set_option linter.all false
set_option maxRecDepth 100000
namespace L2
open PySem PySem.Spec PyProof.Rows
def SmB (d : Addr) (B H : Hp) : Prop := ∀ b o, b ≠ d → B b = some o → H b = some o
end L2

set_option Elab.async false
set_option linter.all false
set_option maxRecDepth 100000
namespace L2
open PySem PySem.Spec PyProof.Rows

def dG (m : List (Int × V)) : List (Key × V) := m.map fun p => (Sum.inl p.1, p.2)
theorem dG_len (m : List (Int × V)) : (dG m).length = m.length := List.length_map ..
def lkG : List (Int × V) → Int → Option V
  | [], _ => none
  | p :: m, k => if p.1 = k then some p.2 else lkG m k
theorem dG_val : ∀ (m : List (Int × V)) (k : Int), valV (dG m) (Sum.inl k : Key) = lkG m k
  | [], _ => rfl
  | p :: m, k => by
    show valV ((Sum.inl p.1, p.2) :: dG m) (Sum.inl k) = _
    unfold lkG
    by_cases e : p.1 = k
    · rw [if_pos e, valV_pos (by rw [e])]
    · rw [if_neg e, valV_neg (fun z => e (Sum.inl.inj z)), dG_val m k]
def putG : List (Int × V) → Int → V → List (Int × V)
  | [], k, v => [(k, v)]
  | p :: m, k, v => if p.1 = k then (p.1, v) :: m else p :: putG m k v
theorem lkg_put : ∀ (m : List (Int × V)) (k : Int) (v : V) (j : Int), lkG (putG m k v) j = if j = k then some v else lkG m j
  | [], k, v, j => by
    show (if k = j then some v else none) = _
    by_cases e : j = k
    · rw [if_pos e, if_pos e.symm]
    · rw [if_neg e, if_neg (fun z => e z.symm)]
      rfl
  | p :: m, k, v, j => by
    show lkG (if p.1 = k then (p.1, v) :: m else p :: putG m k v) j = if j = k then some v else (if p.1 = j then some p.2 else lkG m j)
    by_cases e : p.1 = k
    · rw [if_pos e]
      show (if p.1 = j then some v else lkG m j) = _
      by_cases e2 : j = k
      · rw [if_pos e2, if_pos (e.trans e2.symm)]
      · rw [if_neg e2, if_neg (fun z => e2 (z.symm.trans e)), if_neg (fun z => e2 (z.symm.trans e))]
    · rw [if_neg e]
      show (if p.1 = j then some p.2 else lkG (putG m k v) j) = _
      rw [lkg_put m k v j]
      by_cases e2 : j = k
      · rw [if_pos e2, if_neg (fun z => e (z.trans e2)), if_pos e2]
      · rw [if_neg e2, if_neg e2]
theorem putg_keys : ∀ (m : List (Int × V)) (k : Int) (v : V) (x : Int), x ∈ (putG m k v).map (·.1) ↔ x = k ∨ x ∈ m.map (·.1)
  | [], k, v, x => by simp [putG]
  | p :: m, k, v, x => by
    show x ∈ (if p.1 = k then (p.1, v) :: m else p :: putG m k v).map (·.1) ↔ _
    by_cases e : p.1 = k
    · rw [if_pos e]
      simp only [List.map_cons, List.mem_cons]
      constructor
      · exact fun h => .inr h
      · rintro (h | h)
        · exact .inl (h.trans e.symm)
        · exact h
    · rw [if_neg e]
      simp only [List.map_cons, List.mem_cons]
      have := putg_keys m k v x
      constructor
      · rintro (h | h)
        · exact .inr (.inl h)
        · rcases this.mp h with h | h
          · exact .inl h
          · exact .inr (.inr h)
      · rintro (h | h | h)
        · exact .inr (this.mpr (.inl h))
        · exact .inl h
        · exact .inr (this.mpr (.inr h))
theorem putg_nd : ∀ (m : List (Int × V)) (k : Int) (v : V), (m.map (·.1)).Nodup → ((putG m k v).map (·.1)).Nodup
  | [], k, v, _ => by simp [putG]
  | p :: m, k, v, h => by
    show ((if p.1 = k then (p.1, v) :: m else p :: putG m k v).map (·.1)).Nodup
    rw [List.map_cons, List.nodup_cons] at h
    by_cases e : p.1 = k
    · rw [if_pos e, List.map_cons, List.nodup_cons]
      exact h
    · rw [if_neg e, List.map_cons, List.nodup_cons]
      refine ⟨fun z => ?_, putg_nd m k v h.2⟩
      rcases (putg_keys m k v p.1).mp z with z | z
      · exact e z
      · exact h.1 z
theorem dG_any (k : Int) : ∀ m : List (Int × V), ((dG m).any fun kv => decide (kv.1 = (Sum.inl k : Key))) = m.any fun p => decide (p.1 = k)
  | [] => rfl
  | p :: m => by
    show (decide ((Sum.inl p.1 : Key) = Sum.inl k) || (dG m).any _) = (decide (p.1 = k) || m.any _)
    rw [dG_any k m]
    congr 1
    rw [decide_eq_decide]
    exact ⟨fun h => Sum.inl.inj h, fun h => congrArg _ h⟩
theorem putg_new : ∀ (m : List (Int × V)) (k : Int) (v : V), (m.any fun p => decide (p.1 = k)) = false → putG m k v = m ++ [(k, v)]
  | [], _, _, _ => rfl
  | p :: m, k, v, h => by
    rw [List.any_cons, Bool.or_eq_false_iff] at h
    show (if p.1 = k then (p.1, v) :: m else p :: putG m k v) = _
    rw [if_neg (of_decide_eq_false h.1), putg_new m k v h.2]
    rfl
theorem putg_old : ∀ (m : List (Int × V)) (k : Int) (v : V), (m.map (·.1)).Nodup → (m.any fun p => decide (p.1 = k)) = true → putG m k v = m.map fun p => if p.1 = k then (p.1, v) else p
  | [], _, _, _, h => by cases h
  | p :: m, k, v, nd, h => by
    rw [List.map_cons, List.nodup_cons] at nd
    show (if p.1 = k then (p.1, v) :: m else p :: putG m k v) = (if p.1 = k then (p.1, v) else p) :: m.map _
    by_cases e : p.1 = k
    · rw [if_pos e, if_pos e]
      congr 1
      have : m.map (fun p => if p.1 = k then (p.1, v) else p) = m.map id := List.map_congr_left fun q hq => by
        rw [if_neg (fun z => nd.1 (by rw [e, ← z]; exact List.mem_map_of_mem hq))]
        rfl
      rw [this, List.map_id]
    · rw [if_neg e, if_neg e, putg_old m k v nd.2 (by
        rw [List.any_cons, decide_eq_false e, Bool.false_or] at h
        exact h)]
theorem dG_put (m : List (Int × V)) (k : Int) (v : V) (nd : (m.map (·.1)).Nodup) : putK (dG m) (Sum.inl k : Key) (v) = dG (putG m k v) := by
  unfold putK
  rw [dG_any]
  cases e : m.any fun p => decide (p.1 = k) with
  | false =>
    rw [putg_new m k v e]
    unfold dG
    rw [List.map_append]
    rfl
  | true =>
    rw [putg_old m k v nd e]
    unfold dG
    rw [List.map_map, if_pos rfl, List.map_map]
    apply List.map_congr_left
    intro p _
    show (if (Sum.inl p.1 : Key) = Sum.inl k then ((Sum.inl p.1 : Key), v) else (Sum.inl p.1, p.2)) = ((Sum.inl (if p.1 = k then (p.1, v) else p).1 : Key), (if p.1 = k then (p.1, v) else p).2)
    by_cases z : p.1 = k
    · rw [if_pos (congrArg _ z), if_pos z]
    · rw [if_neg (fun q => z (Sum.inl.inj q)), if_neg z]
theorem lkg_mem : ∀ {m : List (Int × V)} {k : Int} {v : V}, lkG m k = some v → (k, v) ∈ m
  | [], _, _, h => by cases h
  | p :: m, k, v, h => by
    have h' : (if p.1 = k then some p.2 else lkG m k) = some v := h
    by_cases e : p.1 = k
    · rw [if_pos e] at h'
      have : p = (k, v) := by rw [← e, ← Option.some.inj h']
      rw [this]
      exact List.mem_cons_self
    · rw [if_neg e] at h'
      exact List.mem_cons_of_mem _ (lkg_mem h')
theorem lkg_none {m : List (Int × V)} {k : Int} (h : k ∉ m.map (·.1)) : lkG m k = none := by
  cases e : lkG m k with
  | none => rfl
  | some v => exact absurd (List.mem_map_of_mem (f := (·.1)) (lkg_mem e)) h
section
variable {X : Cx}
theorem paired_get {α β : Type} {R : α → β → Prop} : ∀ {xs : List α} {ys : List β}, xs.length = ys.length → (∀ (i : Nat) x y, xs[i]? = some x → ys[i]? = some y → R x y) → Paired R xs ys
  | [], [], _, _ => .nil
  | [], _ :: _, h, _ => by cases h
  | _ :: _, [], h, _ => by cases h
  | x :: xs, y :: ys, h, k => .cons (k 0 x y rfl rfl) (paired_get (Nat.succ.inj h) fun i a b ha hb => k (i + 1) a b (by simpa using ha) (by simpa using hb))

theorem call_rangeT : CallR X (.type "range") (fun xs H Q => ∃ j : Int, xs = [.int j] ∧ ∀ r, H r = none → Q (.ref r) (upd H r (.rng 0 j))) := by
  intro pins s σ H xs us Q I r h
  obtain ⟨j, rfl, q⟩ := h
  obtain ⟨u, rfl, t, rfl⟩ := vals1 r
  exact call_range_1 ⟨.ref s.heap.objs.size, _, I.laid (o := .rng 0 j) (t' := s.toks + 1 + 1) (fun b o e => Heap.get?_push_of_some _ e) (Nat.le_refl _) ⟨_, _, _, Heap.get?_push_size _ rfl⟩, rfl, q _ (I.hok.fresh (Nat.le_refl _))⟩

theorem call_listR (hc : X.calm = true) : CallR X (.type "list") (fun xs H Q => ∃ (r : Addr) (n : Nat), xs = [.ref r] ∧ H r = some (.rng 0 n) ∧ n ≤ 1000 ∧ ∀ l, H l = none → Q (.ref l) (upd H l (.lst (((List.range n).map fun (i : Nat) => (i : Int)).map V.int)))) := by
  intro pins s σ H xs us Q I rr h
  obtain ⟨r, n, rfl, hr, hn, q⟩ := h
  obtain ⟨u, rfl, rx⟩ := vals1 rr
  cases rx
  obtain ⟨t, u, v, e⟩ : ∃ t u v, s.heap.get? r = some { cls := .type "range", data := .fields #[.int 0 t, .int n u, .int 1 v] } := I.hok r _ hr
  have hs : Builtin.Range.rangeSize 0 n 1 = (n : Int) := by rw [rangeSize_one]; split <;> omega
  refine call_list_range (I.ok.hd hc) e (small_one (by omega) (by omega) (by omega) (by omega)) hs (Nat.le_trans hn (by decide)) fun h' tk acc c' kp he ho => ?_
  refine ⟨.ref s.heap.objs.size, _, I.laid (o := .lst (((List.range n).map fun (i : Nat) => (i : Int)).map V.int)) (t' := tk) kp (Nat.le_refl _) ⟨?_, acc.toList, c', ?_, ?_⟩, rfl, q _ (I.hok.fresh (Nat.le_refl _))⟩
  · rw [List.length_map, List.length_map, List.length_range]
    exact Nat.le_of_lt (small1000 hn)
  · refine paired_get ?_ fun i x u hx hu => ?_
    · rw [List.length_map, List.length_map, List.length_range, Array.length_toList, ho.1]
    · have hi : i < n := by
        have := (List.getElem?_eq_some_iff.mp hx).1
        rw [List.length_map, List.length_map, List.length_range] at this
        exact this
      rw [Array.getElem?_toList] at hu
      obtain ⟨tt, rfl⟩ := ho.2 i u hu
      rw [List.getElem?_map, List.getElem?_map, List.getElem?_range hi] at hx
      cases hx
      exact ⟨tt, by show Value.int (0 + (i : Int) * 1) tt = Value.int (i : Int) tt; congr 1; omega⟩
  · rw [he]

theorem call_sortedL : CallR X (.builtin "sorted") (fun xs H Q => ∃ (p : Addr) (ns : List Int), xs = [.ref p] ∧ SqL X.K H p (ns.map V.int) ∧ ns.length < 64 ∧ ∀ (l : Addr) (ms : List Int), H l = none → ms.Perm ns → ms.Pairwise (· ≤ ·) → Q (.ref l) (upd H l (.lst (ms.map V.int)))) := by
  intro pins s σ H xs us Q I r h
  obtain ⟨p, ns, rfl, hp, hl, q⟩ := h
  obtain ⟨u, rfl, rx⟩ := vals1 r
  cases rx
  obtain ⟨its, rv, pl, hz⟩ := I.list hp
  have hi := intsAre_of rv
  refine sorted_ints pl.isList hi (by rw [hi.length]; exact hl) fun out ms a1 a2 a3 => ?_
  obtain ⟨e, he⟩ := sortedAll_at s.heap its out
  refine ⟨.ref (s.heap.objs.size + 1), _, I.laid (o := .lst (ms.map V.int)) (t' := s.toks) (fun b o e => sortedAll_old e) (Nat.le_succ _) ⟨?_, out.toList, e, vals_ints a1, he⟩, rfl, q _ ms (I.hok.fresh (Nat.le_succ _)) a2 a3⟩
  rw [List.length_map, a2.length_eq]
  exact Nat.le_of_lt (small1000 (by omega))
theorem preSum_list : ∀ (ns : List Int) (n : Nat), n ≤ ns.length → preSum (fun i => ns.getD i 0) n = (ns.take n).sum := by
  intro ns n
  induction n with
  | zero => intro _; rfl
  | succ n ih =>
    intro h
    show preSum _ n + ns.getD n 0 = _
    rw [ih (by omega), List.take_succ, List.sum_append]
    have : n < ns.length := h
    rw [List.getD_eq_getElem?_getD, List.getElem?_eq_getElem this]
    simp

theorem call_sumI (hc : X.calm = true) : CallR X (.builtin "sum") (fun xs H Q => ∃ (p : Addr) (ns : List Int), xs = [.ref p] ∧ SqL X.K H p (ns.map V.int) ∧ Q (.int ns.sum) H) := by
  intro pins s σ H xs us Q I r h
  obtain ⟨p, ns, rfl, hq, q⟩ := h
  obtain ⟨u, rfl, rx⟩ := vals1 r
  cases rx
  obtain ⟨its, rv, pl, hz⟩ := I.list hq
  have hl : its.toArray.size = ns.length := by rw [List.size_toArray, ← rv.length, List.length_map]
  have hp : p < s.heap.objs.size := let ⟨_, z, _⟩ := pl.isList; Heap.lt_size z
  refine call_sum_walkG (wpAny_pyIter_list pl.isList ?_)
  refine ⟨s.heap.objs.size, [s.heap.objs.size, p], [s.heap.objs.size], its.toArray.size, _, _, fun i => ns.getD i 0, rfl, Walks.list (A := X.A.in1) (I.ok.hd hc) _ p (Nat.ne_of_lt hp) its.toArray,
    ⟨⟨_, Heap.get?_push_size _ rfl, rfl, rfl⟩, pl.isList.push _⟩, fun b hb => ?_, fun i v hP => ?_, fun h' tk t' kp => ?_⟩
  · rw [Heap.size_push]
    rcases List.mem_cons.mp hb with z | z
    · rw [z]; exact Nat.lt_succ_self _
    · rw [List.mem_singleton.mp z]; exact Nat.lt_succ_of_lt hp
  · have hv : its[i]? = some v := by simpa using hP
    have hb : i < ns.length := by
      have := (List.getElem?_eq_some_iff.mp hv).1
      rw [← hl, List.size_toArray]
      exact this
    obtain ⟨u, hu, ru⟩ := rv.get (i := i) (x := V.int ns[i]) (by rw [List.getElem?_map, List.getElem?_eq_getElem hb]; rfl)
    rw [hv] at hu
    cases hu
    obtain ⟨t, rfl⟩ := ru
    refine ⟨t, ?_⟩
    show Value.int ns[i] t = Value.int (ns.getD i 0) t
    rw [List.getD_eq_getElem?_getD, List.getElem?_eq_getElem hb, Option.getD_some]
  · refine ⟨.int ns.sum, H, I.kept (t' := tk) fun b o e => kp b o ?_ (Heap.get?_push_of_some _ e), ⟨t', ?_⟩, q⟩
    · intro z
      have z' : b = s.heap.objs.size := by simpa using z
      exact absurd (Heap.lt_size e) (by rw [z']; exact Nat.lt_irrefl _)
    · rw [hl, preSum_list ns ns.length (Nat.le_refl _), List.take_length]

end
section
variable {D : Ends} {σ : St} {H : Hp} {Q : VK}
theorem thaw_same {d : Addr} {H A : Hp} {u : HO} (s : SmB d H A) (h : H d = some u) : Same H (upd A d u) := fun b o e => by
  by_cases z : b = d
  · subst z
    rw [h] at e
    cases e
    exact upd_same
  · rw [upd_ne z]
    exact s b o z e

theorem x_gdg {d : Addr} {m : List (Int × V)} {k : Int} {v : V} {P : V → Prop} (hd : Rd H d (.dK (dG m))) (hk : lkG m k = some v) (h : P v) : ∃ a v, V.ref d = .ref a ∧ DGet H a (.int k) (some v) ∧ P v :=
  ⟨d, v, rfl, .inl ⟨_, Sum.inl k, hd, rfl, by rw [dG_val, hk]⟩, h⟩
theorem x_gdin {d : Addr} {m : List (Int × V)} {k : Int} {P : Option V → Prop} (hd : Rd H d (.dK (dG m))) (h : P (lkG m k)) : ∃ a o, V.ref d = .ref a ∧ DGet H a (.int k) o ∧ P o := ⟨d, _, rfl, .inl ⟨_, Sum.inl k, hd, rfl, (dG_val m k).symm⟩, h⟩
theorem x_gdput {d : Addr} {m : List (Int × V)} {k : Int} {v : V} {P : Hp → Prop} (hd : H d = some (.dK (dG m))) (nd : (m.map (·.1)).Nodup) (hl : m.length < sizeLine) (h : ∀ H2, But d H H2 → H2 d = some (.dK (dG (putG m k v))) → P H2) : ∃ a H4, V.ref d = .ref a ∧ DPut H a (.int k) v H4 ∧ P H4 :=
  ⟨d, _, rfl, .inl ⟨_, Sum.inl k, hd, rfl, by rw [dG_len]; exact hl, rfl⟩, h _ .upd (by rw [upd_same, dG_put m k v nd])⟩
end
end L2

set_option Elab.async false
set_option linter.all false
set_option maxRecDepth 100000
namespace L2
open PySem PySem.Spec PyProof.Rows
theorem and_test {n h : Int} (h0 : 0 ≤ n) (h1 : 0 ≤ h) : (!decide (V.int (Builtin.bitAnd n (2 ^ h.toNat)) = V.int 0)) = n.toNat.testBit h.toNat := by
  have e1 : (0 : Int) ≤ 2 ^ h.toNat := two_pow_nn _
  have e2 : ((2 : Int) ^ h.toNat).toNat = 2 ^ h.toNat := by
    have : ((2 : Int) ^ h.toNat) = ((2 ^ h.toNat : Nat) : Int) := by push_cast; rfl
    rw [this, Int.toNat_natCast]
  rw [PyProof.Rows.bitAnd_pp h0 e1, e2]
  cases q : n.toNat.testBit h.toNat with
  | false =>
    rw [(GB.and_pow _ _).mpr q]
    rfl
  | true =>
    have z : ¬ (n.toNat &&& 2 ^ h.toNat = 0) := fun z => by rw [(GB.and_pow _ _).mp z] at q; cases q
    have z' : ¬ V.int ((n.toNat &&& 2 ^ h.toNat : Nat) : Int) = V.int 0 := fun e => z (by injection e with e; omega)
    rw [decide_eq_false z']
    rfl

def preH (n : Int) (i : Nat) : List Int := ((List.range i).filter fun h => n.toNat.testBit h).map (fun (h : Nat) => (h : Int))
theorem preH_len (n : Int) (i : Nat) : (preH n i).length ≤ i := by
  unfold preH
  rw [List.length_map]
  have := List.length_filter_le (fun h => n.toNat.testBit h) (List.range i)
  rw [List.length_range] at this
  exact this
theorem preH_yes {n : Int} {i : Nat} (h : n.toNat.testBit i = true) : preH n (i + 1) = preH n i ++ [(i : Int)] := by
  unfold preH
  rw [List.range_succ, List.filter_append, List.map_append, List.filter_cons, h]
  rfl
theorem preH_no {n : Int} {i : Nat} (h : n.toNat.testBit i = false) : preH n (i + 1) = preH n i := by
  unfold preH
  rw [List.range_succ, List.filter_append, List.map_append, List.filter_cons, h]
  exact List.append_nil _
theorem preH_bits {n : Int} (h0 : 0 ≤ n) (h1 : n < 9223372036854775808) : Builtin.Int.intBits n ≤ 63 ∧ preH n (Builtin.Int.intBits n) = GB.hl n := by
  have a : n.natAbs = n.toNat := by omega
  have l : n.toNat < 2 ^ 63 := by
    have : (2 : Nat) ^ 63 = 9223372036854775808 := by decide
    omega
  have b : Builtin.Int.intBits n ≤ 63 := PyProof.Rows.intBits_le (by rw [a]; exact l)
  refine ⟨b, ?_⟩
  unfold preH GB.hl
  rw [GB.hnds_eq b]
  unfold Builtin.Int.intBits
  by_cases z : n = 0
  · subst z; decide
  · have z' : (n == 0) = false := by simpa using z
    rw [z', a]
    exact Nat.lt_log2_self

theorem sorted_ext : ∀ {l m : List Nat}, l.Pairwise (· < ·) → m.Pairwise (· < ·) → (∀ x, x ∈ l ↔ x ∈ m) → l = m
  | [], [], _, _, _ => rfl
  | [], y :: m, _, _, h => absurd ((h y).mpr List.mem_cons_self) (by simp)
  | x :: l, [], _, _, h => absurd ((h x).mp List.mem_cons_self) (by simp)
  | x :: l, y :: m, hl, hm, h => by
    rw [List.pairwise_cons] at hl hm
    have e : x = y := by
      rcases List.mem_cons.mp ((h x).mp List.mem_cons_self) with z | z
      · exact z
      · rcases List.mem_cons.mp ((h y).mpr List.mem_cons_self) with w | w
        · exact w.symm
        · have := hm.1 x z
          have := hl.1 y w
          omega
    subst e
    rw [sorted_ext hl.2 hm.2 fun z => ?_]
    constructor
    · intro hz
      rcases List.mem_cons.mp ((h z).mp (List.mem_cons_of_mem _ hz)) with w | w
      · subst w; exact absurd (hl.1 _ hz) (Nat.lt_irrefl _)
      · exact w
    · intro hz
      rcases List.mem_cons.mp ((h z).mpr (List.mem_cons_of_mem _ hz)) with w | w
      · subst w; exact absurd (hm.1 _ hz) (Nat.lt_irrefl _)
      · exact w
theorem snoc_ind {α : Type} {P : List α → Prop} (h0 : P []) (h1 : ∀ l a, P l → P (l ++ [a])) (l : List α) : P l := by
  have key : ∀ r : List α, P r.reverse := by
    intro r
    induction r with
    | nil => exact h0
    | cons a r ih => rw [List.reverse_cons]; exact h1 _ _ ih
  have := key l.reverse
  rw [List.reverse_reverse] at this
  exact this
theorem sum_lt : ∀ (l : List Nat) (b : Nat), l.Pairwise (· < ·) → (∀ x ∈ l, x < b) → (l.map fun h => 2 ^ h).sum < 2 ^ b := by
  refine snoc_ind ?_ ?_
  · intro b _ _; exact Nat.two_pow_pos b
  · intro l h ih b hp hb
    rw [List.pairwise_append] at hp
    have h1 := ih h hp.1 fun x hx => hp.2.2 x hx h (by simp)
    have h2 : h < b := hb h (by simp)
    rw [List.map_append, List.sum_append]
    have h3 : 2 ^ (h + 1) ≤ 2 ^ b := Nat.pow_le_pow_right (by decide) h2
    rw [Nat.pow_succ] at h3
    simp only [List.map_cons, List.map_nil, List.sum_cons, List.sum_nil]
    omega
theorem sum_set : ∀ (l : List Nat), l.Pairwise (· < ·) → (l.map fun h => 2 ^ h).sum = GB.setN l := by
  refine snoc_ind ?_ ?_
  · intro _; rfl
  · intro l h ih hp
    rw [List.pairwise_append] at hp
    have h1 := sum_lt l h hp.1 fun x hx => hp.2.2 x hx h (by simp)
    have e := ih hp.1
    rw [List.map_append, List.sum_append]
    unfold GB.setN at e ⊢
    rw [List.foldl_append, ← e]
    simp only [List.map_cons, List.map_nil, List.sum_cons, List.sum_nil, List.foldl_cons, List.foldl_nil]
    have := Nat.two_pow_add_eq_or_of_lt h1 1
    rw [Nat.mul_one] at this
    rw [Nat.add_zero, Nat.add_comm, this, Nat.or_comm]

structure Hs (hs : List Int) : Prop where
  up : hs.Pairwise (· < ·)
  rg : ∀ h ∈ hs, 0 ≤ h ∧ h < 63
theorem Hs.nat {hs : List Int} (c : Hs hs) : ∃ l : List Nat, hs = l.map (fun (h : Nat) => (h : Int)) ∧ l.Pairwise (· < ·) ∧ ∀ x ∈ l, x < 63 := by
  refine ⟨hs.map Int.toNat, ?_, ?_, ?_⟩
  · rw [List.map_map]
    conv => lhs; rw [← List.map_id hs]
    refine List.map_congr_left fun h hh => ?_
    have := (c.rg h hh).1
    show h = ((h.toNat : Nat) : Int)
    omega
  · rw [List.pairwise_map]
    refine c.up.imp_of_mem fun {a b} ha hb h => ?_
    have := (c.rg a ha).1
    omega
  · intro x hx
    obtain ⟨h, hh, rfl⟩ := List.mem_map.mp hx
    have := c.rg h hh
    omega
theorem isum_nat : ∀ l : List Nat, (l.map fun (h : Nat) => (h : Int)).sum = ((l.sum : Nat) : Int)
  | [] => rfl
  | x :: l => by rw [List.map_cons, List.sum_cons, List.sum_cons, isum_nat l]; omega
theorem Hs.set {hs : List Int} (c : Hs hs) : 0 ≤ (hs.map fun h => 1 * (2 : Int) ^ h.toNat).sum ∧ (hs.map fun h => 1 * (2 : Int) ^ h.toNat).sum < 9223372036854775808 ∧ GB.hl (hs.map fun h => 1 * (2 : Int) ^ h.toNat).sum = hs := by
  obtain ⟨l, rfl, up, rg⟩ := c.nat
  have e : ((l.map fun (h : Nat) => (h : Int)).map fun h => 1 * (2 : Int) ^ h.toNat).sum = ((GB.setN l : Nat) : Int) := by
    rw [← sum_set l up, ← isum_nat, List.map_map, List.map_map]
    congr 1
    refine List.map_congr_left fun h _ => ?_
    show 1 * (2 : Int) ^ ((h : Int)).toNat = ((2 ^ h : Nat) : Int)
    rw [Int.toNat_natCast, Int.one_mul]
    push_cast
    rfl
  have lt : GB.setN l < 2 ^ 63 := GB.setN_lt rg
  have p63 : (2 : Nat) ^ 63 = 9223372036854775808 := by decide
  rw [e]
  refine ⟨by omega, by omega, ?_⟩
  unfold GB.hl
  rw [Int.toNat_natCast]
  congr 1
  refine sorted_ext (GB.hnds_sorted _) up fun x => ?_
  rw [GB.mem_hnds, GB.setN_bit]
  constructor
  · rintro ⟨_, h⟩; exact of_decide_eq_true h
  · intro h; exact ⟨rg x h, decide_eq_true h⟩
end L2

set_option Elab.async false
set_option linter.all false
set_option maxRecDepth 100000
namespace L2
open PySem PySem.Spec PyProof.Rows

def Itv (d : Addr) (o : Obj) (kvs : List (Key × V)) : It :=
  ⟨fun i H => i < kvs.length ∧ H d = some (.frz o (.dK kvs)), fun i H x H' => H' = H ∧ ∃ k, kvs[i]? = some (k, x), fun i H => kvs.length ≤ i ∧ H d = some (.frz o (.dK kvs))⟩
theorem turn_vals {P : Program} {w : World} {K : PySem.W.Frag} {tg : Expr} {d it : Addr} {o : Obj} {kvs : List (Key × V)} {vs : List (Key × Value)} {ep : Nat} (rel : KV kvs vs) (fz : ∀ h : Heap, h.get? d = some o → h.DictAt (mixKind P w) d vs ep) :
    Turn P w K tg (Itv d o kvs) [it] it (fun i h => h.IsValIter it d i vs.length ep) where
  mem := by simp
  obj := fun i h st b hb => by
    have e : b = it := by simpa using hb
    subst e
    obtain ⟨o, e, c, dd⟩ := st
    exact ⟨o, e, fun v z => by rw [dd] at z; cases z⟩
  keep := fun i h h' st k => let ⟨o, e, c, dd⟩ := st; ⟨o, k it (by simp) o e, c, dd⟩
  item := by
    intro X hP hw hK hc i pins s σ H E I hf st hg
    subst hP hw hK
    obtain ⟨hi, hd⟩ := hg
    have hdo : s.heap.get? d = some o := (show s.heap.get? d = some o ∧ _ from I.hok d _ hd).1
    have hx : kvs[i]? = some kvs[i] := List.getElem?_eq_getElem hi
    obtain ⟨u, hu, ru⟩ := rel.get (k := kvs[i].1) (v := kvs[i].2) hx
    obtain ⟨f0, f1, f2, f3, f4, f5⟩ := hf it (by simp)
    refine wpAny_pyNext_values_item st (fz _ hdo) hu fun h' st' sb => ?_
    have I1 : Inv X pins σ H { s with heap := h' } := I.turned (t' := s.toks) (fun b o hb e => (sb.2 b hb).trans e) f0 f1 f3 f4 f5
    obtain ⟨oo, e, c, dd⟩ := id st'
    exact ⟨u, rfl, go_of (s := { s with heap := h' }) e c dd (by decide) ⟨kvs[i].2, H, I1, ru, ⟨rfl, kvs[i].1, hx⟩, st', fun b hb => (hf b hb).1⟩⟩
  done := by
    intro X hP hw hK hc i pins s σ H E I hf st hg
    subst hP hw hK
    obtain ⟨hi, hd⟩ := hg
    have hdo : s.heap.get? d = some o := (show s.heap.get? d = some o ∧ _ from I.hok d _ hd).1
    obtain ⟨f0, f1, f2, f3, f4, f5⟩ := hf it (by simp)
    have hlen : kvs.length = vs.length := KV.length rel
    exact wpAny_pyNext_values_end (I.ok.hd hc) st (fz _ hdo) (List.getElem?_eq_none (by omega)) fun h' eb => ⟨rfl, I.turned (t' := s.toks) (fun b o hb e => eb b o hb e) f0 f1 f3 f4 f5⟩
  self := fun _ _ _ _ _ st h => wpAny_pyIter_valiter st h
section
variable {X : Cx}
def iVals (td : TE) : TI := fun σ H R => td σ H fun x H1 => ∃ d kvs, x = .ref d ∧ H1 d = some (.dK kvs) ∧ ∀ o, R (Itv d o kvs) (upd H1 d (.frz o (.dK kvs)))
theorem pi_vals {tg e : Expr} {apos cpos : Pos} {td : TE} (he : PE X e td) (hbase : attributeBase e "values" X.env (eval e X.env) = eval e X.env := by rfl) (hline : (apos.endLine == cpos.line) = true := by rfl) :
    PI X tg (.Call (.Attribute e "values" apos) [] [] cpos) (iVals td) := by
  intro pins s σ H R I h
  refine wpAny_Call_method0_late hbase hline (thn (he pins s σ H _ I h) fun v s1 ⟨x, H1, I1, r1, d, kvs, ex, hd, q⟩ => ?_)
  subst ex
  obtain rfl : v = Value.ref d := r1
  obtain ⟨z, hS, vs, rel, dd⟩ := dk_of I1.hok hd
  obtain ⟨h1, h2⟩ := tyV_is (T := "dict") I1 (x := .ref d) rfl (.inr (.inr (.inl ⟨rfl, .inl ⟨kvs, hd⟩⟩)))
  refine ⟨"dict", "dict.values", PySem.F.plainAttrs_dict, PySem.F.slot_dict_values, PySem.F.type_dict_values, h1, h2, Calls.callWith_builtin rfl (PySem.evalArgs_none ?_)⟩
  refine call_meetsIn PySem.F.slot_dict_values h1 PySem.F.entry_dict_values (PySem.F.args_dict_values_1 _) (meets_dict_values (mixKind X.prog X.w) d hS) ⟨⟨vs, dd⟩, ?_⟩
  have dd' : (s1.heap.push { cls := .type "dict_values", data := .fields #[.ref d] }).DictOf (mixKind X.prog X.w) d vs := dd.push _
  obtain ⟨o, es, ep, ho, rr⟩ := id dd'
  have fz : ∀ h : Heap, h.get? d = some o → h.DictAt (mixKind X.prog X.w) d vs ep := fun h hh => ⟨o, es, hh, rr⟩
  have I2 : Inv X pins σ H1 { s1 with heap := s1.heap.push { cls := .type "dict_values", data := .fields #[.ref d] } } := I1.kept (t' := s1.toks) fun b ob e => Heap.get?_push_of_some _ e
  have hv : (s1.heap.push { cls := .type "dict_values", data := .fields #[.ref d] }).IsValuesView s1.heap.objs.size d := ⟨_, Heap.get?_push_size _ rfl, rfl, rfl⟩
  show wpAny _ _ (pyIter (.ref s1.heap.objs.size)) _ _ _
  refine wpAny_pyIter_values hv (fz _ ho) ?_
  have I3 : Inv X pins σ (upd H1 d (.frz o (.dK kvs))) { s1 with heap := s1.heap.push { cls := .type "dict_values", data := .fields #[.ref d] } } :=
    I2.write (t' := s1.toks) (x := d) (e := d) (by rw [hd]; trivial) (.inl rfl) (fun _ _ _ e => e) ⟨o, ho⟩ ⟨ho, z, hS, vs, rel, dd'⟩
  refine ⟨_, [_], _, Itv d o kvs, upd H1 d (.frz o (.dK kvs)), rfl, I3.kept (t' := s1.toks) fun b ob e => Heap.get?_push_of_some _ e, turn_vals rel fz, ⟨_, Heap.get?_push_size _ rfl, rfl, rfl⟩, fun b hb => ?_, q o⟩
  have eb : b = (s1.heap.push { cls := .type "dict_values", data := .fields #[.ref d] }).objs.size := by simpa using hb
  subst eb
  exact I3.fpOk (Nat.le_refl _) (I3.hok.fresh (Nat.le_refl _))
end
theorem comp_vals {d : Addr} {o : Obj} {kvs : List (Key × V)} {g : TG} {tt : TT} {te : TE} {σ : St} {H : Hp} {D : Addr} {Qe : Hp → Prop} (Pv : Nat → St → Hp → Prop) (h0 : Pv 0 σ H) (hl : ∀ i σ H, i ≤ kvs.length → Pv i σ H → H d = some (.frz o (.dK kvs)))
    (hs : ∀ i k v σ H, kvs[i]? = some (k, v) → Pv i σ H → cTurn g tt te D (Pv (i + 1)) v σ H) (hd : ∀ σ H, Pv kvs.length σ H → Qe H) :
    ∃ W : Nat → Nat → St → Hp → Prop, (∃ m, W 0 m σ H) ∧ ∀ i m σ' H', W i m σ' H' → ((Itv d o kvs).stop i H' ∧ Qe H') ∨ ((Itv d o kvs).go i H' ∧ ∃ N : St → Hp → Prop, (∀ σ2 H2, N σ2 H2 → ∃ m', m' < m ∧ W (i + 1) m' σ2 H2) ∧
      ∀ x H'', (Itv d o kvs).yld i H' x H'' → cTurn g tt te D N x σ' H'') := by
  refine ⟨fun i m σ H => m = kvs.length - i ∧ i ≤ kvs.length ∧ Pv i σ H, ⟨kvs.length, by simp, Nat.zero_le _, h0⟩, ?_⟩
  rintro i m σ H ⟨rfl, hi, p⟩
  have q := hl i σ H hi p
  by_cases hlt : i < kvs.length
  · refine .inr ⟨⟨hlt, q⟩, Pv (i + 1), fun σ' H' p' => ⟨kvs.length - (i + 1), by omega, rfl, hlt, p'⟩, fun x H' y => ?_⟩
    obtain ⟨rfl, k, e1⟩ := y
    exact hs i k x σ _ e1 p
  · have e : i = kvs.length := by omega
    subst e
    exact .inl ⟨⟨Nat.le_refl _, q⟩, hd σ H p⟩
def fzK (J : Addr → Obj → List (Key × V) → It) (x : V) (H : Hp) (R : It → Hp → Prop) : Prop := ∃ d kvs, x = .ref d ∧ H d = some (.dK kvs) ∧ ∀ o, R (J d o kvs) (upd H d (.frz o (.dK kvs)))
theorem x_ivals {td : TE} {σ : St} {H : Hp} {R : It → Hp → Prop} (h : td σ H fun x H1 => fzK Itv x H1 R) : iVals td σ H R := h
theorem x_fz {J : Addr → Obj → List (Key × V) → It} {H : Hp} {d : Addr} {kvs : List (Key × V)} {R : It → Hp → Prop} (hd : H d = some (.dK kvs)) (h : ∀ o A, A d = some (.frz o (.dK kvs)) → SmB d H A → R (J d o kvs) A) : fzK J (.ref d) H R :=
  ⟨d, kvs, rfl, hd, fun o => h o _ upd_same fun b u n e => by rw [upd_ne n]; exact e⟩
theorem x_thaw {t : TS} {D : Ends} {σ : St} {H : Hp} {d : Addr} {kvs : List (Key × V)} (hd : H d = some (.dK kvs)) (h : t { D with nx := fun σ' H' => (∃ o, H' d = some (.frz o (.dK kvs))) ∧ D.nx σ' (upd H' d (.dK kvs)), rt := fun v H' => (∃ o, H' d = some (.frz o (.dK kvs))) ∧ D.rt v (upd H' d (.dK kvs)) } σ H) : tThaw t D σ H := ⟨d, kvs, hd, h⟩
section
variable {X : Cx}
end
end L2

set_option Elab.async false
set_option linter.all false
set_option maxRecDepth 100000
namespace L2
open PySem PySem.Spec PyProof.Rows
section
variable {X : Cx}

end
end L2

set_option Elab.async false
set_option linter.all false
set_option maxRecDepth 100000
namespace L2
open PySem PySem.Spec PyProof.Rows
section
variable {X : Cx}

theorem keys_intsG {P : Program} {w : World} : ∀ {m : List (Int × V)} {vs : List (Key × Value)} {us : List Value}, KV (dG m) vs → us.length = vs.length → (∀ (j : Nat) v, us[j]? = some v → ∃ k x, vs[j]? = some (k, x) ∧ (mixKind P w).is k v = true) → IntsAre us (m.map (·.1))
  | [], _, us, r, hl, h => by
    have r' : KV [] _ := r
    cases r'
    cases us with
    | nil => exact .nil
    | cons _ _ => cases hl
  | p :: m, vs, us, r, hl, h => by
    have r' : KV ((Sum.inl p.1, p.2) :: dG m) vs := r
    cases r' with
    | cons r1 r2 =>
      rename_i q qs
      cases us with
      | nil => cases hl
      | cons u us =>
        obtain ⟨k, x, e1, e2⟩ := h 0 u rfl
        have e1' : q = (k, x) := Option.some.inj e1
        subst e1'
        have ek : (Sum.inl p.1 : Key) = k := r1.1
        subst ek
        rcases keyIs_shape (show keyIs (Sum.inl p.1) u = true from e2) with ⟨i, t, z1, z2⟩ | ⟨_, _, z, _⟩
        · have z1' : p.1 = i := Sum.inl.inj z1
          rw [z2, ← z1']
          exact .cons _ t (keys_intsG (P := P) (w := w) r2 (Nat.succ.inj hl) fun j v e => h (j + 1) v e)
        · cases z

theorem call_sortedG (hc : X.calm = true) : CallR X (.builtin "sorted") (fun xs H Q => ∃ (d : Addr) (m : List (Int × V)), xs = [.ref d] ∧ Rd H d (.dK (dG m)) ∧ m.length < 64 ∧ ∀ (l : Addr) (ns : List Int), H l = none → ns.Perm (m.map (·.1)) → ns.Pairwise (· ≤ ·) → Q (.ref l) (upd H l (.lst (ns.map V.int)))) := by
  intro pins s σ H xs us Q I r h
  obtain ⟨d, m, rfl, hd, hlen, q⟩ := h
  obtain ⟨u, rfl, rx⟩ := vals1 r
  cases rx
  obtain ⟨z, hS, vs, rel, dd⟩ := dk_rd I.hok hd
  obtain ⟨ep, hat⟩ := dd.dictAt
  have hl : vs.length = m.length := by rw [← rel.length, dG_len]
  refine GX.sorted_in (args_sorted1 _) (PySem.W.kdu_collect (A := X.A.in1) (PySem.W.kdl_dict (knd := mixKind X.prog X.w) (kvs := vs) (ep := ep) hS) (I.ok.hd hc) hat (by rw [hl]; exact Nat.le_of_lt (small1000 (by omega))) fun h' tk acc hk hacc => ?_)
  have hi : IntsAre acc.toList (m.map (·.1)) := keys_intsG (P := X.prog) (w := X.w) rel (by rw [Array.length_toList]; exact hacc.1) fun j v e => hacc.2 j v (by rw [← Array.getElem?_toList]; exact e)
  have ha : acc.toList.length = m.length := by rw [hi.length, List.length_map]
  have I1 : Inv X pins σ H { s with heap := h', toks := tk } := I.kept hk
  refine sort_tail hi (by rw [ha]; exact hlen) (by rw [ha]; exact Nat.le_of_lt (small1000 (by omega))) fun h2 out ns' e k2 he a1 a2 a3 => ?_
  have ln : ns'.length ≤ sizeLine := by rw [a2.length_eq, List.length_map]; exact Nat.le_of_lt (small1000 (by omega))
  exact ⟨.ref h'.objs.size, _, I1.lay_ints (tk := tk) k2 he a1 ln, rfl, q _ ns' (I1.hok.fresh (Nat.le_refl _)) a2 a3⟩
end
end L2

set_option Elab.async false
set_option linter.all false
set_option maxRecDepth 100000
namespace GX
open PySem
section
variable {prog : Program} {w : World} {A : Around} {E : Value → Shared → Prop} {s : Shared} {K : Type} [DecidableEq K] {knd : KeyKind prog w K}

end
end GX
namespace L2
open PySem PySem.Spec PyProof.Rows
section
variable {X : Cx}
end
theorem x_gsub {to ti : TE} {t : TSet} {v : V} {σ : St} {H : Hp} {Q : St → Hp → Prop} (h : to σ H fun o H1 => ti σ H1 fun i H2 => t o i v H2 fun H3 => Q σ H3) : gSub to ti t v σ H Q := h
theorem x_setL {p : Addr} {xs : List V} {k : Int} {j : Nat} {v : V} {H : Hp} {Q : Hp → Prop} (hp : H p = some (.lst xs)) (hk : ixN xs.length k = some j) (h : ∀ H', But p H H' → H' p = some (.lst (xs.set j v)) → Q H') : rSetL (.ref p) (.int k) v H Q :=
  ⟨p, xs, k, j, rfl, rfl, hp, hk, h _ .upd upd_same⟩
end L2

set_option Elab.async false
set_option linter.all false
set_option maxRecDepth 100000
namespace GX
open PySem PyProof.Rows
end GX
namespace L2
open PySem PySem.Spec PyProof.Rows

theorem paired_at {α β : Type} {F : α → β → Prop} : ∀ {l : List α} {m : List β} {i : Nat} {a : α}, Paired F l m → l[i]? = some a → ∃ b, m[i]? = some b ∧ F a b
  | _, _, _, _, .nil, e => by simp at e
  | _, _, 0, _, .cons h _, e => by simp at e; subst e; exact ⟨_, rfl, h⟩
  | _, _, i + 1, x, .cons _ t, e => by
    obtain ⟨b, h1, h2⟩ := paired_at (i := i) t (by simpa using e)
    exact ⟨b, by simpa using h1, h2⟩
section
variable {X : Cx}
end
end L2

set_option Elab.async false
set_option linter.all false
set_option maxRecDepth 100000
namespace HT
open PySem PyProof.Rows
theorem rcGt_int (A : Around) (s : Shared) (a : Int) (t : Tok) (c : Int) (u : Tok) (prog : Program) (w : World) (E : Value → Shared → Prop) (Q : Value → Shared → Prop) (h : Q (.bool (decide (c < a))) s) :
    wpAny (model prog w) A (richCompare .Gt (.int a t) (.int c u)) Q E s :=
  (PyProof.Rows.gt_int h : wpAny (model prog w) A (compareOp .Gt (.int a t) (.int c u)) Q E s)
section
open PySem.SeqAt
open PySem.AutoSeq1 (wpAny_loadPart')
open PySem.MeetsSeq PySem.MeetsSeq2 PySem.MeetsSeq3
theorem tuple_gt_ints (l b : Addr) (items items2 : Array Value) (n n2 : Nat) (dd dd2 : Option Addr) (sl sl2 : Array (Option Value)) (ns ms : List Int) (hi : IntsAre items.toList ns) (hj : IntsAre items2.toList ms) :
    Meets (Builtin.«tuple.__gt__» ⟨[.ref l, .ref b], []⟩)
      (fun _ R s => s.heap.get? l = some { cls := .type "tuple", dict := dd, data := .seq items n, slots := sl } ∧ s.heap.get? b = some { cls := .type "tuple", dict := dd2, data := .seq items2 n2, slots := sl2 } ∧
        R (.ok (.ret (.bool (lexLt ms ns)))) s) :=
  .of_wp fun prog w A R s h => by
    obtain ⟨hp, g, d, tk, os⟩ := s; obtain ⟨hl, hb, h⟩ := h
    have f2 := AutoSeq1.sub_tuple_tuple
    have z1 : items.size = ns.length := by rw [← hi.length]; simp
    have z2 : items2.size = ms.length := by rw [← hj.length]; simp
    wp_walk using wpAny_loadPart' hl, wpAny_loadPart' hb, wpAny_forIn_list _ (fun rest b s' => b.1 = none ∧ s' = ⟨hp, g, d, tk, os⟩ ∧ ∃ (vs ws : List Value) (ns' ms' : List Int), rest = vs.zip ws ∧
      IntsAre vs ns' ∧ IntsAre ws ms' ∧ ns'.length + items2.size = ms'.length + items.size ∧ R (.ok (.ret (.bool (lexLt ms' ns')))) ⟨hp, g, d, tk, os⟩) _
    case turn =>
      rintro ⟨y, x⟩ rest b s' ⟨hb', rfl, vs, ws, ns', ms', hz, hvi, hwi, hlen, hR⟩
      cases hvi with
      | nil => rw [List.zip_nil_left] at hz; cases hz
      | cons a t hvi' =>
        cases hwi with
        | nil => rw [List.zip_nil_right] at hz; cases hz
        | cons c u hwi' =>
          rw [List.zip_cons_cons] at hz
          injection hz with hyx hrest
          injection hyx with hy hx
          subst hy hx
          rw [lexLt_cons] at hR
          simp only [List.length_cons] at hlen
          obtain ⟨e, he, hiff⟩ := eqAt_int A.in1 ⟨hp, g, d, tk, os⟩ a t c u
          refine wpAny_bind (he prog w _ _ ?_)
          cases e with
          | true =>
            rw [if_pos (hiff.mp rfl).symm] at hR
            wp_walk
            exact ⟨rfl, rfl, _, _, _, _, hrest, hvi', hwi', by omega, hR⟩
          | false =>
            rw [if_neg (fun q => absurd (hiff.mpr q.symm) Bool.false_ne_true)] at hR
            have hri := rcGt_int A.in1 ⟨hp, g, d, tk, os⟩ a t c u prog w
            wp_walk using hri
            exact ⟨_, rfl, by simpa using hR⟩
    case fin =>
      rintro ⟨b1, b2⟩ s' ⟨hb', rfl, vs, ws, ns', ms', hz, hvi, hwi, hlen, hR⟩
      simp only at hb'
      subst hb'
      have hv : lexLt ms' ns' = decide (items2.size < items.size) := by
        cases hvi with
        | nil =>
          cases hwi with
          | nil =>
            simp only [List.length_nil] at hlen
            rw [lexLt_nil_nil]
            exact (decide_eq_false (by omega)).symm
          | cons c u hw =>
            simp only [List.length_nil, List.length_cons] at hlen
            rw [lexLt_cons_nil]
            exact (decide_eq_false (by omega)).symm
        | cons a t hv =>
          cases hwi with
          | nil =>
            simp only [List.length_nil, List.length_cons] at hlen
            rw [lexLt_nil_cons]
            exact (decide_eq_true (by omega)).symm
          | cons c u hw =>
            rw [List.zip_cons_cons] at hz
            cases hz
      rw [hv] at hR
      wp_walk
      exact ⟨_, rfl, by simpa [Builtin.Tuple.tupleCompareSizes] using hR⟩
    case h =>
      exact ⟨rfl, rfl, items.toList, items2.toList, ns, ms, rfl, hi, hj, by omega, h⟩
end
section
variable {prog : Program} {w : World} {A : Around} {E : Value → Shared → Prop} {s : Shared}
theorem gt_tupInts {l b : Addr} {items items2 : Array Value} {ns ms : List Int} {Q : Value → Shared → Prop} (hl : IsTup s.heap l items) (hb : IsTup s.heap b items2) (hi : IntsAre items.toList ns) (hj : IntsAre items2.toList ms)
    (hu : A.units < cLine) (h : Q (.bool (lexLt ms ns)) s) : wpAny (model prog w) A (compareOp .Gt (.ref l) (.ref b)) Q E s := by
  obtain ⟨⟨cls, dd, data, sl⟩, ho, hc, n, hd⟩ := id hl
  obtain ⟨⟨cls2, dd2, data2, sl2⟩, ho2, hc2, n2, hd2⟩ := id hb
  simp only at hc hd hc2 hd2
  subst hc hd hc2 hd2
  exact richCompare_meets_room (op := .Gt) ⟨_, ho, rfl⟩ ⟨_, ho2, rfl⟩ PySem.F.slot_tuple_gt PySem.F.entry_tuple_gt (PySem.F.args_tuple_gt_2 _ _) (tuple_gt_ints l b items items2 n n2 dd dd2 sl sl2 ns ms hi hj)
    ⟨ho, ho2, show Value.bool (lexLt ms ns) ≠ Value.notImplemented ∧ Q (.bool (lexLt ms ns)) s from ⟨(fun x => nomatch x), h⟩⟩ hu
end
end HT
namespace L2
open PySem PySem.Spec PyProof.Rows
section
variable {X : Cx}

def rGtT (K : PySem.W.Frag) : R2 := fun x y H Q => ∃ a b ns ms, x = .ref a ∧ y = .ref b ∧ SqT K H a (ns.map V.int) ∧ SqT K H b (ms.map V.int) ∧ Q (.bl (HT.lexLt ms ns)) H
theorem op_gtT {K : PySem.W.Frag} (hK : X.K = K) (hu : X.A.units < cLine) : OpR X (compareOp .Gt) (rGtT K) := by
  subst hK
  intro pins s σ H x y v u Q I rx ry h
  obtain ⟨a, b, ns, ms, rfl, rfl, ha, hb, q⟩ := h
  cases rx
  cases ry
  obtain ⟨its, r1, p1, _⟩ := I.tuple ha
  obtain ⟨its2, r2, p2, _⟩ := I.tuple hb
  have i1 : IntsAre its.toArray.toList ns := intsAre_of r1
  have i2 : IntsAre its2.toArray.toList ms := intsAre_of r2
  exact HT.gt_tupInts p1 p2 i1 i2 hu ⟨.bl (HT.lexLt ms ns), H, I, rfl, q⟩
end

def chf (me hd ba ye vo re ag : V) : List (Str × V) := [("me", me), ("hands", hd), ("ballot", ba), ("yes", ye), ("votes", vo), ("reports", re), ("agreed", ag)]
structure TChange (K : PySem.W.Frag) (C : Addr) : Prop where
  cl : Cls K C
  n1 : NoAttr K C "me"
  n2 : NoAttr K C "hands"
  n3 : NoAttr K C "ballot"
  n4 : NoAttr K C "yes"
  n5 : NoAttr K C "votes"
  n6 : NoAttr K C "reports"
  n7 : NoAttr K C "agreed"
section
variable {me hd ba ye vo re ag v : V}
theorem chf_put : putF "agreed" ag (putF "reports" re (putF "votes" vo (putF "yes" ye (putF "ballot" ba (putF "hands" hd (putF "me" me [])))))) = chf me hd ba ye vo re ag := by kernel_rfl
theorem chf_pba : putF "ballot" v (chf me hd ba ye vo re ag) = chf me hd v ye vo re ag := by kernel_rfl
theorem chf_pye : putF "yes" v (chf me hd ba ye vo re ag) = chf me hd ba v vo re ag := by kernel_rfl
theorem chf_pvo : putF "votes" v (chf me hd ba ye vo re ag) = chf me hd ba ye v re ag := by kernel_rfl
theorem chf_pre : putF "reports" v (chf me hd ba ye vo re ag) = chf me hd ba ye vo v ag := by kernel_rfl
theorem chf_pag : putF "agreed" v (chf me hd ba ye vo re ag) = chf me hd ba ye vo re v := by kernel_rfl
theorem chf_me : (chf me hd ba ye vo re ag).lookup ("me" : Str) = some me := by kernel_rfl
theorem chf_hands : (chf me hd ba ye vo re ag).lookup ("hands" : Str) = some hd := by kernel_rfl
theorem chf_ballot : (chf me hd ba ye vo re ag).lookup ("ballot" : Str) = some ba := by kernel_rfl
theorem chf_yes : (chf me hd ba ye vo re ag).lookup ("yes" : Str) = some ye := by kernel_rfl
theorem chf_votes : (chf me hd ba ye vo re ag).lookup ("votes" : Str) = some vo := by kernel_rfl
theorem chf_reports : (chf me hd ba ye vo re ag).lookup ("reports" : Str) = some re := by kernel_rfl
theorem chf_agreed : (chf me hd ba ye vo re ag).lookup ("agreed" : Str) = some ag := by kernel_rfl
theorem chf_begin : (chf me hd ba ye vo re ag).lookup ("begin" : Str) = none := by kernel_rfl
theorem chf_message : (chf me hd ba ye vo re ag).lookup ("message" : Str) = none := by kernel_rfl
theorem chf_receive : (chf me hd ba ye vo re ag).lookup ("receive" : Str) = none := by kernel_rfl
theorem chf_see_ballot : (chf me hd ba ye vo re ag).lookup ("see_ballot" : Str) = none := by kernel_rfl
theorem chf_see_yes : (chf me hd ba ye vo re ag).lookup ("see_yes" : Str) = none := by kernel_rfl
theorem chf_see_votes : (chf me hd ba ye vo re ag).lookup ("see_votes" : Str) = none := by kernel_rfl
theorem chf_gathers : (chf me hd ba ye vo re ag).lookup ("gathers" : Str) = none := by kernel_rfl
theorem chf_settled : (chf me hd ba ye vo re ag).lookup ("settled" : Str) = none := by kernel_rfl
theorem chf_len : (chf me hd ba ye vo re ag).length < 1000 := by show 7 < 1000; decide
end

theorem x_disp1 {tk tv : TE} {σ : St} {H : Hp} {Q : VK} (h : ∀ p, H p = none → tk σ (upd H p (.dK [])) fun x H1 => tv σ H1 fun y H2 => H2 p = some (.dK []) ∧ ∃ kvs : List (Key × V), [(x, y)] = kvs.map (fun kv => (kV kv.1, kv.2)) ∧ kvs.length ≤ 15 ∧ Q (.ref p) (upd H2 p (.dK (mergeK [] kvs)))) : tDisp [(tk, tv)] σ H Q := h
end L2

set_option Elab.async false
set_option linter.all false
set_option maxRecDepth 100000
namespace GX
open PySem PyProof.Rows
section
variable {prog : Program} {w : World} {A : Around} {R : Result → Shared → Prop} {I d : Addr} {fp wr : List Addr} {n : Nat} {P : Nat → Value → Prop} {St : Nat → Heap → Prop} {K : Type} [DecidableEq K] {knd : KeyKind prog w K}

end
section
variable {prog : Program} {w : World} {A : Around} {E : Value → Shared → Prop} {s : Shared} {K : Type} [DecidableEq K] {knd : KeyKind prog w K}

end
end GX
namespace L2
open PySem PySem.Spec PyProof.Rows

section
variable {X : Cx}
end
end L2

set_option Elab.async false
set_option linter.all false
set_option maxRecDepth 100000
namespace L2
open PySem PySem.Spec PyProof.Rows

section
variable {X : Cx} {pins : List (Addr × Obj)} {σ : St} {H : Hp} {s : Shared}
end
section
variable {X : Cx} {pins : List (Addr × Obj)} {σ : St} {l f : Addr} {xs : List V} {its : List Value} {ks : List (List Int)} {k : Nat} {fd : FuncData} {ps : List Str} {sp : Sp}
end
section
variable {X : Cx}
end
end L2

set_option Elab.async false
set_option linter.all false
set_option maxRecDepth 100000
namespace L2
open PySem PySem.Spec PyProof.Rows
section
variable {prog : Program} {w : World} {A : Around} {E : Value → Shared → Prop} {s : Shared}

end
end L2

set_option Elab.async false
set_option linter.all false
set_option maxRecDepth 100000
namespace L2
open PySem PySem.Spec PyProof.Rows

section
variable {n : Nat} (hn : 0 < n)
include hn
end
section
variable {prog : Program} {w : World} {A : Around} {E : Value → Shared → Prop} {s : Shared}

end
section
variable {X : Cx}

end
end L2

set_option Elab.async false
set_option linter.all false
set_option maxRecDepth 100000
namespace L2
open PySem PySem.Spec PyProof.Rows
section
variable {X : Cx} {pins : List (Addr × Obj)} {σ : St} {H H0 : Hp} {s : Shared} {h' : Heap}

end
section
variable {X : Cx} {pins : List (Addr × Obj)} {σ : St} {H : Hp} {s : Shared} {D f : Addr} {xs : List V} {its : List Value} {ks : List (List Int)} {k : Nat} {fd : FuncData} {ps : List Str} {sp : Sp}

end
end L2

set_option Elab.async false
set_option linter.all false
set_option maxRecDepth 100000
namespace L2
open PySem PySem.Spec PyProof.Rows

section
variable {X : Cx}
end
end L2

set_option Elab.async false
set_option linter.all false
set_option maxRecDepth 100000
namespace L2
open PySem PySem.Spec PyProof.Rows
section
variable {X : Cx}

end
end L2

set_option Elab.async false
set_option linter.all false
set_option maxRecDepth 100000
namespace L2
open PySem PySem.Spec PyProof.Rows
section
variable {X : Cx}
end

theorem x_ninP {K : PySem.W.Frag} {H : Hp} {Q : VK} {a : Addr} {x : V} {xs : List V} {ds : List PyData} {d : PyData} (ha : SqL K H a xs) (hx : Dps K H xs ds) (hd : Dp K H x d) (l1 : PyData.canLayAll0 ds = true) (l2 : d.canLay0 = true) (dp : d.depth ≤ 60) (hm : d ∈ ds) (q : Q (.bl false) H) : rInP K true x (.ref a) H Q := by
  refine ⟨a, xs, ds, d, rfl, .inl ha, hx, hd, l1, l2, dp, ?_⟩
  have e : (ds.any fun z => z.eqv d) = true := List.any_eq_true.mpr ⟨d, hm, SeqAt.eqv_refl _ l2⟩
  rw [e]
  exact q
end L2

set_option Elab.async false
set_option linter.all false
set_option maxRecDepth 100000
namespace L2
open PySem PySem.Spec PyProof.Rows
section
variable {X : Cx} {K : PySem.W.Frag}

end
end L2

set_option Elab.async false
set_option linter.all false
set_option maxRecDepth 100000
namespace GX
open PySem PySem.Spec PyProof.Rows

section
variable {prog : Program} {w : World} {A : Around} {s : Shared} {E : Value → Shared → Prop} {it l : Addr}
end
end GX

set_option Elab.async false
set_option linter.all false
set_option maxRecDepth 100000
namespace GX
open PySem PySem.Spec PyProof.Rows

abbrev dictO (es : Array DictEntry) (ep : Nat) : Obj := { cls := .type "dict", data := .dict es ep }

def RawD (h : Heap) (d : Addr) (es : Array DictEntry) (ep : Nat) : Prop := h.get? d = some (dictO es ep)

theorem RawD.of {h : Heap} {d : Addr} {o : Obj} {es : Array DictEntry} {ep : Nat} (e : h.get? d = some o) (x : o.ExactDict) (dt : o.data = .dict es ep) : RawD h d es ep := by
  obtain ⟨c, di, dat, sl⟩ := o
  obtain ⟨rfl, rfl, rfl⟩ := x
  cases dt
  exact e
section
variable {prog : Program} {w : World} {A : Around} {s : Shared} {E : Value → Shared → Prop} {it v d : Addr} {es : Array DictEntry} {i ep : Nat}
end
end GX

set_option Elab.async false
set_option linter.all false
set_option maxRecDepth 100000
namespace GX
open PySem PySem.Spec PyProof.Rows
section
variable {prog : Program} {w : World} {K : Type} [DecidableEq K] {knd : HeapKind prog w K} {d a : Addr} {xs : List (K × Addr × Value)} {k : K} {j : Nat} {p : Addr × Value}
end
end GX

set_option Elab.async false
set_option linter.all false
set_option maxRecDepth 100000
namespace L2
open PySem PySem.Spec PyProof.Rows

section
variable {X : Cx} {tg : Expr}
end
end L2

set_option Elab.async false
set_option linter.all false
set_option maxRecDepth 100000
namespace L2
open PySem PySem.Spec PyProof.Rows

section
variable {X : Cx}
end

section
variable {X : Cx}
end
end L2

set_option Elab.async false
set_option linter.all false
set_option maxRecDepth 100000
namespace L2
open PySem PySem.Spec PyProof.Rows
section
variable {X : Cx}
end
end L2

set_option Elab.async false
set_option linter.all false
set_option maxRecDepth 100000
namespace L2
open PySem PySem.Spec PyProof.Rows

section
variable (ky : Nat → Int)
variable {ky} {n : Nat} (hn : 0 < n)
end
section
variable {prog : Program} {w : World} {A : Around} {E : Value → Shared → Prop} {s : Shared}
end
section
variable {X : Cx} {pins : List (Addr × Obj)} {σ : St} {H : Hp} {s : Shared} {D f : Addr} {xs : List V} {its : List Value} {ks : List (List Int)} {k : Nat} {fd : FuncData} {ps : List Str} {sp : Sp}

end

section
variable {X : Cx}
end
end L2

set_option Elab.async false
set_option linter.all false
set_option maxRecDepth 100000
namespace L2
open PySem PySem.Spec PyProof.Rows
section
variable {X : Cx}

theorem Inv.thawT {pins : List (Addr × Obj)} {σ : St} {H : Hp} {s : Shared} {a : Addr} {o : Obj} {kvs : List (List Key × V)} (I : Inv X pins σ H s) (h : H a = some (.frz o (.dT kvs))) (n1 : ∀ xs, X.H₀ a ≠ some (.tup xs)) (n2 : ∀ o u, X.H₀ a ≠ some (.frz o u)) (n3 : ∀ ps, X.H₀ a ≠ some (.tbl ps)) : Inv X pins σ (upd H a (.dT kvs)) s := by
  have ne : ∀ b, H b = none → b ≠ a := fun b q z => by rw [z, h] at q; cases q
  have b := I.base
  refine ⟨I.ok, I.os, I.bare, ⟨b.keep, b.slot, fun c oc e n x => ?_, b.there, fun c xs e => ?_, fun c oc u e => ?_, fun c ps e => ?_⟩, I.loc, I.cell, by rw [upd_ne (ne _ I.free)]; exact I.free, fun x c z => by rw [upd_ne (ne _ (I.freeC x c z))]; exact I.freeC x c z,
    fun p hp => let ⟨p1, p2, p3⟩ := I.pin p hp; ⟨p1, by rw [upd_ne (ne _ p2)]; exact p2, p3⟩, fun c u e => ?_, I.len⟩
  · have q := b.free c oc e n x
    rw [upd_ne (ne _ q)]
    exact q
  · have nc : c ≠ a := fun z => n1 _ (z ▸ e)
    rw [upd_ne nc]
    exact b.tups c xs e
  · have nc : c ≠ a := fun z => n2 _ _ (z ▸ e)
    rw [upd_ne nc]
    exact b.frzs c oc u e
  · have nc : c ≠ a := fun z => n3 _ (z ▸ e)
    rw [upd_ne nc]
    exact b.tbls c ps e
  · by_cases hc : c = a
    · subst hc
      rw [upd_same] at e
      cases e
      obtain ⟨z, y, xs, kt, rest⟩ := (show ObjOk X.prog X.w H s.heap c (.dT kvs) from (I.hok c _ h).2)
      exact ⟨z, y, xs, KT.keeps kt fun d ys q => by rw [upd_ne (fun z => by rw [z, h] at q; cases q)]; exact q, rest⟩
    · rw [upd_ne hc] at e
      refine (I.hok c u e).stay (fun _ _ _ q => q) (fun d q => ?_) fun d xs q => ?_
      · rw [upd_ne (fun z => by rw [z, h] at q; cases q)]
        exact q
      · rw [upd_ne (fun z => by rw [z, h] at q; cases q)]
        exact q
def tThawT (t : TS) : TS := fun D σ H => ∃ a kvs, H a = some (.dT kvs) ∧ t { D with nx := fun σ' H' => (∃ o, H' a = some (.frz o (.dT kvs))) ∧ D.nx σ' (upd H' a (.dT kvs)), rt := fun v H' => (∃ o, H' a = some (.frz o (.dT kvs))) ∧ D.rt v (upd H' a (.dT kvs)) } σ H
theorem ps_thawT {st : Stmt} {t : TS} (h : PS X st t) : PS X st (tThawT t) := by
  intro pins s σ H D I hw
  obtain ⟨a, kvs, ha, ht⟩ := hw
  have n1 : ∀ xs, X.H₀ a ≠ some (.tup xs) := fun xs e => by have := I.base.tups a xs e; rw [ha] at this; cases this
  have n2 : ∀ o u, X.H₀ a ≠ some (.frz o u) := fun o u e => by have := I.base.frzs a o u e; rw [ha] at this; cases this
  have n3 : ∀ ps, X.H₀ a ≠ some (.tbl ps) := fun ps e => by obtain ⟨m, q⟩ := I.base.tbls a ps e; rw [ha] at q; cases q
  refine thn (h pins s σ H _ I ht) fun f s1 q => ?_
  cases f with
  | next =>
    obtain ⟨σ', H', I', ⟨o, e⟩, n⟩ := q
    exact ⟨σ', _, I'.thawT e n1 n2 n3, n⟩
  | brk => exact q
  | cont => exact q
  | ret u =>
    obtain ⟨v, σ', H', I', r, ⟨o, e⟩, n⟩ := q
    exact ⟨v, σ', _, I'.thawT e n1 n2 n3, r, n⟩
end
theorem x_thawT {t : TS} {D : Ends} {σ : St} {H : Hp} {d : Addr} {kvs : List (List Key × V)} (hd : H d = some (.dT kvs)) (h : t { D with nx := fun σ' H' => (∃ o, H' d = some (.frz o (.dT kvs))) ∧ D.nx σ' (upd H' d (.dT kvs)), rt := fun v H' => (∃ o, H' d = some (.frz o (.dT kvs))) ∧ D.rt v (upd H' d (.dT kvs)) } σ H) : tThawT t D σ H := ⟨d, kvs, hd, h⟩
end L2

set_option Elab.async false
set_option linter.all false
set_option maxRecDepth 100000
namespace L2
open PySem PySem.Spec PyProof.Rows

def unl (cs : List Addr) (H : Hp) : Hp := fun b => if b ∈ cs then none else H b
def rln (cs : List Addr) (H H' : Hp) : Hp := fun b => if b ∈ cs then H b else H' b
theorem unl_in {cs : List Addr} {H : Hp} {b : Addr} (h : b ∈ cs) : unl cs H b = none := if_pos h
theorem unl_out {cs : List Addr} {H : Hp} {b : Addr} (h : b ∉ cs) : unl cs H b = H b := if_neg h
theorem unl_some {cs : List Addr} {H : Hp} {b : Addr} {o : HO} (h : unl cs H b = some o) : b ∉ cs ∧ H b = some o := by
  by_cases z : b ∈ cs
  · rw [unl_in z] at h; cases h
  · rw [unl_out z] at h; exact ⟨z, h⟩
theorem rln_in {cs : List Addr} {H H' : Hp} {b : Addr} (h : b ∈ cs) : rln cs H H' b = H b := if_pos h
theorem rln_out {cs : List Addr} {H H' : Hp} {b : Addr} (h : b ∉ cs) : rln cs H H' b = H' b := if_neg h

abbrev CelO (c : Addr) (v : V) : HO := .ext fun h => ∃ u, RelV v u ∧ h.IsCell c (some u)

def Lent (H : Hp) (c : Addr) (v : V) : Prop := ∃ o, H c = some (.frz o (CelO c v))

abbrev FnO (f : Addr) (fo : Obj) : HO := .ext fun h => h.get? f = some fo
abbrev CdO (c : Addr) (qual : Str) : HO := .ext fun h => h.CodeRec (.ref c) qual
section
variable {P : Program} {w : World} {H H' : Hp} {h h' : Heap} {cs fs : List Addr}
theorem hok_unl (hc : ∀ c ∈ cs, ∃ o φ, H c = some (.frz o (.ext φ))) (ok : HOk P w H h) : HOk P w (unl cs H) h := fun a o e => by
  obtain ⟨_, e⟩ := unl_some e
  refine (ok a o e).stay (fun _ _ _ q => q) (fun b q => ?_) fun b xs q => ?_
  · rw [unl_out fun z => by obtain ⟨_, _, z⟩ := hc b z; rw [q] at z; cases z]; exact q
  · rw [unl_out fun z => by obtain ⟨_, _, z⟩ := hc b z; rw [q] at z; cases z]; exact q
theorem hok_rln (hc : ∀ c ∈ cs, ∃ o φ, H c = some (.frz o (.ext φ))) (ok : HOk P w H h) (ok' : HOk P w H' h') (fr : ∀ c ∈ cs, H' c = none) (kp : ∀ c ∈ cs, ∀ o, h.get? c = some o → h'.get? c = some o) : HOk P w (rln cs H H') h' := fun a o e => by
  by_cases z : a ∈ cs
  · rw [rln_in z] at e
    obtain ⟨ob, φ, q⟩ := hc a z
    rw [q] at e
    cases e
    obtain ⟨e1, p, ⟨o2, e2⟩, st⟩ := (show h.get? a = some ob ∧ (φ h ∧ (∃ o, h.get? a = some o) ∧ ∀ h1 h2 : Heap, φ h1 → (∀ o, h1.get? a = some o → h2.get? a = some o) → φ h2) from ok a _ q)
    exact ⟨kp a z _ e1, st _ _ p (kp a z), ⟨o2, kp a z _ e2⟩, st⟩
  · rw [rln_out z] at e
    refine (ok' a o e).stay (fun _ _ _ q => q) (fun b q => ?_) fun b xs q => ?_
    · rw [rln_out fun y => by rw [fr b y] at q; cases q]; exact q
    · rw [rln_out fun y => by rw [fr b y] at q; cases q]; exact q
theorem un_rln (hc : ∀ c ∈ cs, ∃ o φ, H c = some (.frz o (.ext φ))) (u : Un fs [] (unl cs H) H' h h') : Un fs [] H (rln cs H H') h h' where
  keep := fun b o e n hb hx => u.keep b o e (by unfold unl; split <;> first | rfl | exact n) hb hx
  slot := fun b o e n hb hx => u.slot b o e (by unfold unl; split <;> first | rfl | exact n) hb hx
  free := fun b o e n hx => by
    have nb : b ∉ cs := fun z => by obtain ⟨_, _, q⟩ := hc b z; rw [n] at q; cases q
    rw [rln_out nb]
    exact u.free b o e (by rw [unl_out nb]; exact n) hx
  there := u.there
  tups := fun b xs q => by
    have nb : b ∉ cs := fun z => by obtain ⟨_, _, y⟩ := hc b z; rw [q] at y; cases y
    rw [rln_out nb]
    exact u.tups b xs (by rw [unl_out nb]; exact q)
  frzs := fun b o x q => by
    by_cases z : b ∈ cs
    · rw [rln_in z]; exact q
    · rw [rln_out z]; exact u.frzs b o x (by rw [unl_out z]; exact q)
  tbls := fun b ps q => by
    have nb : b ∉ cs := fun z => by obtain ⟨_, _, y⟩ := hc b z; rw [q] at y; cases y
    rw [rln_out nb]
    exact u.tbls b ps (by rw [unl_out nb]; exact q)
end

structure ScM (N ps fr : List Str) (sc : Scope) : Prop where
  kind : sc.kind = .function
  co : sc.isCoroutine = false
  gen : sc.isGenerator = false
  nd : N.Nodup
  pre : N.take (ps ++ fr).length = ps ++ fr
  par : ∀ x ∈ ps, sc.names.lookup x = some .local
  fre : ∀ x ∈ fr, sc.names.lookup x = some .free
  cel : ∀ y ∈ sc.names, y.2 ≠ .cell
  all : ∀ y ∈ sc.names, y.2 = .free → y.1 ∈ fr

def cxM (CX : CXT) (P : Program) (w : World) (K : PySem.W.Frag) (mg : Str → Option Value) (base : Heap) (N : List Str) (qual : Str) (scope : Scope) (f : Addr) (cd : Value) (cl : List (Str × Addr)) (A : Around) (outer : List Env) (s : Shared) (H : Hp) (E : XK) : Cx where
  prog := P
  w := w
  K := K
  mg := mg
  base := base
  A := A.deeper (PySem.W.envX qual scope s.heap.objs.size f cd cl)
  N := N
  s₀ := s
  H₀ := unl (cl.map (·.2)) H
  env := PySem.W.envX qual scope s.heap.objs.size f cd cl
  outer := outer
  stack := PySem.W.envX qual scope s.heap.objs.size f cd cl :: outer
  ex := []
  calm := true
  fn := fun _ => false
  pn := []
  xe := fun e s' => wpAny (model P w) (A.deeper (PySem.W.envX qual scope s.heap.objs.size f cd cl)) (leaving (PySem.W.envX qual scope s.heap.objs.size f cd cl) e) (fun _ s'' => CX outer H s E e s'') (fun e' s'' => CX outer H s E e' s'') s'
theorem lkS_mem {β : Type} : ∀ {l : List (Str × β)} {x : Str} {y : β}, (l.map (·.1)).Nodup → (x, y) ∈ l → l.lookup x = some y
  | [], _, _, _, h => nomatch h
  | (a, b) :: l, x, y, nd, h => by
    rw [List.map_cons, List.nodup_cons] at nd
    rw [List.lookup_cons]
    rcases List.mem_cons.mp h with e | e
    · cases e
      rw [beq_self_eq_true]
    · have : x ≠ a := fun z => nd.1 (List.mem_map.mpr ⟨(x, y), e, z⟩)
      rw [beq_false_of_ne this]
      exact lkS_mem nd.2 e
theorem zip_look {ps : List Str} {us : List Value} (nd : ps.Nodup) {i : Nat} {x : Str} {u : Value} (h1 : ps[i]? = some x) (h2 : us[i]? = some u) : (ps.zip us).reverse.lookup x = some u := by
  refine lkS_mem ?_ (List.mem_reverse.mpr (List.mem_of_getElem? (i := i) (List.getElem?_zip_eq_some.mpr ⟨h1, h2⟩)))
  rw [List.map_reverse]
  refine (List.reverse_perm _).nodup_iff.mpr (nd.sublist ?_)
  have : ∀ (ps : List Str) (us : List Value), ((ps.zip us).map (·.1)).Sublist ps := by
    intro ps
    induction ps with
    | nil => intro us; exact List.Sublist.refl _
    | cons p ps ih =>
      intro us
      cases us with
      | nil => exact List.nil_sublist _
      | cons u us => exact (ih us).cons₂ _
  exact this ps us
section
variable {CX : CXT} {P : Program} {w : World} {K : PySem.W.Frag} {mg : Str → Option Value} {base : Heap} {N ps : List Str} {qual : Str} {scope : Scope} {f : Addr} {cd : Value} {cl : List (Str × Addr)} {A : Around} {outer : List Env} {s : Shared} {H : Hp} {E : XK} {us : List Value} {vs vals : List V}

def LentAll (H : Hp) (cl : List (Str × Addr)) (vals : List V) : Prop := cl.length = vals.length ∧ ∀ (i : Nat) x c v, cl[i]? = some (x, c) → vals[i]? = some v → Lent H c v
theorem LentAll.frz (l : LentAll H cl vals) : ∀ c ∈ cl.map (·.2), ∃ o φ, H c = some (.frz o (.ext φ)) := fun c hc => by
  obtain ⟨p, hp, rfl⟩ := List.mem_map.mp hc
  obtain ⟨i, hi⟩ := List.getElem?_of_mem hp
  have il := (List.getElem?_eq_some_iff.mp hi).1
  have iv : i < vals.length := by have := l.1; omega
  obtain ⟨o, e⟩ := l.2 i p.1 p.2 vals[i] hi (List.getElem?_eq_getElem iv)
  exact ⟨o, _, e⟩
theorem LentAll.cell {h : Heap} (l : LentAll H cl vals) (ok : HOk P w H h) {i : Nat} {x : Str} {c : Addr} {v : V} (e1 : cl[i]? = some (x, c)) (e2 : vals[i]? = some v) : ∃ u, RelV v u ∧ h.IsCell c (some u) := by
  obtain ⟨o, e⟩ := l.2 i x c v e1 e2
  exact (show h.get? c = some o ∧ ((∃ u, RelV v u ∧ h.IsCell c (some u)) ∧ _) from ok c _ e).2.1
theorem inv_startM (S : ScM N ps (cl.map (·.1)) scope) (hd : A.handled = none) (e0 : Env0 P w K mg base A outer s H) (hl : vs.length = ps.length) (r : Vals vs us) (nd2 : (cl.map (·.2)).Nodup) (ln : LentAll H cl vals) {h₁ : Heap} {tk : Nat}
    (hns : h₁.Ns s.heap.objs.size (fun x => (ps.zip us).reverse.lookup x)) (hk : ∀ b o, s.heap.get? b = some o → h₁.get? b = some o) :
    Inv (cxM CX P w K mg base N qual scope f cd cl A outer s H E) [] (start N (vs ++ vals)) (unl (cl.map (·.2)) H) { s with heap := h₁, toks := tk } := by
  have fz := ln.frz
  have noA : ∀ b : Addr, b ∉ (cxM CX P w K mg base N qual scope f cd cl A outer s H E).ex := fun b z => absurd (show b ∈ ([] : List Addr) from z) (by simp)
  have lkc : ∀ x c, cl.lookup x = some c → ∃ (i : Nat) (v : V), cl[i]? = some (x, c) ∧ vals[i]? = some v := fun x c h => by
    obtain ⟨i, hi⟩ := List.getElem?_of_mem (PySem.mem_of_lookup h)
    have il := (List.getElem?_eq_some_iff.mp hi).1
    exact ⟨i, vals[i]'(by have := ln.1; omega), hi, List.getElem?_eq_getElem _⟩
  have none_of : ∀ b, H b = none → unl (cl.map (·.2)) H b = none := fun b n => by unfold unl; split <;> first | rfl | exact n
  have hpl : (ps ++ cl.map (·.1)).length ≤ N.length := by have := congrArg List.length S.pre; rw [List.length_take] at this; omega
  have ndP : (ps ++ cl.map (·.1)).Nodup := by rw [← S.pre]; exact S.nd.sublist (List.take_sublist _ _)
  rw [List.nodup_append] at ndP
  refine ⟨⟨e0.mod, S.kind, rfl, rfl, Nat.le_refl _, fun y z c h1 h2 => ?_, fun y hy => ?_, fun y c z _ => ?_, fun _ => hd, Around.frames_deeper e0.frames, .inr ⟨rfl, rfl⟩, fun b z => absurd z (noA b), fun b o e => ⟨(e0.bs b o e).1, none_of b (e0.bs b o e).2⟩, e0.bsz, fun b _ _ => noA b, fun b z => absurd z (noA b), e0.funs, fun b hb => none_of b (e0.frf b hb)⟩,
    rfl, e0.bare, Un.kept hk, ⟨_, hns, fun i y v h1 h2 h3 => ?_⟩, fun y c h => ?_, none_of _ (e0.hok.fresh (Nat.le_refl _)), fun y c h => ?_, fun p hp => absurd (show p ∈ ([] : List (Addr × Obj)) from hp) (by simp), (hok_unl fz e0.hok).kept hk, ?_⟩
  · obtain ⟨i, _, hi, _⟩ := lkc y c h1
    obtain ⟨j, _, hj, _⟩ := lkc z c h2
    have il := (List.getElem?_eq_some_iff.mp hi).1
    have : i = j := (List.getElem?_inj (by rw [List.length_map]; exact il) nd2).mp (by rw [List.getElem?_map, List.getElem?_map, hi, hj]; rfl)
    subst this
    rw [hi] at hj
    cases hj
    rfl
  · have hy : scope.names.lookup y = some .cell ∨ scope.names.lookup y = some .free := hy
    rcases hy with hy | hy
    · exact absurd rfl (S.cel _ (PySem.mem_of_lookup hy))
    · obtain ⟨p, hp, e⟩ := List.mem_map.mp (S.all _ (PySem.mem_of_lookup hy) rfl)
      have e : p.1 = y := e
      exact ⟨p.2, lkS_mem ndP.2.1 (by rw [← e]; exact hp)⟩
  · exact absurd z Bool.false_ne_true
  · have hi : i < (vs ++ vals).length := by
      unfold start at h2
      by_cases hi : i < (vs ++ vals).length
      · exact hi
      · rw [List.getElem?_append_right (by simpa using hi)] at h2
        rw [List.getElem?_replicate] at h2
        split at h2 <;> cases h2
    have ha : (vs ++ vals)[i]? = some v := by
      unfold start at h2
      rw [List.getElem?_append_left (by simpa using hi), List.getElem?_map] at h2
      cases e : (vs ++ vals)[i]? with
      | none => rw [e] at h2; cases h2
      | some a => rw [e] at h2; cases h2; rfl
    have l1 := ln.1
    rw [List.length_append] at hi
    have hp : (ps ++ cl.map (·.1))[i]? = some y := by
      rw [← S.pre, List.getElem?_take_of_lt (by rw [List.length_append, List.length_map]; omega)]; exact h1
    by_cases z : i < vs.length
    · rw [List.getElem?_append_left z] at ha
      rw [List.getElem?_append_left (by omega)] at hp
      obtain ⟨u, hu, rv⟩ := r.get ha
      exact ⟨u, rv, .inl ⟨S.par y (List.mem_of_getElem? hp), zip_look ndP.1 hp hu⟩⟩
    · rw [List.getElem?_append_right (by omega)] at ha
      rw [List.getElem?_append_right (by omega), List.getElem?_map, ← hl] at hp
      cases e : cl[i - vs.length]? with
      | none => rw [e] at hp; cases hp
      | some q =>
        rw [e] at hp
        obtain ⟨x, c⟩ := q
        have hp : x = y := Option.some.inj hp
        subst hp
        obtain ⟨u, rv, ic⟩ := ln.cell e0.hok e ha
        have xm : x ∈ cl.map (·.1) := List.mem_map.mpr ⟨(x, c), List.mem_of_getElem? e, rfl⟩
        exact ⟨u, rv, .inr ⟨.inr (S.fre x xm), c, lkS_mem ndP.2.1 (List.mem_of_getElem? e), ic.keeps hk⟩⟩
  · obtain ⟨i, v, e1, e2⟩ := lkc y c h
    obtain ⟨u, _, ic⟩ := ln.cell e0.hok e1 e2
    exact ⟨_, ic.keeps hk⟩
  · obtain ⟨i, v, e1, e2⟩ := lkc y c h
    exact unl_in (List.mem_map.mpr ⟨(y, c), List.mem_of_getElem? e1, rfl⟩)
  · unfold start
    show _ = N.length
    rw [List.length_append, List.length_map, List.length_replicate, List.length_append]
    rw [List.length_append, List.length_map] at hpl
    have := ln.1
    omega

end
end L2

set_option Elab.async false
set_option linter.all false
set_option maxRecDepth 100000
namespace L2
open PySem PySem.Spec PyProof.Rows

def BltM (base : Heap) (mg : Str → Option Value) : Prop := ∃ bm ob, mg "__builtins__" = some (.ref bm) ∧ bm ≠ builtinsNs ∧ bm ≠ mainGlobals ∧ base.get? bm = some ob ∧ ob.cls = .type "module" ∧ ob.dict = some builtinsNs ∧ ob.data = .plain

def tDef (Pt : Addr) (i : Nat) (pos : Pos) (qual : Str) (mk : Value → Addr → Value → Obj) : TS := fun D σ H => ∃ ps, H Pt = some (.tbl ps) ∧ TriplesOk ps.toList ∧ codeAmong pos ps.toList = none ∧
  ∀ f c' doc ctv H', H f = none → H c' = none → f ≠ c' → (∀ b, b ≠ f → b ≠ c' → b ≠ Pt → H' b = H b) → H' f = some (FnO f (mk doc c' ctv)) → H' c' = some (CdO c' qual) → H' Pt = some (.tbl (ps ++ #[rawInt pos.line, rawInt pos.col, .ref c'])) → D.nx (σ.set i (some (.ref f))) H'
section
variable {X : Cx}
theorem ps_def {name : Str} {params : Arguments} {body : List Stmt} {scope : Scope} {pos : Pos} {i : Nat} {c Pt : Addr} {clos : List (Str × Addr)} (hN : X.N.Nodup) (hi : X.N[i]? = some name) (hx : Loc X.env.scope name) (hf : X.fn name = true ∨ X.env.scope.names.lookup name = some .local)
    (hd0 : params.defaults = []) (hk0 : params.kw_defaults = []) (ha : annTrees params none X.env = []) (hcl : closureFor scope X.env = pure clos) (hcode : X.env.code = .ref c) (hC : PySem.W.CodeHd X.base c Pt) (hB : BltM X.base X.mg) :
    PS X (.FunctionDef name params body [] none [] scope none name pos) (tDef Pt i pos (qualnameIn X.env name name) fun doc c' ctv => PySem.W.fnMade name (qualnameIn X.env name name) params body scope clos doc ((X.mg "__name__").getD .none) c' ctv) := by
  intro pins s σ H D I h
  obtain ⟨ps, hP, ht, hn, q⟩ := h
  have oP : s.heap.get? Pt = some (PySem.W.tabObj ps) := I.hok Pt _ hP
  have nb : ∀ b o, X.base.get? b = some o → b ≠ Pt := fun b o e z => by have := (I.bs b o e).2; rw [z, hP] at this; cases this
  have hg : s.heap.Ns mainGlobals X.mg := I.mod.glob.keeps I.bk
  obtain ⟨bm, ob, b1, b2, b3, b4, b5⟩ := hB
  refine PySem.W.nestDef_K hd0 hk0 ha ?_
  refine PySem.W.makeFunction_K (mg := X.mg) hcl I.ok.glob hg hcode (hC.keeps I.bk) oP ht hn (by obtain ⟨o, _, _, e, _⟩ := I.mod.glob; exact nb _ _ e) ⟨bm, ob, b1, b2, b3, nb _ _ b4, I.bk _ _ b4, b5⟩ fun c' ctv doc h' tk hx' hge hlt hrec htb => ?_
  have hsz : s.heap.objs.size ≤ h'.objs.size := Nat.le_of_lt (Nat.lt_of_le_of_lt hge hlt)
  have Hf : H h'.objs.size = none := I.hok.fresh hsz
  have Hc : H c' = none := I.hok.fresh hge
  have nfc : h'.objs.size ≠ c' := Nat.ne_of_gt hlt
  have nfP : h'.objs.size ≠ Pt := fun z => by rw [z, hP] at Hf; cases Hf
  have ncP : c' ≠ Pt := fun z => by rw [z, hP] at Hc; cases Hc
  let H' : Hp := upd (upd (upd H Pt (.tbl (ps ++ #[rawInt pos.line, rawInt pos.col, .ref c']))) c' (CdO c' (qualnameIn X.env name name))) h'.objs.size (FnO h'.objs.size (PySem.W.fnMade name (qualnameIn X.env name name) params body scope clos doc ((X.mg "__name__").getD .none) c' ctv))
  have ef : H' h'.objs.size = some (FnO h'.objs.size (PySem.W.fnMade name (qualnameIn X.env name name) params body scope clos doc ((X.mg "__name__").getD .none) c' ctv)) := upd_same
  have ec : H' c' = some (CdO c' (qualnameIn X.env name name)) := by show upd _ _ _ c' = _; rw [upd_ne nfc.symm, upd_same]
  have eP : H' Pt = some (.tbl (ps ++ #[rawInt pos.line, rawInt pos.col, .ref c'])) := by show upd _ _ _ Pt = _; rw [upd_ne nfP.symm, upd_ne ncP.symm, upd_same]
  have eo : ∀ b, b ≠ h'.objs.size → b ≠ c' → b ≠ Pt → H' b = H b := fun b n1 n2 n3 => by show upd _ _ _ b = _; rw [upd_ne n1, upd_ne n2, upd_ne n3]
  have es : ∀ b u, H b = some u → b ≠ Pt → H' b = some u := fun b u e n => by rw [eo b (ne_of_none e Hf) (ne_of_none e Hc) n]; exact e
  have old : ∀ b o, b ≠ Pt → s.heap.get? b = some o → (h'.push (PySem.W.fnMade name (qualnameIn X.env name name) params body scope clos doc ((X.mg "__name__").getD .none) c' ctv)).get? b = some o := fun b o n e => Heap.get?_push_of_some _ (hx' b o n e)
  have np : ∀ b, H b = none → b ≠ Pt := fun b n z => by rw [z, hP] at n; cases n
  have I2 : Inv X pins σ H' { s with heap := h'.push (PySem.W.fnMade name (qualnameIn X.env name name) params body scope clos doc ((X.mg "__name__").getD .none) c' ctv), toks := tk } := by
    refine I.step (g' := s.gens) (d' := s.drawn) (t' := tk) (ch := []) (fun _ z => nomatch z) (fun b o _ _ _ e n => old b o (np b n) e) (fun b o _ _ _ e n => ⟨o.slots, old b o (np b n) e⟩) (fun b o _ e n => ?_) (fun b o _ e => ?_) (fun b xs e => es b _ e fun z => by rw [z, hP] at e; cases e) (fun b o u e => es b _ e fun z => by rw [z, hP] at e; cases e) (fun b qs e => ?_) (fun m hm => ?_) (fun a u e => ?_) I.bare
    · have lt := Heap.lt_size e
      rw [eo b (Nat.ne_of_lt (Nat.lt_of_lt_of_le lt hsz)) (Nat.ne_of_lt (Nat.lt_of_lt_of_le lt hge)) (np b n)]
      exact n
    · by_cases z : b = Pt
      · rw [z]; exact ⟨_, Heap.get?_push_of_some _ htb⟩
      · exact ⟨o, old b o z e⟩
    · by_cases z : b = Pt
      · rw [z, hP] at e
        cases e
        exact ⟨_, by rw [z]; exact eP⟩
      · exact ⟨#[], by rw [es b _ e z]; simp⟩
    · exact (hm.extBut hx' (np _ I.free)).push _
    · by_cases z1 : a = h'.objs.size
      · rw [z1, ef] at e
        cases e
        rw [z1]
        exact ⟨Heap.get?_push_size _ rfl, ⟨_, Heap.get?_push_size _ rfl⟩, fun h1 h2 e k => k _ e⟩
      by_cases z2 : a = c'
      · rw [z2, ec] at e
        cases e
        rw [z2]
        obtain ⟨c2, oc, vs, t, e2, hoc, hd, hv⟩ := id hrec
        cases e2
        refine ⟨⟨_, oc, vs, t, rfl, Heap.get?_push_of_some _ hoc, hd, hv⟩, ⟨oc, Heap.get?_push_of_some _ hoc⟩, ?_⟩
        rintro h1 h2 ⟨c2, oc, vs, t, e2, hoc, hd, hv⟩ k
        cases e2
        exact ⟨_, oc, vs, t, rfl, k _ hoc, hd, hv⟩
      by_cases z3 : a = Pt
      · rw [z3, eP] at e
        cases e
        rw [z3]
        exact Heap.get?_push_of_some _ htb
      · rw [eo a z1 z2 z3] at e
        refine (I.hok a u e).stay (fun b v hb r => old b v ?_ r) (fun b r => es b _ r fun z => by rw [z, hP] at r; cases r) fun b xs r => es b _ r fun z => by rw [z, hP] at r; cases r
        rcases hb with z | z
        · rw [z]; exact z3
        · exact fun y => by rw [y, hP] at z; cases z
  exact store_ok I2 hN hi hx (v := .ref h'.objs.size) rfl (fun s' I' => ⟨_, _, I', q h'.objs.size c' doc ctv H' Hf Hc nfc eo ef ec eP⟩) hf
end
end L2

set_option Elab.async false
set_option linter.all false
set_option maxRecDepth 100000
namespace L2
open PySem PySem.Spec PyProof.Rows

def unlQ (cs : List Addr) (Q : VK) : VK := fun v H3 => Q v (unl cs H3)

structure Lnd (H : Hp) (cl : List (Str × Addr)) (vals : List V) (H2 : Hp) : Prop where
  out : ∀ b, b ∉ cl.map (·.2) → H2 b = H b
  non : ∀ c ∈ cl.map (·.2), H c = none
  all : LentAll H2 cl vals

structure OwnC (X : Cx) (ix : List Nat) (cl : List (Str × Addr)) : Prop where
  len : ix.length = cl.length
  nd : (cl.map (·.2)).Nodup
  at_ : ∀ (j : Nat) i x c, ix[j]? = some i → cl[j]? = some (x, c) → X.N[i]? = some x ∧ X.env.scope.names.lookup x = some .cell ∧ X.env.cells.lookup x = some c ∧ X.fn x = true
def tCallM (OK : Addr → Sp → Prop) (tf : TE) (t : TA) : TE := fun σ H Q => tf σ H fun x H1 => ∃ f sp, x = .ref f ∧ OK f sp ∧ (∃ fo : Obj, (∃ fd, fo.data = .func fd) ∧ H1 f = some (FnO f fo)) ∧ t σ H1 fun vs H2 => sp vs H2 Q E0
section
variable {X : Cx}
theorem run_fnL {k : Nat} {f : Addr} {fd : FuncData} {ps : List Str} {sp : Sp} {ix : List Nat} {cl : List (Str × Addr)} {vals : List V} {pins : List (Addr × Obj)} {σ : St} {H : Hp} {s : Shared} {Q : VK} {us : List Value} {vs : List V} (F : FnOk X.prog X.w X.K X.mg X.base CX0 k f fd ps sp) (hr : Room k X.A) (hb : Binds X.K fd ps []) (hx : Passes CX0 X E0)
    (O : OwnC X ix cl) (I : Inv X pins σ H s) (r : Vals vs us) (lv : cl.length = vals.length) (hv : ∀ (j : Nat) i v, ix[j]? = some i → vals[j]? = some v → σ[i]? = some (some v)) (h : ∀ H2, Lnd H cl vals H2 → sp vs H2 (unlQ (cl.map (·.2)) Q) E0) :
    wpAny (model X.prog X.w) X.A (call (.ref f) us) (EP X pins σ Q) X.xe s := by
  have cell : ∀ (j : Nat) x c v, cl[j]? = some (x, c) → vals[j]? = some v → (∃ u, RelV v u ∧ s.heap.IsCell c (some u)) ∧ X.env.cells.lookup x = some c ∧ X.fn x = true := fun j x c v e1 e2 => by
    have jl := (List.getElem?_eq_some_iff.mp e1).1
    have jx : j < ix.length := by have := O.len; omega
    have hj : ix[j]? = some ix[j] := List.getElem?_eq_getElem jx
    obtain ⟨a1, a2, a3, a4⟩ := O.at_ j _ x c hj e1
    obtain ⟨m, hn, hl⟩ := I.loc
    obtain ⟨u, ru, lo⟩ := hl _ x v a1 (hv j _ v hj e2) (.inr (.inl a2))
    rcases lo with ⟨z, _⟩ | ⟨_, c2, e3, ic⟩
    · have z : X.env.scope.names.lookup x = some .local := z
      rw [a2] at z; cases z
    · rw [a3] at e3
      cases e3
      exact ⟨⟨u, ru, ic⟩, a3, a4⟩
  have cm : ∀ c ∈ cl.map (·.2), ∃ (j : Nat) (x : Str) (v : V), cl[j]? = some (x, c) ∧ vals[j]? = some v := fun c hc => by
    obtain ⟨p, hp, rfl⟩ := List.mem_map.mp hc
    obtain ⟨j, hj⟩ := List.getElem?_of_mem hp
    have jl := (List.getElem?_eq_some_iff.mp hj).1
    exact ⟨j, p.1, vals[j]'(by omega), hj, List.getElem?_eq_getElem _⟩
  have cn : ∀ c ∈ cl.map (·.2), H c = none := fun c hc => by
    obtain ⟨j, x, v, e1, e2⟩ := cm c hc
    exact I.freeC x c (cell j x c v e1 e2).2.1
  have cab : ∀ c ∈ cl.map (·.2), X.s₀.heap.objs.size ≤ c := fun c hc => by
    obtain ⟨j, x, v, e1, e2⟩ := cm c hc
    exact I.ok.cab x c (cell j x c v e1 e2).2.2 (cell j x c v e1 e2).2.1
  have cns : ∀ c ∈ cl.map (·.2), c ∉ frs X.stack := fun c hc hb => by
    rcases List.mem_cons.mp (I.stkSub c hb) with z | z
    · obtain ⟨j, x, v, e1, e2⟩ := cm c hc
      exact I.cne x c (cell j x c v e1 e2).2.1 z
    · obtain ⟨_, o, ho, _⟩ := I.ok.funs.mem z
      exact absurd (Nat.lt_of_lt_of_le (Heap.lt_size ho) (cab c hc)) (Nat.lt_irrefl _)
  have ex : ∃ H2 : Hp, (∀ b, b ∉ cl.map (·.2) → H2 b = H b) ∧ ∀ (j : Nat) x c v, cl[j]? = some (x, c) → vals[j]? = some v → ∃ o, s.heap.get? c = some o ∧ H2 c = some (.frz o (CelO c v)) := by
    refine ⟨fun b => match (cl.zip vals).find? (fun p => decide (p.1.2 = b)) with | some p => (s.heap.get? b).map fun o => .frz o (CelO b p.2) | none => H b, fun b hb => ?_, fun j x c v e1 e2 => ?_⟩
    · have : (cl.zip vals).find? (fun p => decide (p.1.2 = b)) = none := List.find?_eq_none.mpr fun p hp z => hb (List.mem_map.mpr ⟨p.1, (List.of_mem_zip (show (p.1, p.2) ∈ cl.zip vals from hp)).1, of_decide_eq_true z⟩)
      dsimp only
      rw [this]
    · obtain ⟨⟨u, ru, o, eo, d⟩, _⟩ := cell j x c v e1 e2
      refine ⟨o, eo, ?_⟩
      have mz : ((x, c), v) ∈ cl.zip vals := List.mem_of_getElem? (i := j) (List.getElem?_zip_eq_some.mpr ⟨e1, e2⟩)
      cases hf : (cl.zip vals).find? (fun p => decide (p.1.2 = c)) with
      | none => exact absurd (decide_eq_true rfl) (List.find?_eq_none.mp hf _ mz)
      | some p =>
        have pc : p.1.2 = c := by have := List.find?_some hf; simpa using this
        obtain ⟨j2, hj2⟩ := List.getElem?_of_mem (List.mem_of_find?_eq_some hf)
        obtain ⟨f1, f2⟩ := List.getElem?_zip_eq_some.mp hj2
        have jl := (List.getElem?_eq_some_iff.mp e1).1
        have : j = j2 := (List.getElem?_inj (by rw [List.length_map]; exact jl) O.nd).mp (by rw [List.getElem?_map, List.getElem?_map, e1, f1, ← pc]; rfl)
        subst this
        rw [e2] at f2
        have pv : p.2 = v := (Option.some.inj f2).symm
        dsimp only
        rw [hf]
        dsimp only
        rw [eo, pv]
        rfl
  obtain ⟨H2, out, inn⟩ := ex
  have ln : LentAll H2 cl vals := ⟨lv, fun j x c v e1 e2 => let ⟨o, _, e⟩ := inn j x c v e1 e2; ⟨o, e⟩⟩
  have ld : Lnd H cl vals H2 := ⟨out, cn, ln⟩
  have es : ∀ b u, H b = some u → b ∉ cl.map (·.2) ∧ H2 b = some u := fun b u e => by
    have nb : b ∉ cl.map (·.2) := fun z => by rw [cn b z] at e; cases e
    exact ⟨nb, by rw [out b nb]; exact e⟩
  have ok2 : HOk X.prog X.w H2 s.heap := fun a o e => by
    by_cases z : a ∈ cl.map (·.2)
    · obtain ⟨j, x, v, e1, e2⟩ := cm a z
      obtain ⟨ob, eo, e3⟩ := inn j x a v e1 e2
      rw [e3] at e
      cases e
      refine ⟨eo, (cell j x a v e1 e2).1, ⟨ob, eo⟩, ?_⟩
      rintro h1 h2 ⟨u, ru, o, eo, d⟩ k
      exact ⟨u, ru, o, k _ eo, d⟩
    · rw [out a z] at e
      exact (I.hok a o e).stay (fun _ _ _ q => q) (fun b q => (es b _ q).2) fun b xs q => (es b _ q).2
  have e0 : Env0 X.prog X.w X.K X.mg X.base X.A X.stack s H2 := ⟨I.ok.frames, I.ok.mod, fun b o e => ⟨(I.bs b o e).1, by
      rw [out b fun z => absurd (Nat.lt_of_lt_of_le (Heap.lt_size e) (Nat.le_trans I.ok.bsz (cab b z))) (Nat.lt_irrefl _)]
      exact (I.bs b o e).2⟩, Nat.le_trans I.ok.bsz I.sz, I.stack, fun b hb => by rw [out b fun z => cns b z hb]; exact I.stkFree b hb, ok2, I.bare⟩
  have hs := h H2 ld
  have hl : us.length = ps.length := by rw [← r.length]; exact F.len _ _ _ _ hs
  refine wpAny_call (codeAny_mono (F.run X.A X.stack s H2 ⟨us, []⟩ us vs _ E0 hr e0 (by have := hb s us I.kIn (by rw [List.append_nil]; exact hl); rw [List.append_nil] at this; exact this) r hs) fun r' s' hq => ?_)
  cases r' with
  | error e => exact hx pins σ H s e s' I (by exact hq.elim)
  | ok fl =>
    cases fl with
    | next => exact False.elim hq
    | brk => exact False.elim hq
    | cont => exact False.elim hq
    | ret u =>
      obtain ⟨v, H3, os, bare, un, hok3, rv, q⟩ := hq
      have fz : ∀ c ∈ cl.map (·.2), ∃ o φ, s.heap.get? c = some o ∧ H3 c = some (.frz o (.ext φ)) := fun c hc => by
        obtain ⟨j, x, v, e1, e2⟩ := cm c hc
        obtain ⟨o, eo, e3⟩ := inn j x c v e1 e2
        exact ⟨o, _, eo, un.frzs c o _ e3⟩
      have fz' : ∀ c ∈ cl.map (·.2), ∃ o φ, H3 c = some (.frz o (.ext φ)) := fun c hc => let ⟨o, φ, _, e⟩ := fz c hc; ⟨o, φ, e⟩
      have un2 : Un (frs X.stack) [] H (unl (cl.map (·.2)) H3) s.heap s'.heap := by
        refine ⟨fun b o e n hb hx => ?_, fun b o e n hb hx => ?_, fun b o e n hx => ?_, un.there, fun b xs e => ?_, fun b o u e => ?_, fun b qs e => ?_⟩
        · by_cases z : b ∈ cl.map (·.2)
          · obtain ⟨o', φ, eo, e3⟩ := fz b z
            rw [e] at eo
            cases eo
            exact (show s'.heap.get? b = some o ∧ _ from hok3 b _ e3).1
          · exact un.keep b o e (by rw [out b z]; exact n) hb hx
        · exact un.slot b o e (by rw [out b fun z => cns b z hb]; exact n) hb hx
        · by_cases z : b ∈ cl.map (·.2)
          · exact unl_in z
          · rw [unl_out z]; exact un.free b o e (by rw [out b z]; exact n) hx
        · obtain ⟨nb, e2⟩ := es b _ e
          rw [unl_out nb]; exact un.tups b xs e2
        · obtain ⟨nb, e2⟩ := es b _ e
          rw [unl_out nb]; exact un.frzs b o u e2
        · obtain ⟨nb, e2⟩ := es b _ e
          rw [unl_out nb]; exact un.tbls b qs e2
      obtain ⟨hh, g, d, t, os'⟩ := s'
      obtain rfl : os' = s.os := os
      exact ⟨v, _, I.call (h' := hh) (g' := g) (d' := d) (t' := t) (ch := []) un2 (hok_unl fz' hok3) bare (fun b z => absurd z (by simp)), rv, q⟩
theorem pe_callM {OK : Addr → Sp → Prop} {k : Nat} {x : Str} {p pos : Pos} {e : Expr} {es : List Expr} {tf : TE} {t : TA} (hOK : ∀ f sp, OK f sp → (∃ fd ps, FnOk X.prog X.w X.K X.mg X.base CX0 k f fd ps sp ∧ Binds X.K fd ps []) ∧ ∀ vs H Q E, sp vs H Q E → ∃ fo : Obj, (∃ fd, fo.data = .func fd) ∧ H f = some (FnO f fo))
    (hr : Room k X.A) (hp : Passes CX0 X E0) (hf : PE X (.Name x p) tf) (ha : PA X (e :: es) t) (he : starEach (e :: es) X.env = (false, eval e X.env) :: starEach es X.env := by rfl) (hpl : (backTo pos (starEach es X.env)).any (·.1) = false := by rfl) :
    PE X (.Call (.Name x p) (e :: es) [] pos) (tCallM OK tf t) := by
  intro pins s σ H Q I h
  refine wpAny_Call_Name_kw (thn (hf pins s σ H _ I h) fun u s1 ⟨v, H1, I1, r1, q1⟩ => ?_)
  obtain ⟨f, sp, rfl, ok, ⟨fo1, ⟨fd1, d1⟩, e1⟩, q⟩ := q1
  cases r1
  obtain ⟨⟨fd, ps, F, hb⟩, hH⟩ := hOK f sp ok
  have at1 : ∀ {H1 : Hp} {s1 : Shared} {fo : Obj} {fd : FuncData}, HOk X.prog X.w H1 s1.heap → H1 f = some (FnO f fo) → fo.data = .func fd → PySem.W.FnAt f s1.heap := fun {H1 s1 fo fd} ok e d => by
    have := (show s1.heap.get? f = some fo ∧ _ from ok f _ e).1
    obtain ⟨c, di, dat, sl⟩ := fo
    have d : dat = .func fd := d
    subst d
    exact ⟨c, di, fd, sl, this⟩
  refine PySem.W.callWith_F (first := []) (at1 I1.hok e1 d1) (thn (ha pos pins s1 σ H1 _ I1 q) fun us s2 ⟨vs, H2, I2, r, q2⟩ => ?_) he hpl
  obtain ⟨fo2, ⟨fd2, d2⟩, e2⟩ := hH _ _ _ _ q2
  exact ⟨at1 I2.hok e2 d2, run_fn F hr hb .nil hp I2 r (by rw [List.append_nil]; exact q2)⟩
theorem x_callM {OK : Addr → Sp → Prop} {tf : TE} {t : TA} {σ : St} {H : Hp} {Q : VK} (h : tf σ H fun x H1 => ∃ f sp, x = .ref f ∧ OK f sp ∧ (∃ fo : Obj, (∃ fd, fo.data = .func fd) ∧ H1 f = some (FnO f fo)) ∧ t σ H1 fun vs H2 => sp vs H2 Q E0) : tCallM OK tf t σ H Q := h
end
end L2

set_option Elab.async false
set_option linter.all false
set_option maxRecDepth 100000
namespace L2
open PySem PySem.Spec PyProof.Rows

def OnlyT (ts : List Addr) (H : Hp) : Prop := (∀ b, H b = none ∨ (∃ o xs, H b = some (.frz o (.lst xs))) ∨ (b ∈ ts ∧ H b = some (.tbl #[]))) ∧ ∀ t ∈ ts, H t = some (.tbl #[])
theorem law_callT {P : Program} {w : World} {K : PySem.W.Frag} {mg mb : Str → Option Value} {k : Nat} {fa a : Addr} {fd : FuncData} {x : Str} {sp : Sp} {s₁ : Shared} {vs : List Value} {ns : List Int} {ts : List Addr}
    (KX : K.In s₁.heap) (hns : s₁.heap.Ns mainGlobals mg) (hb : s₁.heap.Ns builtinsNs mb) (hbb : ∀ x : Str, x ≠ "__name__" → mb x = bootBuiltins x) (hlim : s₁.heap.NoLimit) (hg : s₁.gens = #[]) (hB : BltM s₁.heap mg)
    (ha : s₁.heap.get? a = some { cls := .type "list", data := .seq vs.toArray }) (hi : IntsAre vs ns) (hl : ns.length ≤ sizeLine) (hr : Room k callerA)
    (hts : ∀ t ∈ ts, K.lookup t = none ∧ s₁.heap.get? t = some (PySem.W.tabObj #[]) ∧ isCodeTable s₁.heap t)
    (F : ∀ base : Heap, K.In base → base.Ns mainGlobals mg → BltM base mg → FnOk P w K mg base CX0 k fa fd [x] sp) (hbind : ∀ (s : Shared) (u : Value), BindsTo s fd ⟨[u], []⟩ [(x, u)])
    (hsp : ∀ H : Hp, OnlyT ts H → SqL K H a (ns.map V.int) → sp [.ref a] H (fun v _ => v = .bl true) fun _ _ _ => False)
    (hCX : ∀ H e s', CX0 [] H s₁ (fun _ _ _ => False) e s' → False) :
    codeAny (model P w) callerA (.call (.ref fa) ⟨[.ref a], []⟩) (fun r s' => r = .ok (.ret (.bool true)) ∧ OldK s₁.heap s'.heap ∧ s'.os = s₁.os ∧ AllBare s'.gens) s₁ := by
  have rv := vals_ints hi
  have lenV := hi.length
  have nta : ∀ t ∈ ts, t ≠ a := fun t ht z => by
    have := (hts t ht).2.1
    rw [z, ha] at this
    cases this
  have core : ∀ H : Hp, OnlyT ts H → SqL K H a (ns.map V.int) → HOk P w H s₁.heap → (∀ b, H b ≠ none → b = a ∨ b ∈ ts) → (H a ≠ none → K.lookup a = none) →
      codeAny (model P w) callerA (.call (.ref fa) ⟨[.ref a], []⟩) (fun r s' => r = .ok (.ret (.bool true)) ∧ OldK s₁.heap s'.heap ∧ s'.os = s₁.os ∧ AllBare s'.gens) s₁ := by
    intro H hO hS hok hA hK
    have free : ∀ {b : Addr} {o : Obj}, s₁.heap.get? b = some o → (∀ it n, o.data ≠ .seq it n) → (∀ fs, o.data ≠ .fields fs) → H b = none := fun {b o} e n1 n2 => by
      cases q : H b with
      | none => rfl
      | some u =>
        rcases hA b (by rw [q]; simp) with z | z
        · rw [z, ha] at e; cases e; exact absurd rfl (n1 _ _)
        · rw [(hts b z).2.1] at e; cases e; exact absurd rfl (n2 _)
    have nsK : ∀ {b : Addr} {m : Str → Option Value}, s₁.heap.Ns b m → (hidT s₁.heap H).Ns b m := fun {b m} ⟨o, es, ep, e, d, r⟩ => ⟨o, es, ep, hidT_get e (free e (fun _ _ z => by rw [d] at z; cases z) fun _ z => by rw [d] at z; cases z), d, r⟩
    have hKb : K.In (hidT s₁.heap H) := fun b o e => hidT_get (KX b o e) (by
      cases q : H b with
      | none => rfl
      | some u =>
        rcases hA b (by rw [q]; simp) with z | z
        · subst z; rw [hK (by rw [q]; simp)] at e; cases e
        · rw [(hts b z).1] at e; cases e)
    have hM : Mod K mg (hidT s₁.heap H) := ⟨hKb, nsK hns, ⟨mb, nsK hb, hbb⟩, let ⟨mc, h1, h2⟩ := hlim; ⟨mc, nsK h1, h2⟩⟩
    have hB' : BltM (hidT s₁.heap H) mg := let ⟨bm, ob, b1, b2, b3, b4, b5, b6, b7⟩ := hB; ⟨bm, ob, b1, b2, b3, hidT_get b4 (free b4 (fun _ _ z => by rw [b7] at z; cases z) fun _ z => by rw [b7] at z; cases z), b5, b6, b7⟩
    have e0 : Env0 P w K mg (hidT s₁.heap H) callerA [] s₁ H := ⟨rfl, hM, fun b o e => of_hidT e, Nat.le_of_eq (hidT_size _ _), trivial, fun b hb => absurd (show b ∈ ([] : List Addr) from hb) (by simp), hok, .of_eq hg⟩
    refine codeAny_mono ((F _ hKb (nsK hns) hB').run callerA [] s₁ H ⟨[.ref a], []⟩ [.ref a] [.ref a] _ _ hr e0 (hbind s₁ (.ref a)) (.cons rfl .nil) (hsp H hO hS)) fun r s' h => ?_
    cases r with
    | error e => exact (hCX H e s' h).elim
    | ok fl =>
      cases fl with
      | next => exact False.elim h
      | brk => exact False.elim h
      | cont => exact False.elim h
      | ret u =>
        obtain ⟨v, H', os, bare, un, hok', r', q⟩ := h
        have q' : v = .bl true := q
        subst q'
        obtain rfl : u = Value.bool true := r'
        have grown : ∀ t ∈ ts, ∃ ps, s'.heap.get? t = some (PySem.W.tabObj ps) := fun t ht => by
          obtain ⟨more, e⟩ := un.tbls t #[] (hO.2 t ht)
          exact ⟨_, (show s'.heap.get? t = some { cls := .none, data := .fields (#[] ++ more) } from hok' t _ e)⟩
        have keep : ∀ b o, b ∉ ts → s₁.heap.get? b = some o → s'.heap.get? b = some o := fun b o nb e => by
          rcases hO.1 b with z | ⟨ob, xs, z⟩ | ⟨z, _⟩
          · exact un.keep b o e z (by intro z; exact absurd (show b ∈ ([] : List Addr) from z) (by simp)) (by simp)
          · obtain ⟨e1, _⟩ := hok b _ z
            obtain ⟨e2, _⟩ := hok' b _ (un.frzs b ob _ z)
            rw [e] at e1; cases e1
            exact e2
          · exact absurd z nb
        refine ⟨rfl, ⟨fun b o e => ?_, fun b o e => ?_⟩, os, bare⟩
        · by_cases hb : b ∈ ts
          · obtain ⟨ps, hP⟩ := grown b hb
            obtain ⟨_, e2, ct⟩ := hts b hb
            rw [e] at e2
            cases e2
            exact .inr (.inl ⟨ct, rfl, #[], ps, rfl, by rw [Array.empty_append]; exact hP⟩)
          · exact .inl (keep b o hb e)
        · by_cases hb : b ∈ ts
          · obtain ⟨ps, hP⟩ := grown b hb
            exact ⟨_, hP⟩
          · exact ⟨o, keep b o hb e⟩
  cases hk : K.lookup a with
  | some o =>
    have e := KX a o hk
    rw [ha] at e
    cases e
    refine core (fun b => if b ∈ ts then some (.tbl #[]) else none) ⟨fun b => ?_, fun t ht => if_pos ht⟩ (.inr ⟨_, vs.toArray, _, hk, rfl, rfl, rfl, by rw [List.size_toArray, lenV]; exact hl, by simpa using rv⟩) (fun b u z => ?_) (fun b z => ?_) fun z => ?_
    · by_cases hb : b ∈ ts
      · exact .inr (.inr ⟨hb, if_pos hb⟩)
      · exact .inl (if_neg hb)
    · by_cases hb : b ∈ ts
      · have z' := (if_pos hb).symm.trans z
        cases z'
        exact (hts b hb).2.1
      · have z' := (if_neg hb).symm.trans z
        cases z'
    · by_cases hb : b ∈ ts
      · exact .inr hb
      · exact absurd (if_neg hb) z
    · exact absurd (if_neg fun q => nta a q rfl) z
  | none =>
    refine core (fun b => if b = a then some (.frz { cls := .type "list", data := .seq vs.toArray } (.lst (ns.map V.int))) else if b ∈ ts then some (.tbl #[]) else none) ⟨fun b => ?_, fun t ht => ?_⟩ (.inl (.inr ⟨{ cls := .type "list", data := .seq vs.toArray }, if_pos rfl⟩)) (fun b u z => ?_) (fun b z => ?_) fun _ => hk
    · by_cases hb : b = a
      · exact .inr (.inl ⟨_, _, if_pos hb⟩)
      · by_cases ht : b ∈ ts
        · exact .inr (.inr ⟨ht, by dsimp only; rw [if_neg hb, if_pos ht]⟩)
        · exact .inl (by dsimp only; rw [if_neg hb, if_neg ht])
    · dsimp only
      rw [if_neg (nta t ht), if_pos ht]
    · dsimp only at z
      by_cases hb : b = a
      · rw [if_pos hb] at z
        cases z
        subst hb
        exact ⟨ha, by rw [List.length_map]; exact hl, vs, _, rv, ha⟩
      · rw [if_neg hb] at z
        by_cases ht : b ∈ ts
        · rw [if_pos ht] at z
          cases z
          exact (hts b ht).2.1
        · rw [if_neg ht] at z
          cases z
    · by_cases hb : b = a
      · exact .inl hb
      · rw [if_neg hb] at z
        by_cases ht : b ∈ ts
        · exact .inr ht
        · rw [if_neg ht] at z
          exact absurd rfl z

theorem walk_ofT {l : PySem.W.OpenLaw} {n k : Nat} {q : Program} {loose : List Str} {XP : (Str → Option Value) → Heap → Prop} {YP : World → Heap → Prop} {d : DefRec} {K : Params → PySem.W.Frag} {sp : World → Sp} {x : Str} {tabs : List (Addr × Addr)}
    (hn : l.most = some n) (hn2 : n ≤ sizeLine) (hdf : d.params.defaults = []) (hr : Room k callerA)
    (hY : ∀ (w : World) (h : Heap), YP w h → (K w.params).In h ∧ ∀ t ∈ tabs.map (·.2), h.get? t = some (PySem.W.tabObj #[]))
    (hK : ∀ (w : World), ∀ q ∈ tabs, PySem.W.codeHdIn (K w.params) q.1 q.2 = true ∧ (K w.params).lookup q.2 = none)
    (F : ∀ (w : World) (mg : Str → Option Value) (fa : Addr) (h : Heap), (K w.params).In h → h.Ns mainGlobals mg → mg d.name = some (.ref fa) →
      ∃ fd : FuncData, (∀ (s : Shared) (u : Value), BindsTo s fd ⟨[u], []⟩ [(x, u)]) ∧
        ∀ base : Heap, (K w.params).In base → base.Ns mainGlobals mg → BltM base mg → FnOk l.prog w (K w.params) mg base CX0 k fa fd [x] (sp w))
    (hsp : ∀ (w : World) (H : Hp) (a : Addr) (ns : List Int), ns.length ≤ n → OnlyT (tabs.map (·.2)) H → SqL (K w.params) H a (ns.map V.int) → sp w [.ref a] H (fun v _ => v = .bl true) fun _ _ _ => False)
    (hCX : ∀ (H : Hp) (s : Shared) (e : Value) (s' : Shared), CX0 [] H s (fun _ _ _ => False) e s' → False) :
    PySem.W.WalkO q loose XP YP l.row.toRowW d [] (fun f vs => PySem.call f vs) := by
  refine Att.attach_call hn hdf fun w s₀ s₁ mg mb fa o pm cd doc a vs ns G Y ho hd hcd hmg hobj hints hlen hg => ?_
  obtain ⟨KX, hT⟩ := hY w _ Y
  obtain ⟨fd, hb, hF⟩ := F w mg fa _ KX G.T.g hmg
  have hB : BltM s₁.heap mg := by
    obtain ⟨bm, ob, b1, b2, b3, b4, b5, b6⟩ := G.T.bmain
    refine ⟨bm, ob, b1, b2, fun z => ?_, b3, b4, b5, b6⟩
    obtain ⟨o, es, ep, e, hd, _⟩ := G.T.g
    rw [z, e] at b3; cases b3; rw [hd] at b6; cases b6
  refine law_callT (ts := tabs.map (·.2)) KX G.T.g G.T.b G.T.builtins G.T.nolimit hg hB hobj hints (Nat.le_trans hlen hn2) hr (fun t ht => ?_) hF hb (fun H hO hS => hsp w H a ns hlen hO hS) fun H e s' => hCX H s₁ e s'
  obtain ⟨q, hq, rfl⟩ := List.mem_map.mp ht
  obtain ⟨h1, h2⟩ := hK w q hq
  exact ⟨h2, hT _ ht, ((PySem.W.codeHd_of_K KX h1).tab (hT _ ht)).isCodeTable⟩
end L2

set_option Elab.async false
set_option linter.all false
set_option maxRecDepth 100000
namespace L2
open PySem PySem.Spec PyProof.Rows

structure FunC (K : PySem.W.Frag) (x qual : Str) (st : Stmt) (f : Addr) (fd : FuncData) (c : Addr) : Prop where
  ex : ∃ (oc : Value) (od : Option Addr) (kV doc pm : Value) (an : Option Addr) (ct : Value) (osl : Array (Option Value)),
    fd = PySem.W.fnOf x qual (defArgs st) (defBody st) (defScope st) .none kV doc pm an (.ref c) ct ∧ K.lookup f = some ⟨oc, od, .func fd, osl⟩ ∧ PySem.W.codeIn K (.ref c) qual = true

def inDef (s : Stmt) (j : Nat) : Stmt := (defBody s).getD j (.Pass ⟨0, 0, 0, 0⟩)
section
variable {P : Program} {w : World} {K : PySem.W.Frag} {mg : Str → Option Value} {base : Heap}
theorem FunC.ok {x qual : Str} {st : Stmt} {f c : Addr} {fd : FuncData} {N ps : List Str} {k : Nat} {sp : Sp} (F : FunC K x qual st f fd c) (S : FnScope N ps (defScope st)) (len : ∀ vs H Q E, sp vs H Q E → vs.length = ps.length)
    (hbody : ∀ (A : Around) (outer : List Env) (s : Shared) (H : Hp) (vs : List V) (Q : VK) (E : XK), Room k (A.deeper (envOfC qual (defScope st) s.heap.objs.size f (.ref c))) → sp vs H Q E →
      ∃ t, PSs (cxOf CX0 P w K mg base N qual (defScope st) f (.ref c) A outer s H E).nox (defBody st) t ∧ t { nx := fun _ H' => Q .non H', rt := Q } (start N vs) H) : FnOk P w K mg base CX0 (k + 1) f fd ps sp := by
  obtain ⟨oc, od, kV, doc, pm, an, ct, osl, rfl, lk, hcd⟩ := F.ex
  refine fn_of lk hcd S len fun A outer s H vs Q E hr hsp => ?_
  obtain ⟨t, h, q⟩ := hbody A outer s H vs Q E hr hsp
  exact ⟨t, h.nox, q⟩

end

theorem unl_tup {cs : List Addr} {H : Hp} {b : Addr} {u : HO} (hc : ∀ c ∈ cs, ∃ o φ, H c = some (.frz o (.ext φ))) (e : H b = some u) (n : ∀ o φ, u ≠ .frz o (.ext φ)) : unl cs H b = some u := by
  rw [unl_out fun z => by obtain ⟨o, φ, q⟩ := hc b z; rw [e] at q; cases q; exact n _ _ rfl]
  exact e
theorem Lnd.same {H : Hp} {cl : List (Str × Addr)} {vals : List V} {H2 : Hp} (l : Lnd H cl vals H2) : Same H H2 := fun b o e => by
  rw [l.out b fun z => by rw [l.non b z] at e; cases e]
  exact e
theorem LentAll.up {H H' : Hp} {cl : List (Str × Addr)} {vals : List V} (l : LentAll H cl vals) (s : Same H H') : LentAll H' cl vals := ⟨l.1, fun i x c v e1 e2 => let ⟨o, e⟩ := l.2 i x c v e1 e2; ⟨o, s _ _ e⟩⟩
end L2

set_option Elab.async false
set_option linter.all false
set_option maxRecDepth 100000
namespace L2
open PySem PySem.Spec PyProof.Rows

def Tab1 (Pt : Addr) (pos : Pos) (qual : Str) (H : Hp) : Prop := H Pt = some (.tbl #[]) ∨ ∃ c', H Pt = some (.tbl #[rawInt pos.line, rawInt pos.col, .ref c']) ∧ H c' = some (CdO c' qual)
theorem Tab1.up {Pt : Addr} {pos : Pos} {qual : Str} {H H' : Hp} (t : Tab1 Pt pos qual H) (k : ∀ b o, H b = some o → (∃ ps, o = .tbl ps) ∨ (∃ φ, o = .ext φ) → H' b = some o) : Tab1 Pt pos qual H' := by
  rcases t with t | ⟨c, t, u⟩
  · exact .inl (k _ _ t (.inl ⟨_, rfl⟩))
  · exact .inr ⟨c, k _ _ t (.inl ⟨_, rfl⟩), k _ _ u (.inr ⟨_, rfl⟩)⟩
theorem Tab1.same {Pt : Addr} {pos : Pos} {qual : Str} {H H' : Hp} (t : Tab1 Pt pos qual H) (s : Same H H') : Tab1 Pt pos qual H' := t.up fun b o e _ => s b o e

def tDefT (Pt : Addr) (i : Nat) (pos : Pos) (qual : Str) (mk : Value → Addr → Value → Obj) : TS := fun D σ H => Tab1 Pt pos qual H ∧
  ∀ f c' doc ctv H', H f = none → SmB Pt H H' → H' f = some (FnO f (mk doc c' ctv)) → H' c' = some (CdO c' qual) → H' Pt = some (.tbl #[rawInt pos.line, rawInt pos.col, .ref c']) → D.nx (σ.set i (some (.ref f))) H'
section
variable {X : Cx}
theorem ps_defT {name : Str} {params : Arguments} {body : List Stmt} {scope : Scope} {pos : Pos} {i : Nat} {c Pt : Addr} {clos : List (Str × Addr)} (hN : X.N.Nodup) (hi : X.N[i]? = some name) (hx : Loc X.env.scope name) (hf : X.fn name = true ∨ X.env.scope.names.lookup name = some .local)
    (hd0 : params.defaults = []) (hk0 : params.kw_defaults = []) (ha : annTrees params none X.env = []) (hcl : closureFor scope X.env = pure clos) (hcode : X.env.code = .ref c) (hC : PySem.W.CodeHd X.base c Pt) (hB : BltM X.base X.mg) :
    PS X (.FunctionDef name params body [] none [] scope none name pos) (tDefT Pt i pos (qualnameIn X.env name name) fun doc c' ctv => PySem.W.fnMade name (qualnameIn X.env name name) params body scope clos doc ((X.mg "__name__").getD .none) c' ctv) := by
  intro pins s σ H D I h
  obtain ⟨tb, q⟩ := h
  rcases tb with hP | ⟨c', hP, hc'⟩
  · refine ps_def hN hi hx hf hd0 hk0 ha hcl hcode hC hB pins s σ H D I ⟨#[], hP, True.intro, rfl, fun f c' doc ctv H' h1 h2 h3 o e1 e2 e3 => q f c' doc ctv H' h1 (fun b v n e => ?_) e1 e2 e3⟩
    rw [o b (ne_of_none e h1) (ne_of_none e h2) n]
    exact e
  · have oP : s.heap.get? Pt = some (PySem.W.tabObj #[rawInt pos.line, rawInt pos.col, .ref c']) := I.hok Pt _ hP
    have nb : ∀ b o, X.base.get? b = some o → b ≠ Pt := fun b o e z => by have := (I.bs b o e).2; rw [z, hP] at this; cases this
    have hg : s.heap.Ns mainGlobals X.mg := I.mod.glob.keeps I.bk
    obtain ⟨bm, ob, b1, b2, b3, b4, b5⟩ := hB
    refine PySem.W.nestDef_K hd0 hk0 ha ?_
    refine PySem.W.makeFunction_hit (mg := X.mg) (cv := .ref c') hcl I.ok.glob hg hcode (hC.keeps I.bk) oP (by simp [TriplesOk, rawInt]) (by simp [codeAmong, rawInt]) ⟨bm, ob, b1, b2, b3, nb _ _ b4, I.bk _ _ b4, b5⟩ fun ctv doc h' tk hk hsz => ?_
    have Hf : H h'.objs.size = none := I.hok.fresh hsz
    have I2 := I.laid (a := h'.objs.size) (t' := tk) (o := FnO h'.objs.size (PySem.W.fnMade name (qualnameIn X.env name name) params body scope clos doc ((X.mg "__name__").getD .none) c' ctv)) (h' := h'.push (PySem.W.fnMade name (qualnameIn X.env name name) params body scope clos doc ((X.mg "__name__").getD .none) c' ctv)) (fun b u e => Heap.get?_push_of_some _ (hk b u e)) hsz
      ⟨Heap.get?_push_size _ rfl, ⟨_, Heap.get?_push_size _ rfl⟩, fun h1 h2 e k => k _ e⟩
    have es := same_upd (o := FnO h'.objs.size (PySem.W.fnMade name (qualnameIn X.env name name) params body scope clos doc ((X.mg "__name__").getD .none) c' ctv)) Hf
    exact store_ok I2 hN hi hx (v := .ref h'.objs.size) rfl (fun s' I' => ⟨_, _, I', q h'.objs.size c' doc ctv _ Hf (fun b v _ e => es b v e) upd_same (es _ _ hc') (es _ _ hP)⟩) hf
end
theorem x_defT {Pt : Addr} {i : Nat} {pos : Pos} {qual : Str} {mk : Value → Addr → Value → Obj} {u : TS} {D : Ends} {σ : St} {H : Hp} (hT : Tab1 Pt pos qual H)
    (h : ∀ f c' doc ctv H', H f = none → SmB Pt H H' → H' f = some (FnO f (mk doc c' ctv)) → H' c' = some (CdO c' qual) → H' Pt = some (.tbl #[rawInt pos.line, rawInt pos.col, .ref c']) → u D (σ.set i (some (.ref f))) H') : tSeq (tDefT Pt i pos qual mk) u D σ H := ⟨hT, h⟩
section
variable {P : Program} {w : World} {K : PySem.W.Frag} {mg : Str → Option Value} {base : Heap}

end
section
variable {X : Cx}

theorem call_listG (hc : X.calm = true) : CallR X (.type "list") (fun xs H Q => ∃ (d : Addr) (m : List (Int × V)), xs = [.ref d] ∧ Rd H d (.dK (dG m)) ∧ m.length ≤ 1000 ∧ ∀ (l : Addr), H l = none → Q (.ref l) (upd H l (.lst ((m.map (·.1)).map V.int)))) := by
  intro pins s σ H xs us Q I r h
  obtain ⟨d, m, rfl, hd, hlen, q⟩ := h
  obtain ⟨u, rfl, rx⟩ := vals1 r
  cases rx
  obtain ⟨z, hS, vs, rel, dd⟩ := dk_rd I.hok hd
  obtain ⟨ep, hat⟩ := dd.dictAt
  have hl : vs.length = m.length := by rw [← rel.length, dG_len]
  refine PySem.W.kdl_call (A := X.A) (PySem.W.kdl_dict (knd := mixKind X.prog X.w) (kvs := vs) (ep := ep) hS) (I.ok.hd hc) hat (by rw [hl]; exact Nat.le_of_lt (small1000 (by omega))) fun h' tk acc c hk he hacc => ?_
  have hi : IntsAre acc.toList (m.map (·.1)) := keys_intsG (P := X.prog) (w := X.w) rel (by rw [Array.length_toList]; exact hacc.1) fun j v e => hacc.2 j v (by rw [← Array.getElem?_toList]; exact e)
  exact ⟨.ref s.heap.objs.size, _, I.lay_ints (tk := tk) (e := c) hk he hi (by rw [List.length_map]; exact Nat.le_of_lt (small1000 (by omega))), rfl, q _ (I.hok.fresh (Nat.le_refl _))⟩
end
section
variable {me hd ba ye vo re ag : V}
theorem chf_has_enough : (chf me hd ba ye vo re ag).lookup ("has_enough" : Str) = none := by kernel_rfl
theorem chf_made_by : (chf me hd ba ye vo re ag).lookup ("made_by" : Str) = none := by kernel_rfl
theorem chf_propose : (chf me hd ba ye vo re ag).lookup ("propose" : Str) = none := by kernel_rfl
end
end L2

set_option Elab.async false
set_option linter.all false
set_option maxRecDepth 100000
namespace L2
open PySem PySem.Spec PyProof.Rows

def mtL (ms : List (Addr × Sp)) (m : Str) (ix : List Nat) (cl : List (Str × Addr)) (t : TA) (σ : St) (x : V) (H : Hp) (Q : VK) : Prop :=
  ∃ cs ∈ ms, ∃ a dx fs, x = .ref a ∧ H a = some (.ins cs.1 dx fs) ∧ fs.lookup m = none ∧ t σ H fun vs H2 => ∃ vals : List V, cl.length = vals.length ∧ (∀ (j : Nat) i v, ix[j]? = some i → vals[j]? = some v → σ[i]? = some (some v)) ∧
    ∀ H3, Lnd H2 cl vals H3 → cs.2 (x :: vs) H3 (unlQ (cl.map (·.2)) Q) E0
def tMethL (ms : List (Addr × Sp)) (m : Str) (ix : List Nat) (cl : List (Str × Addr)) (ta : TE) (t : TA) : TE := fun σ H Q => ta σ H fun x H1 => mtL ms m ix cl t σ x H1 Q
section
variable {X : Cx} {k : Nat} {m : Str} {pos apos : Pos} {e o : Expr} {es : List Expr} {ta : TE} {t : TA} {ix : List Nat} {cl : List (Str × Addr)}
theorem pe_methL {pl : Sem Bool} {ms : List (Addr × Sp)} (M : MOk X.prog X.w X.K X.mg X.base k m ms) (he : PE X o ta) (hr : Room k X.A) (O : OwnC X ix cl) (ha : PA X (e :: es) t)
    (hst : starEach (e :: es) X.env = (false, eval e X.env) :: starEach es X.env := by rfl) (hpl : (backTo pos (starEach es X.env)).any (·.1) = false := by rfl)
    (ht : eval (.Call (.Attribute o m apos) (e :: es) [] pos) X.env = (do
      let ov ← eval o X.env
      standAt apos.atName
      let (f, first) ← holding [ov] (getMethod ov m pl)
      callWith pos f first (backTo pos (starEach (e :: es) X.env)) (backToKw pos (keywordEach [] X.env))) := by rfl) :
    PE X (.Call (.Attribute o m apos) (e :: es) [] pos) (tMethL ms m ix cl ta t) := by
  intro pins s σ H Q I h
  refine PySem.W.methodCall_KW (pl := pl) (thn (he pins s σ H _ I h) fun u s1 ⟨x, H1, I1, rx, cs, hcs, a, dx, fs, ex, ea, l, q⟩ => ?_) ht
  subst ex
  obtain rfl : u = Value.ref a := rx
  obtain ⟨f, fd, ps, c, hm, F, hb⟩ := M cs hcs
  refine getmeth_ok I1 ea c hm l ?_
  refine PySem.W.callWith_K (first := [.ref a]) (h₀ := X.base) I.ok.mod.kin hm.kp (thn (ha pos pins s1 σ H1 _ I1 q) fun us s2 ⟨vs, H2, I2, r, vals, lv, hv, q2⟩ => ⟨I2.kIn, ?_⟩) hst hpl
  exact run_fnL (us := .ref a :: us) (vs := .ref a :: vs) F hr hb pass0 O I2 (.cons rfl r) lv hv q2
end
section
variable {σ : St} {H : Hp} {Q : VK} {ix : List Nat} {cl : List (Str × Addr)}
theorem x_methL {ms : List (Addr × Sp)} {m : Str} {ta : TE} {t : TA} (h : ta σ H fun x H1 => mtL ms m ix cl t σ x H1 Q) : tMethL ms m ix cl ta t σ H Q := h
theorem x_mtL {ms : List (Addr × Sp)} {m : Str} {t : TA} {C a dx : Addr} {sp : Sp} {fs : List (Str × V)} (e : H a = some (.ins C dx fs)) (l : fs.lookup m = none) (h : t σ H fun vs H2 => ∃ vals : List V, cl.length = vals.length ∧ (∀ (j : Nat) i v, ix[j]? = some i → vals[j]? = some v → σ[i]? = some (some v)) ∧
    ∀ H3, Lnd H2 cl vals H3 → sp (.ref a :: vs) H3 (unlQ (cl.map (·.2)) Q) E0) : mtL ((C, sp) :: ms) m ix cl t σ (.ref a) H Q := ⟨_, List.mem_cons_self, a, dx, fs, rfl, e, l, h⟩
end

section
variable {X : Cx} {pins : List (Addr × Obj)} {σ : St} {H : Hp} {s : Shared}
end
end L2

set_option Elab.async false
set_option linter.all false
set_option maxRecDepth 100000
namespace L2
open PySem PySem.Spec PyProof.Rows

def spF (f c' : Addr) (fo : Obj) (qual : Str) (cl : List (Str × Addr)) (vals : List V) (sp : Sp) : Sp := fun vs H Q E => H f = some (FnO f fo) ∧ H c' = some (CdO c' qual) ∧ LentAll H cl vals ∧ sp vs (unl (cl.map (·.2)) H) (fun v H' => (∀ c ∈ cl.map (·.2), H' c = none) → Q v (rln (cl.map (·.2)) H H')) E
section
variable {CX : CXT} {P : Program} {w : World} {K : PySem.W.Frag} {mg : Str → Option Value} {base : Heap} {N ps : List Str} {qual : Str} {scope : Scope} {f : Addr} {cd : Value} {cl : List (Str × Addr)} {A : Around} {outer : List Env} {s : Shared} {H : Hp} {E : XK} {us : List Value} {vs vals : List V}
theorem fn_ofF {k : Nat} {name : Str} {params : Arguments} {body : List Stmt} {c' : Addr} {doc pm ctv : Value} {sp : Sp} (S : ScM N ps (cl.map (·.1)) scope) (nd2 : (cl.map (·.2)).Nodup)
    (len : ∀ vs H Q E, sp vs H Q E → vs.length = ps.length)
    (hbody : ∀ (A : Around) (outer : List Env) (s : Shared) (H : Hp) (vs : List V) (Q : VK) (E : XK), Room k (A.deeper (PySem.W.envX qual scope s.heap.objs.size f (.ref c') cl)) → sp vs (unl (cl.map (·.2)) H) Q E →
      ∃ t, PSs (cxM CX P w K mg base N qual scope f (.ref c') cl A outer s H E) body t ∧ t { nx := fun _ H' => Q .non H', rt := Q } (start N (vs ++ vals)) (unl (cl.map (·.2)) H)) :
    FnOk P w K mg base CX (k + 1) f (PySem.W.fnX name qual params body scope cl .none .none doc pm none (.ref c') ctv) ps (spF f c' (PySem.W.fnMade name qual params body scope cl doc pm c' ctv) qual cl vals sp) := by
  refine ⟨fun vs H Q E h => len _ _ _ _ h.2.2.2, fun A outer s H args us vs Q E hr e0 hb r hsp => ?_⟩
  obtain ⟨hf, hc, ln, hs⟩ := hsp
  have hl := len _ _ _ _ hs
  have fz := ln.frz
  have lim : s.heap.NoLimit := e0.mod.nolimit.keeps fun b o e => (e0.bs b o e).1
  have of : s.heap.get? f = some (PySem.W.fnMade name qual params body scope cl doc pm c' ctv) := (show s.heap.get? f = some _ ∧ _ from e0.hok f _ hf).1
  have oc : s.heap.CodeRec (.ref c') qual := (show s.heap.CodeRec (.ref c') qual ∧ _ from e0.hok c' _ hc).1
  refine codeAny_call_def (fd := PySem.W.fnX name qual params body scope cl .none .none doc pm none (.ref c') ctv) hr.depth of rfl lim oc rfl hb S.cel (fun y hy => S.par y.1 (List.of_mem_zip (show (y.1, y.2) ∈ ps.zip us from hy)).1) (fun h₁ hns hk => ?_) S.co S.gen S.kind
  obtain ⟨t, ht, hq⟩ := hbody A outer s H vs _ E (hr.deeper _) hs
  have I : Inv (cxM CX P w K mg base N qual scope f (.ref c') cl A outer s H E) [] (start N (vs ++ vals)) (unl (cl.map (·.2)) H) { s with heap := h₁, toks := s.toks + (ps.zip us).length } := inv_startM S hr.hd e0 hl r nd2 ln hns hk
  refine wpAny_mono (ht [] _ (start N (vs ++ vals)) _ _ I hq) (fun fl s' hs => ?_) fun e s' hs => hs
  have fin : ∀ {σ' : St} {H' : Hp} {v : V} {u : Value}, Inv (cxM CX P w K mg base N qual scope f (.ref c') cl A outer s H E) [] σ' H' s' → RelV v u → ((∀ c ∈ cl.map (·.2), H' c = none) → Q v (rln (cl.map (·.2)) H H')) → CE outer P w H s Q u s' := fun {σ' H' v u} J rv q => by
    have fr : ∀ c ∈ cl.map (·.2), H' c = none := fun c hc => by
      obtain ⟨p, hp, rfl⟩ := List.mem_map.mp hc
      have nd1 : (cl.map (·.1)).Nodup := by
        have := S.nd.sublist (List.take_sublist (ps ++ cl.map (·.1)).length N)
        rw [S.pre, List.nodup_append] at this
        exact this.2.1
      exact J.freeC p.1 p.2 (lkS_mem nd1 hp)
    have kp : ∀ c ∈ cl.map (·.2), ∀ o, s.heap.get? c = some o → s'.heap.get? c = some o := fun c hc o e => by
      refine J.base.keep c o e (unl_in hc) (fun z => ?_) (fun z => absurd (show c ∈ ([] : List Addr) from z) (by simp))
      obtain ⟨_, _, q⟩ := fz c hc
      rw [e0.frf c z] at q
      cases q
    exact ⟨v, _, J.os, J.bare, un_rln fz J.base, hok_rln fz e0.hok J.hok fr kp, rv, q fr⟩
  cases fl with
  | ret u =>
    obtain ⟨v, σ', H', J, rv, q⟩ := hs
    exact fin J rv q
  | next =>
    obtain ⟨σ', H', J, q⟩ := hs
    exact fin (v := V.non) (u := Value.none) J rfl q
  | brk =>
    obtain ⟨_, _, _, q⟩ := hs
    exact False.elim q
  | cont =>
    obtain ⟨_, _, _, q⟩ := hs
    exact False.elim q
end
section
variable {P : Program} {w : World} {K : PySem.W.Frag} {mg : Str → Option Value} {base : Heap}

theorem made_okF {N ps : List Str} {k : Nat} {st : Stmt} {name qual : Str} {f c' : Addr} {doc pm ctv : Value} {cl : List (Str × Addr)} {vals : List V} {sp : Sp} (S : ScM N ps (cl.map (·.1)) (defScope st)) (nd2 : (cl.map (·.2)).Nodup) (len : ∀ vs H Q E, sp vs H Q E → vs.length = ps.length)
    (hbody : ∀ (A : Around) (outer : List Env) (s : Shared) (H : Hp) (vs : List V) (Q : VK) (E : XK), Room k (A.deeper (PySem.W.envX qual (defScope st) s.heap.objs.size f (.ref c') cl)) → sp vs (unl (cl.map (·.2)) H) Q E →
      ∃ t, PSs (cxM CX0 P w K mg base N qual (defScope st) f (.ref c') cl A outer s H E).nox (defBody st) t ∧ t { nx := fun _ H' => Q .non H', rt := Q } (start N (vs ++ vals)) (unl (cl.map (·.2)) H)) :
    FnOk P w K mg base CX0 (k + 1) f (PySem.W.fnX name qual (defArgs st) (defBody st) (defScope st) cl .none .none doc pm none (.ref c') ctv) ps (spF f c' (PySem.W.fnMade name qual (defArgs st) (defBody st) (defScope st) cl doc pm c' ctv) qual cl vals sp) := by
  refine fn_ofF S nd2 len fun A outer s H vs Q E hr hsp => ?_
  obtain ⟨t, h, q⟩ := hbody A outer s H vs Q E hr hsp
  exact ⟨t, h.nox, q⟩
end
section
variable {X : Cx} {K : PySem.W.Frag}
end
end L2

set_option Elab.async false
set_option linter.all false
set_option maxRecDepth 100000
namespace L2
open PySem PySem.Spec PyProof.Rows

section
variable {P : Program} {w : World} {K : PySem.W.Frag} {mg : Str → Option Value} {base : Heap} {N : List Str} {qual : Str} {scope : Scope} {f : Addr} {cd : Value} {A : Around} {outer : List Env} {s : Shared} {H : Hp} {E : XK}

end
end L2

set_option Elab.async false
set_option linter.all false
set_option maxRecDepth 100000
namespace L2
open PySem PySem.Spec PyProof.Rows

section
variable {X : Cx} {pins : List (Addr × Obj)} {σ : St} {H H' : Hp} {s s' : Shared} {B h2 : Heap} {ea C : Addr} {a0 : Value}

end

section
variable {X : Cx} {pins : List (Addr × Obj)} {σ : St} {H : Hp} {s : Shared}

end
section
variable {M : Model} {A : Around} {E : Value → Shared → Prop}

end
end L2

set_option Elab.async false
set_option linter.all false
set_option maxRecDepth 100000
namespace L2
open PySem PySem.Spec PyProof.Rows

section
variable {X : Cx} {pins pins' : List (Addr × Obj)} {σ : St} {H : Hp} {s s' : Shared} {EE : St → XK}
end

end L2

set_option Elab.async false
set_option linter.all false
set_option maxRecDepth 100000
namespace L2
open PySem PySem.Spec PyProof.Rows PySem.W

section
variable {prog : Program} {w : World} {A : Around} {E : Value → Shared → Prop} {K : PySem.W.Frag} {x C : Addr}

end

end L2

set_option Elab.async false
set_option linter.all false
set_option maxRecDepth 100000
namespace L2
open PySem PySem.Spec PyProof.Rows
section
variable {P : Program} {w : World} {K : PySem.W.Frag} {mg : Str → Option Value} {base : Heap}

end

section
variable {X : Cx} {k : Nat} {f : Addr} {fd : FuncData} {ps : List Str} {sp : Sp} {x : Str} {e : Expr} {es : List Expr} {t : TA} {p pos : Pos}
end
section
variable {D : Ends} {σ : St} {H : Hp} {Q : VK}
end
end L2

set_option Elab.async false
set_option linter.all false
set_option maxRecDepth 100000
namespace L2
open PySem PySem.Spec PyProof.Rows

section
variable {X : Cx} {tg : Expr}
end
end L2

set_option Elab.async false
set_option linter.all false
set_option maxRecDepth 100000
namespace L2
open PySem PySem.Spec PyProof.Rows PySem.W
section
variable {prog : Program} {w : World} {A : Around} {E : Value → Shared → Prop} {K : PySem.W.Frag} {x C : Addr} {name : Str} {v : Value} {s : Shared}

end
section
variable {prog : Program} {w : World} {A : Around} {E : Value → Shared → Prop} {K : PySem.W.Frag} {x C : Addr} {name : Str} {v : Value} {s : Shared} {vs : Array Value} {sl : Array (Option Value)}

end

section
variable {X : Cx} {pins : List (Addr × Obj)} {σ : St} {H : Hp} {s : Shared} {e C dx : Addr} {f : Str} {y : V} {u : Value}

end
section
variable {prog : Program} {w : World} {A : Around} {K : PySem.W.Frag} {C fI : Addr} {h : Heap} {g : Array GenState} {d : Drawn} {t : Nat} {os : OsState} {B newId initId : String} {bmB : List Value}

end

section
variable {X : Cx} {k : Nat} {f C : Addr} {fd : FuncData} {ps : List Str} {sp : Sp} {B newId initId : String} {bmB : List Value}
end

section
variable {prog : Program} {w : World} {A : Around} {E : Value → Shared → Prop} {s : Shared} {env : Env}
end
section
variable {P : Program} {w : World} {K : PySem.W.Frag} {mg : Str → Option Value} {base : Heap} {N : List Str} {qual : Str} {scope : Scope} {f : Addr} {cd : Value} {A : Around} {outer : List Env} {s : Shared} {H : Hp} {E : XK}
end
end L2

set_option Elab.async false
set_option linter.all false
set_option maxRecDepth 100000
namespace L2
open PySem PySem.Spec PyProof.Rows

section
variable {P : Program} {w : World} {K : PySem.W.Frag} {mg : Str → Option Value} {base : Heap} {x qual : Str} {st : Stmt} {f : Addr} {fd : FuncData} {ds ds' : List Value}
end

section
variable {X : Cx} {k : Nat} {f C : Addr} {fd : FuncData} {ps : List Str} {sp : Sp} {m : Str} {e o : Expr} {es : List Expr} {ta : TE} {t : TA} {p pos apos : Pos}
end
section
variable {D : Ends} {σ : St} {H : Hp} {Q : VK}
end
end L2

set_option Elab.async false
set_option linter.all false
set_option maxRecDepth 100000
namespace L2
open PySem PySem.Spec PyProof.Rows

section
variable {me nu ha ro ma dn tk kp od tb ab v : V}
end
end L2

set_option Elab.async false
set_option linter.all false
set_option maxRecDepth 100000
namespace GX
open PySem PySem.Spec PyProof.Rows

abbrev itmO (f0 : Value) (d : Addr) (i n ep : Nat) (ok ov : Value) : Obj := { cls := .type "dict_itemiterator", data := .fields #[f0, .bool false, .ref d, .int i 0, .int n 0, .int ep 0, ok, ov] }

abbrev keyO (d : Addr) (i n ep : Nat) : Obj := { cls := .type "dict_keyiterator", data := .fields #[.ref d, .int i 0, .int n 0, .int ep 0] }
set_option maxHeartbeats 1000000 in
theorem mKeyItem (it d : Addr) (i ep : Nat) (es : Array DictEntry) (e : DictEntry) (hx : es[i]? = some e) :
    Meets (Builtin.«dict_keyiterator.__next__» ⟨[.ref it], []⟩) (fun _ R s => s.heap.get? it = some (keyO d i es.size ep) ∧ s.heap.get? d = some (dictO es ep) ∧
      ∀ g, g.get? it = some (keyO d (i + 1) es.size ep) → Heap.SameBut it s.heap g → R (.ok (.ret e.key)) { s with heap := g }) :=
  .of_wp fun prog w A R s ⟨h1, h2, q⟩ => by
    obtain ⟨h, g, dr, tk, os⟩ := s
    have hT : Shared.TypeIs { heap := h, gens := g, drawn := dr, toks := tk, os := os } (.ref it) "dict_keyiterator" := ⟨_, h1, rfl⟩
    wp_walk
    rw [if_neg (by omega), Int.toNat_natCast, hx]
    wp_walk
    have ow : Builtin.Dict_items.ownsTuple ((Manifest.find? "dict_keyiterator").elim "dict_keyiterator" fun x => x.tpName) = false := by decide +kernel
    refine ⟨_, rfl, q _ ?_ (Heap.SameBut.update ..)⟩
    rw [Heap.get?_update_self _ h1 rfl, ow]
    simp [Obj.mapFields, rawInt]
    intro x hx hm
    exfalso
    revert x hx hm
    decide +kernel
set_option maxHeartbeats 1000000 in
theorem mKeyEnd (it d : Addr) (i ep : Nat) (es : Array DictEntry) (hi : es.size ≤ i) :
    Meets (Builtin.«dict_keyiterator.__next__» ⟨[.ref it], []⟩) (fun A R s => A.handled = none ∧ s.heap.get? it = some (keyO d i es.size ep) ∧ s.heap.get? d = some (dictO es ep) ∧
      ∀ g e, Heap.ExtBut it s.heap g → Shared.TypeIs { s with heap := g } (.ref e) "StopIteration" → R (.error (.ref e)) { s with heap := g }) :=
  .of_wp fun prog w A R s ⟨h0, h1, h2, q⟩ => by
    obtain ⟨h, g, dr, tk, os⟩ := s
    have hT : Shared.TypeIs { heap := h, gens := g, drawn := dr, toks := tk, os := os } (.ref it) "dict_keyiterator" := ⟨_, h1, rfl⟩
    have h0' : A.in1.handled = none := h0
    wp_walk
    rw [if_neg (by omega), Int.toNat_natCast, Array.getElem?_eq_none hi]
    wp_walk
    simp only [raiseNew]
    wp_walk
    exact q _ _ (fun b o nb e => Heap.get?_push_of_some _ (Heap.get?_push_of_some _ (((Heap.SameBut.update ..).2 b nb).trans e))) ⟨_, Heap.get?_push_size _ rfl, rfl⟩
set_option maxHeartbeats 2000000 in
theorem mItmItem (it d : Addr) (i ep : Nat) (ok ov : Value) (es : Array DictEntry) (e : DictEntry) (hx : es[i]? = some e) :
    Meets (Builtin.«dict_itemiterator.__next__» ⟨[.ref it], []⟩) (fun _ R s => s.heap.get? it = some (itmO .none d i es.size ep ok ov) ∧ s.heap.get? d = some (dictO es ep) ∧
      ∀ g, g.get? it = some (itmO (rawInt s.heap.objs.size) d (i + 1) es.size ep e.key e.val) → g.get? s.heap.objs.size = some { cls := .type "tuple", data := .seq #[e.key, e.val] } → (∀ b o, b ≠ it → s.heap.get? b = some o → g.get? b = some o) → R (.ok (.ret (.ref s.heap.objs.size))) { s with heap := g }) :=
  .of_wp fun prog w A R s ⟨h1, h2, q⟩ => by
    obtain ⟨h, g, dr, tk, os⟩ := s
    have hT : Shared.TypeIs { heap := h, gens := g, drawn := dr, toks := tk, os := os } (.ref it) "dict_itemiterator" := ⟨_, h1, rfl⟩
    have ow : Builtin.Dict_items.ownsTuple ((Manifest.find? "dict_itemiterator").elim "dict_itemiterator" fun x => x.tpName) = true := by decide +kernel
    wp_walk
    rw [if_neg (by omega), Int.toNat_natCast, hx]
    have lt : it < h.objs.size := Heap.lt_size h1
    have up : ((i : Int) + 1) = ((i + 1 : Nat) : Int) := by omega
    refine wpAny_bind (wpAny_bind (wpAny_typeNameOfWhole_itemiter hT (wpAny_pure ?_)))
    refine wpAny_bind (wpAny_isOneOf_itemiter hT ?_)
    show wpAny _ _ (setField (.ref it) 3 (rawInt ((i : Int) + 1)) >>= _) _ _ ⟨h, g, dr, tk, os⟩
    rw [up]
    refine wpAny_bind (wpAny_setField_rec h1 (by simp) fun g1 e1 b1 => ?_)
    have e1 : g1.get? it = some (itmO .none d (i + 1) es.size ep ok ov) := e1
    have T1 : Shared.TypeIs ⟨g1, g, dr, tk, os⟩ (.ref it) "dict_itemiterator" := ⟨_, e1, rfl⟩
    refine wpAny_bind (wpAny_holding (wpAny_bind (wpAny_isOneOf_itemiter T1 (wpAny_bind (wpAny_isOneOf_itemiter T1 ?_)))))
    show wpAny _ _ (Builtin.Dict_items.pairFromOwner (.ref it) 6 e.key e.val) _ _ ⟨g1, g, dr, tk, os⟩
    refine wpAny_bind (wpAny_newTuple ?_)
    have z1 : g1.objs.size = h.objs.size := b1.1
    have k2 : ∀ b o, b ≠ it → h.get? b = some o → (g1.push { cls := .type "tuple", data := .seq #[e.key, e.val] }).get? b = some o := fun b o nb q => Heap.get?_push_of_some _ ((b1.2 b nb).trans q)
    have e2 : (g1.push { cls := .type "tuple", data := .seq #[e.key, e.val] }).get? it = some (itmO .none d (i + 1) es.size ep ok ov) := Heap.get?_push_of_some _ e1
    have t2 : (g1.push { cls := .type "tuple", data := .seq #[e.key, e.val] }).get? h.objs.size = some { cls := .type "tuple", data := .seq #[e.key, e.val] } := by rw [← z1]; exact Heap.get?_push_size _ rfl
    rw [z1]
    generalize g1.push { cls := .type "tuple", data := .seq #[e.key, e.val] } = g2 at k2 e2 t2 ⊢
    show wpAny _ _ (Builtin.Dict_items.ownedTupleIsFree (.ref it) >>= _) _ _ ⟨g2, g, dr, tk, os⟩
    refine wpAny_bind (wpAny_bind (wpAny_field e2 rfl (x := .none) rfl (wpAny_pure ?_)))
    rw [if_pos rfl]
    refine wpAny_bind (wpAny_field e2 rfl (x := ok) rfl (wpAny_bind (wpAny_field e2 rfl (x := ov) rfl ?_)))
    refine wpAny_bind (wpAny_setField_rec e2 (by simp) fun g3 e3 b3 => wpAny_bind (wpAny_setField_rec e3 (by simp) fun g4 e4 b4 => wpAny_bind (wpAny_setField_rec e4 (by simp) fun g5 e5 b5 => wpAny_bind (wpAny_setField_rec e5 (by simp) fun g6 e6 b6 => ?_))))
    have bb : ∀ b o, b ≠ it → g2.get? b = some o → g6.get? b = some o := fun b o nb q => (b6.2 b nb).trans ((b5.2 b nb).trans ((b4.2 b nb).trans ((b3.2 b nb).trans q)))
    exact wpAny_bind (wpAny_letGo (wpAny_pure (wpAny_pure ⟨_, rfl, q g6 e6 (bb _ _ (Nat.ne_of_gt lt) t2) fun b o nb w => bb b o nb (k2 b o nb w)⟩)))
set_option maxHeartbeats 1000000 in
theorem mItmEnd (it d : Addr) (i ep : Nat) (ok ov : Value) (es : Array DictEntry) (hi : es.size ≤ i) :
    Meets (Builtin.«dict_itemiterator.__next__» ⟨[.ref it], []⟩) (fun A R s => A.handled = none ∧ s.heap.get? it = some (itmO .none d i es.size ep ok ov) ∧ s.heap.get? d = some (dictO es ep) ∧
      ∀ g e, Heap.ExtBut it s.heap g → Shared.TypeIs { s with heap := g } (.ref e) "StopIteration" → R (.error (.ref e)) { s with heap := g }) :=
  .of_wp fun prog w A R s ⟨h0, h1, h2, q⟩ => by
    obtain ⟨h, g, dr, tk, os⟩ := s
    have hT : Shared.TypeIs { heap := h, gens := g, drawn := dr, toks := tk, os := os } (.ref it) "dict_itemiterator" := ⟨_, h1, rfl⟩
    have h0' : A.in1.handled = none := h0
    wp_walk
    rw [if_neg (by omega), Int.toNat_natCast, Array.getElem?_eq_none hi]
    refine wpAny_bind (wpAny_bind (wpAny_typeNameOfWhole_itemiter hT (wpAny_pure ?_)))
    refine wpAny_bind (wpAny_setField_rec h1 (by show _ < 8; split <;> decide) fun g1 e1 b1 => ?_)
    wp_walk
    simp only [raiseNew]
    wp_walk
    exact q _ _ (fun b o nb e => Heap.get?_push_of_some _ (Heap.get?_push_of_some _ ((b1.2 b nb).trans e))) ⟨_, Heap.get?_push_size _ rfl, rfl⟩
set_option maxHeartbeats 1000000 in
theorem mDictIter (d : Addr) (ep : Nat) (es : Array DictEntry) (hd : (d == sysModules) = false) :
    Meets (Builtin.«dict.__iter__» ⟨[.ref d], []⟩) (fun A R s => s.heap.get? d = some (dictO es ep) ∧ R (.ok (.ret (.ref s.heap.objs.size))) { s with heap := s.heap.push (keyO d 0 es.size ep) }) :=
  .of_wp fun prog w A R s ⟨h1, q⟩ => by
    obtain ⟨h, g, dr, tk, os⟩ := s
    have hT : Shared.TypeIs { heap := h, gens := g, drawn := dr, toks := tk, os := os } (.ref d) "dict" := ⟨_, h1, rfl⟩
    wp_walk
    exact ⟨_, rfl, q⟩
end GX

set_option Elab.async false
set_option linter.all false
set_option maxRecDepth 100000
namespace GX
open PySem PySem.Spec PyProof.Rows
theorem runItm {prog : Program} {w : World} {A : Around} {s : Shared} {it : Addr} {R : Result → Shared → Prop} {S : Around → (Result → Shared → Prop) → Shared → Prop} (hT : s.TypeIs (.ref it) "dict_itemiterator") (m : Meets (Builtin.«dict_itemiterator.__next__» ⟨[.ref it], []⟩) S) (h : S A R s) :
    codeAny (model prog w) A (.call (.builtin "dict_itemiterator.__next__") ⟨[.ref it], []⟩) R s :=
  codeAny_call_builtin F.slot_dict_itemiterator_next.plain F.entry_dict_itemiterator_next (F.slot_dict_itemiterator_next.check _ _ _ _ _ _ _ _ hT (F.args_dict_itemiterator_next_1 _) (m prog w A R s h))
theorem runKey {prog : Program} {w : World} {A : Around} {s : Shared} {it : Addr} {R : Result → Shared → Prop} {S : Around → (Result → Shared → Prop) → Shared → Prop} (hT : s.TypeIs (.ref it) "dict_keyiterator") (m : Meets (Builtin.«dict_keyiterator.__next__» ⟨[.ref it], []⟩) S) (h : S A R s) :
    codeAny (model prog w) A (.call (.builtin "dict_keyiterator.__next__") ⟨[.ref it], []⟩) R s :=
  codeAny_call_builtin F.slot_dict_keyiterator_next.plain F.entry_dict_keyiterator_next (F.slot_dict_keyiterator_next.check _ _ _ _ _ _ _ _ hT (F.args_dict_keyiterator_next_1 _) (m prog w A R s h))
section
variable {prog : Program} {w : World} {A : Around} {s : Shared} {E : Value → Shared → Prop} {it v d : Addr} {es : Array DictEntry} {i ep : Nat} {ok ov : Value}
theorem raw_iterK {Q : Value → Shared → Prop} (hS : (d == sysModules) = false) (rd : RawD s.heap d es ep)
    (q : Q (.ref s.heap.objs.size) { s with heap := s.heap.push (keyO d 0 es.size ep) }) : wpAny (model prog w) A (pyIter (.ref d)) Q E s := by
  have T : s.TypeIs (.ref d) "dict" := ⟨_, rd, rfl⟩
  apply wpAny_pyIter_slot T F.slot_dict_iter
  apply call_meets F.slot_dict_iter T F.entry_dict_iter (F.args_dict_iter_1 _) (mDictIter d ep es hS)
  exact ⟨rd, "dict_keyiterator", _, ⟨_, Heap.get?_push_size _ rfl, rfl⟩, F.slot_dict_keyiterator_next.lookup, q⟩
theorem raw_itemI {e : DictEntry} {Q : Option Value → Shared → Prop} (hit : s.heap.get? it = some (itmO .none d i es.size ep ok ov)) (rd : RawD s.heap d es ep) (hx : es[i]? = some e)
    (hQ : ∀ g, g.get? it = some (itmO (rawInt s.heap.objs.size) d (i + 1) es.size ep e.key e.val) → g.get? s.heap.objs.size = some { cls := .type "tuple", data := .seq #[e.key, e.val] } → (∀ b o, b ≠ it → s.heap.get? b = some o → g.get? b = some o) → Q (some (.ref s.heap.objs.size)) { s with heap := g }) : wpAny (model prog w) A (pyNext (.ref it)) Q E s := by
  have hT : s.TypeIs (.ref it) "dict_itemiterator" := ⟨_, hit, rfl⟩
  have hk := F.slot_dict_itemiterator_next.lookup
  have hb := F.slot_dict_itemiterator_next.bind (.ref it)
  unfold pyNext
  repeat' first | assumption | wp_step
  exact runItm hT (mItmItem it d i ep ok ov es e hx) ⟨hit, rd, fun g a b c => wpAny_pure (wpAny_pure (hQ g a b c))⟩
theorem raw_itemK {e : DictEntry} {Q : Option Value → Shared → Prop} (hit : s.heap.get? it = some (keyO d i es.size ep)) (rd : RawD s.heap d es ep) (hx : es[i]? = some e)
    (hQ : ∀ g, g.get? it = some (keyO d (i + 1) es.size ep) → Heap.SameBut it s.heap g → Q (some e.key) { s with heap := g }) : wpAny (model prog w) A (pyNext (.ref it)) Q E s := by
  have hT : s.TypeIs (.ref it) "dict_keyiterator" := ⟨_, hit, rfl⟩
  have hk := F.slot_dict_keyiterator_next.lookup
  have hb := F.slot_dict_keyiterator_next.bind (.ref it)
  unfold pyNext
  repeat' first | assumption | wp_step
  exact runKey hT (mKeyItem it d i ep es e hx) ⟨hit, rd, fun g a b => wpAny_pure (wpAny_pure (hQ g a b))⟩
theorem raw_endI {Q : Option Value → Shared → Prop} (hh : A.handled = none) (hit : s.heap.get? it = some (itmO .none d i es.size ep ok ov)) (rd : RawD s.heap d es ep) (hi : es.size ≤ i)
    (fin : ∀ g, Heap.ExtBut it s.heap g → Q none { s with heap := g }) : wpAny (model prog w) A (pyNext (.ref it)) Q E s := by
  have hT : s.TypeIs (.ref it) "dict_itemiterator" := ⟨_, hit, rfl⟩
  have hk := F.slot_dict_itemiterator_next.lookup
  have hb := F.slot_dict_itemiterator_next.bind (.ref it)
  have hst : isSubtype (.type "StopIteration") (.type "StopIteration") = pure true := by rw [isSubtype_type]; kernel_rfl
  unfold pyNext
  repeat' first | assumption | wp_step
  refine runItm hT (mItmEnd it d i ep ok ov es hi) ⟨hh, hit, rd, fun g e a b => ?_⟩
  have hq := fin g a
  repeat' first | assumption | wp_step
theorem raw_endK {Q : Option Value → Shared → Prop} (hh : A.handled = none) (hit : s.heap.get? it = some (keyO d i es.size ep)) (rd : RawD s.heap d es ep) (hi : es.size ≤ i)
    (fin : ∀ g, Heap.ExtBut it s.heap g → Q none { s with heap := g }) : wpAny (model prog w) A (pyNext (.ref it)) Q E s := by
  have hT : s.TypeIs (.ref it) "dict_keyiterator" := ⟨_, hit, rfl⟩
  have hk := F.slot_dict_keyiterator_next.lookup
  have hb := F.slot_dict_keyiterator_next.bind (.ref it)
  have hst : isSubtype (.type "StopIteration") (.type "StopIteration") = pure true := by rw [isSubtype_type]; kernel_rfl
  unfold pyNext
  repeat' first | assumption | wp_step
  refine runKey hT (mKeyEnd it d i ep es hi) ⟨hh, hit, rd, fun g e a b => ?_⟩
  have hq := fin g a
  repeat' first | assumption | wp_step
end
end GX

set_option Elab.async false
set_option linter.all false
set_option maxRecDepth 100000
namespace L2
open PySem PySem.Spec PyProof.Rows

theorem dt_rawK {P : Program} {w : World} {H : Hp} {h : Heap} {d : Addr} {kvs : List (List Key × V)} (ok : HOk P w H h) (e : Rd H d (.dT kvs)) :
    (d == sysModules) = false ∧ ∃ (es : Array DictEntry) (ep : Nat), GX.RawD h d es ep ∧ es.size = kvs.length ∧ ∀ (i : Nat) (k : List Key) (v : V), kvs[i]? = some (k, v) → ∃ (y : DictEntry) (b : Addr), es[i]? = some y ∧ y.key = .ref b ∧ H b = some (.tup (k.map kV)) ∧ RelV v y.val := by
  obtain ⟨_, hS, xs, kt, o, es, ep, h1, h2, h3, h4, _⟩ := dt_rd ok e
  refine ⟨hS, es, ep, .of h1 h2 h3, ?_, fun i k v hv => ?_⟩
  · rw [← Array.length_toList, h4, List.length_map]
    exact (Paired.length kt).symm
  · obtain ⟨q, hq, ek, hb, rv⟩ := paired_at kt hv
    refine ⟨entryOfKey (tupleKind (mixKind P w)) q, q.2.1, ?_, rfl, hb, rv⟩
    rw [← Array.getElem?_toList, h4, List.getElem?_map, hq]
    rfl
def ItmT (d : Addr) (o : Obj) (kvs : List (List Key × V)) : It :=
  ⟨fun i H => i < kvs.length ∧ H d = some (.frz o (.dT kvs)), fun i H x H' => ∃ k v a b, kvs[i]? = some (k, v) ∧ H a = none ∧ H b = some (.tup (k.map kV)) ∧ x = .ref a ∧ H' = upd H a (.tup [.ref b, v]), fun i H => kvs.length ≤ i ∧ H d = some (.frz o (.dT kvs))⟩
def ItkT (d : Addr) (o : Obj) (kvs : List (List Key × V)) : It :=
  ⟨fun i H => i < kvs.length ∧ H d = some (.frz o (.dT kvs)), fun i H x H' => H' = H ∧ ∃ k v b, kvs[i]? = some (k, v) ∧ H b = some (.tup (k.map kV)) ∧ x = .ref b, fun i H => kvs.length ≤ i ∧ H d = some (.frz o (.dT kvs))⟩
theorem raw_same {h : Heap} {d : Addr} {es es' : Array DictEntry} {ep ep' : Nat} (a : GX.RawD h d es ep) (b : GX.RawD h d es' ep') : es = es' := by
  have e : GX.dictO es ep = GX.dictO es' ep' := Option.some.inj (a.symm.trans b)
  cases e
  rfl
theorem turn_itemsT {P : Program} {w : World} {K : PySem.W.Frag} {elts : List Expr} {x1 : Nat} {tp : Pos} {d it : Addr} {o : Obj} {kvs : List (List Key × V)} {es : Array DictEntry} {ep : Nat} (sz : es.size = kvs.length) (fz : ∀ h : Heap, h.get? d = some o → GX.RawD h d es ep) :
    Turn P w K (.Tuple elts x1 tp) (ItmT d o kvs) [it] it (fun i h => ∃ ok ov, h.get? it = some (GX.itmO .none d i es.size ep ok ov)) where
  mem := by simp
  obj := fun i h ⟨ok, ov, st⟩ b hb => by
    have e : b = it := by simpa using hb
    subst e
    exact ⟨_, st, fun v z => by cases z⟩
  keep := fun i h h' ⟨ok, ov, st⟩ k => ⟨ok, ov, k it (by simp) _ st⟩
  item := by
    intro X hP hw hK hc i pins s σ H E I hf st hg
    subst hP hw hK
    obtain ⟨ok, ov, hit⟩ := st
    obtain ⟨hi, hd⟩ := hg
    have hdo : s.heap.get? d = some o := (show s.heap.get? d = some o ∧ _ from I.hok d _ hd).1
    have hx : kvs[i]? = some kvs[i] := List.getElem?_eq_getElem hi
    obtain ⟨_, es', ep', rd', _, rel⟩ := dt_rawK I.hok (.inr ⟨o, hd⟩)
    obtain rfl := raw_same (fz _ hdo) rd'
    obtain ⟨y, b, hy, yk, hb, ru⟩ := rel i kvs[i].1 kvs[i].2 hx
    refine GX.raw_itemI hit (fz _ hdo) hy fun h' hit' htup kp => ?_
    have hai : s.heap.objs.size ≠ it := fun z => by
      have := Heap.lt_size hit
      rw [← z] at this
      exact Nat.lt_irrefl _ this
    have hfi := hf it (by simp)
    have I1 : Inv X pins σ (upd H s.heap.objs.size (.tup [.ref b, kvs[i].2])) { s with heap := h' } :=
      I.turnLay kp hfi ⟨_, hit'⟩ (Nat.le_refl _) hai ⟨by show 2 ≤ sizeLine; decide, [y.key, y.val], .cons yk (.cons ru .nil), _, htup, rfl, 0, rfl, rfl, rfl⟩
    refine ⟨_, rfl, wpAny_letOwnedTupleGo_items hit' fun h2 hit2 sb => ?_⟩
    obtain ⟨f0, f1, f2, f3, f4, f5⟩ := hfi
    have f0' : (upd H s.heap.objs.size (.tup [.ref b, kvs[i].2])) it = none := by rw [upd_ne (Ne.symm hai)]; exact f0
    refine ⟨.ref s.heap.objs.size, _, I1.turned (t' := s.toks) (fun b o hb e => (sb.2 b hb).trans e) f0' f1 f3 f4 f5, rfl, ⟨_, _, _, b, hx, I.hok.fresh (Nat.le_refl _), hb, rfl, rfl⟩, ⟨y.key, y.val, hit2⟩, fun c hc => ?_⟩
    have e : c = it := by simpa using hc
    rw [e]
    exact f0'
  done := by
    intro X hP hw hK hc i pins s σ H E I hf st hg
    subst hP hw hK
    obtain ⟨ok, ov, hit⟩ := st
    obtain ⟨hi, hd⟩ := hg
    have hdo : s.heap.get? d = some o := (show s.heap.get? d = some o ∧ _ from I.hok d _ hd).1
    obtain ⟨f0, f1, f2, f3, f4, f5⟩ := hf it (by simp)
    exact GX.raw_endI (I.ok.hd hc) hit (fz _ hdo) (by omega) fun h' eb => ⟨rfl, I.turned (t' := s.toks) (fun b o hb e => eb b o hb e) f0 f1 f3 f4 f5⟩
  self := fun _ _ _ _ _ ⟨ok, ov, st⟩ h => PySem.W.kcp_self st h
theorem turn_keysT {P : Program} {w : World} {K : PySem.W.Frag} {tg : Expr} {d it : Addr} {o : Obj} {kvs : List (List Key × V)} {es : Array DictEntry} {ep : Nat} (sz : es.size = kvs.length) (fz : ∀ h : Heap, h.get? d = some o → GX.RawD h d es ep) :
    Turn P w K tg (ItkT d o kvs) [it] it (fun i h => h.get? it = some (GX.keyO d i es.size ep)) where
  mem := by simp
  obj := fun i h st b hb => by
    have e : b = it := by simpa using hb
    subst e
    exact ⟨_, st, fun v z => by cases z⟩
  keep := fun i h h' st k => k it (by simp) _ st
  item := by
    intro X hP hw hK hc i pins s σ H E I hf st hg
    subst hP hw hK
    obtain ⟨hi, hd⟩ := hg
    have hdo : s.heap.get? d = some o := (show s.heap.get? d = some o ∧ _ from I.hok d _ hd).1
    have hx : kvs[i]? = some kvs[i] := List.getElem?_eq_getElem hi
    obtain ⟨_, es', ep', rd', _, rel⟩ := dt_rawK I.hok (.inr ⟨o, hd⟩)
    obtain rfl := raw_same (fz _ hdo) rd'
    obtain ⟨y, b, hy, yk, hb, ru⟩ := rel i kvs[i].1 kvs[i].2 hx
    obtain ⟨f0, f1, f2, f3, f4, f5⟩ := hf it (by simp)
    refine GX.raw_itemK st (fz _ hdo) hy fun h' st' sb => ?_
    have I1 : Inv X pins σ H { s with heap := h' } := I.turned (t' := s.toks) (fun b o hb e => (sb.2 b hb).trans e) f0 f1 f3 f4 f5
    exact ⟨_, rfl, go_of (s := { s with heap := h' }) st' rfl rfl (by decide) ⟨.ref b, H, I1, yk, ⟨rfl, kvs[i].1, kvs[i].2, b, hx, hb, rfl⟩, st', fun b hb => (hf b hb).1⟩⟩
  done := by
    intro X hP hw hK hc i pins s σ H E I hf st hg
    subst hP hw hK
    obtain ⟨hi, hd⟩ := hg
    have hdo : s.heap.get? d = some o := (show s.heap.get? d = some o ∧ _ from I.hok d _ hd).1
    obtain ⟨f0, f1, f2, f3, f4, f5⟩ := hf it (by simp)
    exact GX.raw_endK (I.ok.hd hc) st (fz _ hdo) (by omega) fun h' eb => ⟨rfl, I.turned (t' := s.toks) (fun b o hb e => eb b o hb e) f0 f1 f3 f4 f5⟩
  self := fun _ _ _ _ _ st h => wpAny_pyIter_keyiter ⟨_, st, rfl, rfl⟩ h
section
variable {X : Cx}
theorem Inv.freezeT {pins : List (Addr × Obj)} {σ : St} {H1 : Hp} {s1 : Shared} {d : Addr} {o : Obj} {kvs : List (List Key × V)} (I2 : Inv X pins σ H1 s1) (hd : H1 d = some (.dT kvs)) (ho : s1.heap.get? d = some o) : Inv X pins σ (upd H1 d (.frz o (.dT kvs))) s1 :=
  I2.write (t' := s1.toks) (x := d) (e := d) (by rw [hd]; trivial) (.inl rfl) (fun _ _ _ e => e) ⟨o, ho⟩ ⟨ho, by
    obtain ⟨z, y, xs, kt, rest⟩ := (show ObjOk X.prog X.w H1 _ d (.dT kvs) from I2.hok d _ hd)
    exact ⟨z, y, xs, Paired.mapP kt fun _ _ ⟨a1, a2, a3⟩ => ⟨a1, by rw [upd_ne (ne_of a2 hd (by intro z; cases z))]; exact a2, a3⟩, rest⟩⟩
def iKeysT (td : TE) : TI := fun σ H R => td σ H fun x H1 => ∃ d kvs, x = .ref d ∧ H1 d = some (.dT kvs) ∧ ∀ o, R (ItkT d o kvs) (upd H1 d (.frz o (.dT kvs)))
theorem pi_keysT {tg e : Expr} {td : TE} (he : PE X e td) : PI X tg e (iKeysT td) := by
  intro pins s σ H R I h
  refine thn (he pins s σ H _ I h) fun v s1 ⟨x, H1, I1, r1, d, kvs, ex, hd, q⟩ => ?_
  subst ex
  obtain rfl : v = Value.ref d := r1
  obtain ⟨hS, es, ep, rd, sz, _⟩ := dt_rawK I1.hok (.inl hd)
  refine GX.raw_iterK hS rd ?_
  have I3 := I1.freezeT hd rd
  refine ⟨_, [_], _, ItkT d _ kvs, _, rfl, I3.kept (t' := s1.toks) fun b ob e => Heap.get?_push_of_some _ e, turn_keysT sz (fun _ e => e), Heap.get?_push_size _ rfl, fun b hb => ?_, q _⟩
  have eb : b = s1.heap.objs.size := by simpa using hb
  subst eb
  exact I3.fpOk (Nat.le_refl _) (I3.hok.fresh (Nat.le_refl _))
end

def fzTT (It' : Addr → Obj → List (List Key × V) → It) (x : V) (H : Hp) (R : It → Hp → Prop) : Prop := ∃ d kvs, x = .ref d ∧ H d = some (.dT kvs) ∧ ∀ o, R (It' d o kvs) (upd H d (.frz o (.dT kvs)))
theorem x_ikeysT {td : TE} {σ : St} {H : Hp} {R : It → Hp → Prop} (h : td σ H fun x H1 => fzTT ItkT x H1 R) : iKeysT td σ H R := h
theorem x_fzTT {It' : Addr → Obj → List (List Key × V) → It} {H : Hp} {d : Addr} {kvs : List (List Key × V)} {R : It → Hp → Prop} (hd : H d = some (.dT kvs)) (h : ∀ o A, A d = some (.frz o (.dT kvs)) → SmB d H A → R (It' d o kvs) A) : fzTT It' (.ref d) H R :=
  ⟨d, kvs, rfl, hd, fun o => h o _ upd_same fun b u n e => by rw [upd_ne n]; exact e⟩
theorem comp_itemsT {d : Addr} {o : Obj} {kvs : List (List Key × V)} {g : TG} {tt : TT} {te : TE} {σ : St} {H : Hp} {D : Addr} {Qe : Hp → Prop} (Pv : Nat → St → Hp → Prop) (h0 : Pv 0 σ H) (hl : ∀ i σ H, i ≤ kvs.length → Pv i σ H → H d = some (.frz o (.dT kvs)))
    (hs : ∀ i k v t b σ H H1, kvs[i]? = some (k, v) → Pv i σ H → H t = none → Same H H1 → H1 t = some (.tup [.ref b, v]) → H b = some (.tup (k.map kV)) → cTurn g tt te D (Pv (i + 1)) (.ref t) σ H1) (hd : ∀ σ H, Pv kvs.length σ H → Qe H) :
    ∃ W : Nat → Nat → St → Hp → Prop, (∃ m, W 0 m σ H) ∧ ∀ i m σ' H', W i m σ' H' → ((ItmT d o kvs).stop i H' ∧ Qe H') ∨ ((ItmT d o kvs).go i H' ∧ ∃ N : St → Hp → Prop, (∀ σ2 H2, N σ2 H2 → ∃ m', m' < m ∧ W (i + 1) m' σ2 H2) ∧
      ∀ x H'', (ItmT d o kvs).yld i H' x H'' → cTurn g tt te D N x σ' H'') := by
  refine ⟨fun i m σ H => m = kvs.length - i ∧ i ≤ kvs.length ∧ Pv i σ H, ⟨kvs.length, by simp, Nat.zero_le _, h0⟩, ?_⟩
  rintro i m σ H ⟨rfl, hi, p⟩
  have q := hl i σ H hi p
  by_cases hlt : i < kvs.length
  · refine .inr ⟨⟨hlt, q⟩, Pv (i + 1), fun σ' H' p' => ⟨kvs.length - (i + 1), by omega, rfl, hlt, p'⟩, fun x H' y => ?_⟩
    obtain ⟨k, v, a, b, e1, e2, e3, rfl, rfl⟩ := y
    exact hs i k v a b σ _ _ e1 p e2 (same_upd e2) upd_same e3
  · have e : i = kvs.length := by omega
    subst e
    exact .inl ⟨⟨Nat.le_refl _, q⟩, hd σ H p⟩
theorem comp_keysT {d : Addr} {o : Obj} {kvs : List (List Key × V)} {g : TG} {tt : TT} {te : TE} {σ : St} {H : Hp} {D : Addr} {Qe : Hp → Prop} (Pv : Nat → St → Hp → Prop) (h0 : Pv 0 σ H) (hl : ∀ i σ H, i ≤ kvs.length → Pv i σ H → H d = some (.frz o (.dT kvs)))
    (hs : ∀ i k v b σ H, kvs[i]? = some (k, v) → Pv i σ H → H b = some (.tup (k.map kV)) → cTurn g tt te D (Pv (i + 1)) (.ref b) σ H) (hd : ∀ σ H, Pv kvs.length σ H → Qe H) :
    ∃ W : Nat → Nat → St → Hp → Prop, (∃ m, W 0 m σ H) ∧ ∀ i m σ' H', W i m σ' H' → ((ItkT d o kvs).stop i H' ∧ Qe H') ∨ ((ItkT d o kvs).go i H' ∧ ∃ N : St → Hp → Prop, (∀ σ2 H2, N σ2 H2 → ∃ m', m' < m ∧ W (i + 1) m' σ2 H2) ∧
      ∀ x H'', (ItkT d o kvs).yld i H' x H'' → cTurn g tt te D N x σ' H'') := by
  refine ⟨fun i m σ H => m = kvs.length - i ∧ i ≤ kvs.length ∧ Pv i σ H, ⟨kvs.length, by simp, Nat.zero_le _, h0⟩, ?_⟩
  rintro i m σ H ⟨rfl, hi, p⟩
  have q := hl i σ H hi p
  by_cases hlt : i < kvs.length
  · refine .inr ⟨⟨hlt, q⟩, Pv (i + 1), fun σ' H' p' => ⟨kvs.length - (i + 1), by omega, rfl, hlt, p'⟩, fun x H' y => ?_⟩
    obtain ⟨rfl, k, v, b, e1, e2, rfl⟩ := y
    exact hs i k v b σ _ e1 p e2
  · have e : i = kvs.length := by omega
    subst e
    exact .inl ⟨⟨Nat.le_refl _, q⟩, hd σ H p⟩
end L2

set_option Elab.async false
set_option linter.all false
set_option maxRecDepth 100000
namespace L2
open PySem PySem.Spec PyProof.Rows

section
variable {prog : Program} {w : World} {A : Around} {E : Value → Shared → Prop} {s : Shared}

end

section
variable {X : Cx} {elts : List Expr} {x1 : Nat} {tp : Pos}
end
end L2

set_option Elab.async false
set_option linter.all false
set_option maxRecDepth 100000
namespace L2
open PySem PySem.Spec PyProof.Rows
section
variable {X : Cx}

end
end L2

set_option Elab.async false
set_option linter.all false
set_option maxRecDepth 100000
namespace L2
open PySem PySem.Spec PyProof.Rows

section
variable {prog : Program} {w : World} {A : Around} {E : Value → Shared → Prop} {s : Shared}
end
section
variable {X : Cx}

end
end L2

set_option Elab.async false
set_option linter.all false
set_option maxRecDepth 100000
namespace GX
open PySem PyProof.Rows

end GX

set_option Elab.async false
set_option linter.all false
set_option maxRecDepth 100000
namespace GX
open PySem PyProof.Rows
section
variable {prog : Program} {w : World} {K : Type} [DecidableEq K] {knd : KeyKind prog w K} {A : Around} {E : Value → Shared → Prop} {s : Shared}

end
end GX

set_option Elab.async false
set_option linter.all false
set_option maxRecDepth 100000
namespace GX
open PySem PyProof.Rows
section
variable {prog : Program} {w : World} {K : Type} [DecidableEq K] {knd : KeyKind prog w K} {A : Around} {E : Value → Shared → Prop} {s : Shared}

end
end GX
namespace L2
open PySem PySem.Spec PyProof.Rows

section
variable {X : Cx}
end

end L2

set_option Elab.async false
set_option linter.all false
set_option maxRecDepth 100000
namespace GX
open PySem PySem.Spec PyProof.Rows
section
variable {prog : Program} {w : World} {K : Type} [DecidableEq K] {knd : HeapKind prog w K} {d a : Addr} {xs : List (K × Addr × Value)} {k : K} {dflt : Value}
set_option maxHeartbeats 1000000 in
theorem mSetd (hS : (d == sysModules) = false) (hz : xs.length ≤ sizeLine) :
    MeetsIn prog w (Builtin.«dict.setdefault» ⟨[.ref d, .ref a, dflt], []⟩) (fun A R s => knd.room A.in1 ∧ knd.is s.heap k a ∧ s.heap.DictOfH knd d xs ∧ (∀ v tk, (atKey xs k).map (·.2) = some v → R (.ok (.ret v)) { s with toks := tk }) ∧
      (atKey xs k = none → ∀ g tk, g.DictOfH knd d (storedH xs k a dflt) → Heap.SameBut d s.heap g → R (.ok (.ret dflt)) { s with heap := g, toks := tk })) :=
  .of_wp fun A R s ⟨hu, hk, dd, q1, q2⟩ => by
    obtain ⟨o, es, ep, ho, hc, hd, he, his, hn⟩ := id dd
    unfold Builtin.«dict.setdefault»
    refine wpAny_bind ?_
    unfold Builtin.Dict.keyAndDefault
    refine wpAny_bind (wpAny_notOrdered_dict ⟨o, ho, hc.1⟩ ?_)
    show wpAny _ _ (pure (d, Value.ref a, some dflt)) _ _ s
    refine wpAny_pure ?_
    show wpAny _ _ (if (d == sysModules) = true then _ else (dictSetDefault d (.ref a) dflt >>= _)) _ _ s
    rw [if_neg (by rw [hS]; exact Bool.false_ne_true)]
    refine wpAny_bind ?_
    unfold dictSetDefault
    refine wpAny_holding (wpAny_bind (knd.pyHash hu hk ?_))
    refine wpAny_bind (wpAny_dictFind_heap (s := { s with toks := s.toks + knd.draws k }) hu hk ho hd he his hn ?_ ?_)
    · intro no
      have n0 := atKey_none_of_get no
      refine wpAny_bind (wpAny_rule (wpAny_bind ?_))
      refine wpAny_updateDictKeys (hz := by have e := size_of_entries he; omega) (s := { s with toks := s.toks + knd.draws k }) ho hd (wpAny_pure (wpAny_pure ⟨_, rfl, ?_⟩))
      refine q2 n0 _ _ ⟨_, _, ep + 1, Heap.get?_update_self _ ho (Obj.isFreed_of_dict (Obj.data_mapDictKeys hd _)), hc.mapDictKeys _, Obj.data_mapDictKeys hd _, ?_, ?_, ?_⟩ (Heap.SameBut.update ..)
      · rw [storedH_new n0]
        simp [he, entryOfKey]
      · rw [storedH_new n0]
        intro x hx
        rcases List.mem_append.mp hx with z | z
        · exact knd.keeps (his x z) ho hd (Heap.SameBut.update ..)
        · cases List.mem_singleton.mp z
          exact knd.keeps hk ho hd (Heap.SameBut.update ..)
      · rw [storedH_new n0, List.map_append, List.nodup_append]
        refine ⟨hn, by simp, fun x hx y hy e => ?_⟩
        cases List.mem_singleton.mp hy
        have e : x = k := e
        exact not_mem_keys_of_get no (by rw [← e]; exact hx)
    · intro j p hj
      refine wpAny_bind (wpAny_dictEntries (s := { s with toks := s.toks + knd.draws k }) ho hd ?_)
      rw [entry_at he j, hj]
      refine wpAny_bind (wpAny_rule (wpAny_pure (wpAny_pure ⟨_, rfl, ?_⟩)))
      exact q1 _ _ (by rw [atKey_of_get hn hj]; rfl)
theorem setd_heap {A : Around} {s : Shared} {E : Value → Shared → Prop} {Q : Value → Shared → Prop} (hu : knd.room A.in1) (hk : knd.is s.heap k a) (dd : s.heap.DictOfH knd d xs) (hS : (d == sysModules) = false) (hz : xs.length ≤ sizeLine)
    (q1 : ∀ v tk, (atKey xs k).map (·.2) = some v → Q v { s with toks := tk }) (q2 : atKey xs k = none → ∀ g tk, g.DictOfH knd d (storedH xs k a dflt) → Heap.SameBut d s.heap g → Q dflt { s with heap := g, toks := tk }) :
    wpAny (model prog w) A (call (.builtin "dict.setdefault") [.ref d, .ref a, dflt]) Q E s := by
  obtain ⟨o, es, ep, ho, hc, _⟩ := id dd
  exact call_meetsIn F.slot_dict_setdefault ⟨o, ho, hc.1⟩ F.entry_dict_setdefault (F.args_dict_setdefault_3 _ _ _) (mSetd hS hz) ⟨hu, hk, dd, fun v tk e => q1 v tk e, fun n g tk dg sb => q2 n g tk dg sb⟩
end
end GX
namespace L2
open PySem PySem.Spec PyProof.Rows

def rSetT : V → List V → Hp → VK → Prop := fun x vs H Q => ∃ (d t : Addr) (kvs : List (List Key × V)) (k : List Key) (y : V), x = .ref d ∧ vs = [.ref t, y] ∧ H d = some (.dT kvs) ∧ H t = some (.tup (k.map kV)) ∧ kvs.length < 1000 ∧ (∀ v, valV kvs k = some v → Q v H) ∧ (valV kvs k = none → Q y (upd H d (.dT (putK kvs k y))))
section
variable {X : Cx}
theorem mt_dsetT (hu : X.A.units + 1 < cLine) : MtR X "dict.setdefault" rSetT := by
  intro pins s σ H x xs v us Q I rx rv h
  obtain ⟨d, t, kvs, k, y, rfl, rfl, hd, ht, hl, q1, q2⟩ := h
  cases rx
  obtain ⟨u1, u2, rfl, r1, r2⟩ := rv.two
  cases r1
  obtain ⟨z, hS, es, kt, dd⟩ := dt_of I.hok hd
  have hv := kt.val k
  refine GX.setd_heap (A := X.A) (knd := tupleKind (mixKind X.prog X.w)) (tupleKind_room_in1 hu) (key_of I.hok ht) dd hS (by rw [← Paired.length kt]; exact z) (fun v tk e => ?_) fun n g tk dd' sb => ?_
  · cases w : valV kvs k with
    | none =>
      rw [w] at hv
      rw [RelO.none_of hv] at e
      cases e
    | some v0 =>
      rw [w] at hv
      obtain ⟨u, hu, ru⟩ := RelO.some_of hv
      rw [hu] at e
      cases e
      exact ⟨v0, H, I.tok _, ru, q1 v0 w⟩
  · have w : valV kvs k = none := by
      cases w : valV kvs k with
      | none => rfl
      | some v0 =>
        rw [w] at hv
        obtain ⟨u, hu, ru⟩ := RelO.some_of hv
        rw [n] at hu
        cases hu
    have lp : (putK kvs k y).length ≤ 1000 := by
      have := length_putK kvs k y
      omega
    have up : ∀ c ys, H c = some (.tup ys) → upd H d (.dT (putK kvs k y)) c = some (.tup ys) := fun c ys ec => by
      rw [upd_ne (ne_of ec hd (fun z => nomatch z))]
      exact ec
    obtain ⟨o, fs, ep, ho, h2, h3, h4, _, h5⟩ := dd'
    exact ⟨y, _, d_write (ob := .dT (putK kvs k y)) I (by rw [hd]; exact True.intro) sb ⟨o, ho⟩ ⟨Nat.le_of_lt (small1000 lp), hS, _, (kt.put k ht r2).keeps up, o, fs, ep, ho, h2, h3, h4, h5⟩, r2, q2 w⟩
end

section
variable {X : Cx} {elts : List Expr} {x1 : Nat} {tp : Pos}
end
end L2

set_option Elab.async false
set_option linter.all false
set_option maxRecDepth 100000
namespace L2
open PySem PySem.Spec PyProof.Rows

section
variable {X : Cx}

end
end L2

set_option Elab.async false
set_option linter.all false
set_option maxRecDepth 100000
namespace L2
open PySem PySem.Spec PyProof.Rows
section
variable {prog : Program} {w : World}

def IsNst (prog : Program) (w : World) (h : Heap) (k : Int × List Key) (a : Addr) : Prop := ∃ o n t b, h.get? a = some o ∧ o.cls = .type "tuple" ∧ o.data = .seq #[.int k.1 t, .ref b] n ∧ (tupleKind (mixKind prog w)).is h k.2 b
def nstHash (prog : Program) (w : World) (k : Int × List Key) : Int := reduceHash (Builtin.Tuple.tupleHashOf [(mixKind prog w).hash (.inl k.1), (tupleKind (mixKind prog w)).hash k.2])
variable {A : Around} {E : Value → Shared → Prop} {s : Shared} {k : Int × List Key} {a : Addr}
theorem IsNst.ty (x : IsNst prog w s.heap k a) : s.TypeIs (.ref a) "tuple" := let ⟨o, _, _, _, e, c, _⟩ := x; ⟨o, e, c⟩
theorem nst_hash {Q : Int → Shared → Prop} (hu : A.units + 1 < cLine) (x : IsNst prog w s.heap k a) (h : Q (nstHash prog w k) { s with toks := s.toks + (k.2.length + 3) }) : wpAny (model prog w) A (pyHash (.ref a)) Q E s := by
  obtain ⟨o, n, t, b, e, c, d, kb⟩ := id x
  have cal : ∀ {R : Value → Shared → Prop} {G : Value → Shared → Prop}, wpAny (model prog w) A.in1 (Builtin.«tuple.__hash__» ⟨[.ref a], []⟩) (fun fin s' => ∃ v, fin = .done (.ret v) ∧ R v s') G s → wpAny (model prog w) A (call (.builtin "tuple.__hash__") [.ref a]) R G s := fun hc => wpAny_call_entry F.slot_tuple_hash x.ty F.entry_tuple_hash hc (F.args_tuple_hash_1 _)
  unfold pyHash pyHashByItsType
  wp_walk using cal, wpAny_cRoomFor_or (.inr (by omega)), wpAny_specialOf x.ty F.slot_tuple_hash.lookup, wpAny_callSpecialIfBoundUnlessNone?_slot x.ty F.slot_tuple_hash
  have h1 : ∀ {B : Around} {G : Value → Shared → Prop} {u : Shared} {R : Int → Shared → Prop}, R ((mixKind prog w).hash (.inl k.1)) { u with toks := u.toks + 1 } → wpAny (model prog w) B (pyHash (.int k.1 t)) R G u := fun q => (mixKind prog w).pyHash (kV_is (k := .inl k.1) ⟨t, rfl⟩) q
  have h2 : ∀ {G : Value → Shared → Prop} {tk : Nat} {R : Int → Shared → Prop}, R ((tupleKind (mixKind prog w)).hash k.2) { s with toks := tk + (k.2.length + 1) } → wpAny (model prog w) A.in1 (pyHash (.ref b)) R G { s with toks := tk } := fun {G tk R} q => (tupleKind (mixKind prog w)).pyHash (s := { s with toks := tk }) (show A.in1.units < cLine from hu) kb q
  rw [d]
  simp only [← Array.forIn_toList]
  wp_walk using h1, h2
  refine ⟨_, rfl, ?_⟩
  rw [show s.toks + (k.2.length + 3) = s.toks + 1 + (k.2.length + 1) + 1 by omega] at h
  show wpAny _ _ (pyHashByItsType.reduced (Builtin.Tuple.tupleHashOf [(mixKind prog w).hash (.inl k.1), (tupleKind (mixKind prog w)).hash k.2])) Q E _
  unfold nstHash reduceHash at h
  unfold pyHashByItsType.reduced
  generalize Builtin.Tuple.tupleHashOf [(mixKind prog w).hash (.inl k.1), (tupleKind (mixKind prog w)).hash k.2] = z at h ⊢
  by_cases q : (decide (-(2 ^ 63 : Int) ≤ z) && decide (z < 2 ^ 63)) = true
  · rw [if_pos q] at h ⊢
    exact wpAny_pure h
  · rw [if_neg q] at h ⊢
    exact wpAny_bind (wpAny_rule (wpAny_pure h))
theorem IsNst.inj {h : Heap} {x y : Int × List Key} {a : Addr} (p : IsNst prog w h x a) (q : IsNst prog w h y a) : x = y := by
  obtain ⟨o, n, t, b, e, _, d, kb⟩ := p
  obtain ⟨o2, n2, t2, b2, e2, _, d2, kb2⟩ := q
  rw [e] at e2
  cases e2
  rw [d] at d2
  injection d2 with d2
  have d2 : [Value.int x.1 t, .ref b] = [.int y.1 t2, .ref b2] := congrArg Array.toList d2
  injection d2 with d3 d4
  injection d4 with d4 _
  injection d3 with d3
  injection d4 with d4
  subst d4
  exact Prod.ext d3 ((tupleKind (mixKind prog w)).inj kb kb2)
theorem IsNst.keeps {h h' : Heap} {x : Int × List Key} {a d : Addr} {o : Obj} {es ep} (p : IsNst prog w h x a) (ho : h.get? d = some o) (hd : o.data = .dict es ep) (hs : Heap.SameBut d h h') : IsNst prog w h' x a := by
  obtain ⟨o2, n, t, b, e, c, q, kb⟩ := p
  have ne : a ≠ d := fun z => by
    rw [z, ho] at e
    cases e
    rw [hd] at q
    cases q
  exact ⟨o2, n, t, b, (hs.2 a ne).trans e, c, q, (tupleKind (mixKind prog w)).keeps kb ho hd hs⟩
theorem quiet_all {d : Nat} {R : Option Bool × Unit → Shared → Prop} : ∀ (l : List Value), (∀ v ∈ l, carriedByValue v = true) → R (none, ()) s → wpAny (model prog w) A (forIn l (none, ()) fun y _ => do
    let q ← eqIsQuiet d y
    if (!q) = true then pure (.done (some false, ())) else pure (.yield (none, ()))) R E s
  | [], _, h => wpAny_pure h
  | v :: l, hl, h => by
    rw [List.forIn_cons, eqIsQuiet_byValue d (hl v List.mem_cons_self)]
    exact wpAny_bind (wpAny_pure (quiet_all l (fun u hu => hl u (List.mem_cons_of_mem _ hu)) h))
theorem nst_quiet {Q : Bool → Shared → Prop} (x : IsNst prog w s.heap k a) (h : Q true s) : wpAny (model prog w) A (eqIsQuiet 8 (.ref a)) Q E s := by
  obtain ⟨o, n, t, b, e, c, d, o2, its, n2, e2, c2, d2, hi⟩ := id x
  have by2 := hi.byValue
  have tb : s.TypeIs (.ref b) "tuple" := ⟨o2, e2, c2⟩
  have inner : ∀ {R : Bool → Shared → Prop}, R true s → wpAny (model prog w) A (eqIsQuiet 7 (.ref b)) R E s := fun {R} q => by
    unfold eqIsQuiet
    refine wpAny_bind (wpAny_specialOf tb F.slot_tuple_eq.lookup (wpAny_bind (wpAny_isInstance tb isSubtype_tuple_tuple ?_)))
    rw [if_neg (by decide)]
    refine wpAny_bind (wpAny_seqItems e2 d2 (wpAny_bind ?_))
    show wpAny _ _ (forIn its _ _) _ _ s
    rw [← Array.forIn_toList]
    exact quiet_all its.toList by2 (wpAny_pure q)
  unfold eqIsQuiet
  refine wpAny_bind (wpAny_specialOf x.ty F.slot_tuple_eq.lookup (wpAny_bind (wpAny_isInstance x.ty isSubtype_tuple_tuple ?_)))
  rw [if_neg (by decide)]
  refine wpAny_bind (wpAny_seqItems e d ?_)
  show wpAny _ _ (do let r ← forIn #[Value.int k.1 t, .ref b] _ _; _) _ _ s
  rw [← Array.forIn_toList]
  wp_walk using inner
  exact h
theorem nst_eq {x y : Int × List Key} {a b : Addr} {Q : Bool → Shared → Prop} (hu : A.units + 1 < cLine) (hx : IsNst prog w s.heap x a) (hy : IsNst prog w s.heap y b) (h : Q (decide (x = y)) s) : wpAny (model prog w) A (eqBool (.ref a) (.ref b)) Q E s := by
  obtain ⟨o, n, t, c, e, _, d, kb⟩ := id hx
  obtain ⟨o2, n2, t2, c2, e2, _, d2, kb2⟩ := id hy
  have h1 : ∀ {B : Around} {G : Value → Shared → Prop} {u : Shared} {R : Bool → Shared → Prop}, R (decide ((.inl x.1 : Key) = .inl y.1)) u → wpAny (model prog w) B (eqBool (.int x.1 t) (.int y.1 t2)) R G u := fun q => (mixKind prog w).eqBool (kV_is (k := .inl x.1) ⟨t, rfl⟩) (kV_is (k := .inl y.1) ⟨t2, rfl⟩) q
  have h2 : ∀ {G : Value → Shared → Prop} {R : Bool → Shared → Prop}, R (decide (x.2 = y.2)) s → wpAny (model prog w) A.in1 (eqBool (.ref c) (.ref c2)) R G s := fun q => (tupleKind (mixKind prog w)).eqBool (show A.in1.units < cLine from hu) kb kb2 q
  have body : ∀ {P : Fin → Shared → Prop} {G : Value → Shared → Prop}, P (.done (.ret (.bool (decide (x = y))))) s → wpAny (model prog w) A.in1 (Builtin.«tuple.__eq__» ⟨[.ref a, .ref b], []⟩) P G s := fun {P G} q => by
    unfold Builtin.«tuple.__eq__»
    wp_walk using wpAny_isInstance hy.ty isSubtype_tuple_tuple, wpAny_tupleItemsOf e d, wpAny_tupleItemsOf e2 d2, h1, h2
    by_cases z : x.1 = y.1
    · rw [show decide ((Sum.inl x.1 : Key) = Sum.inl y.1) = true from decide_eq_true (by rw [z])]
      wp_walk using h2
      by_cases z2 : x.2 = y.2
      · rw [decide_eq_true (Prod.ext z z2 : x = y)] at q
        rw [decide_eq_true z2]
        wp_walk
        exact q
      · rw [decide_eq_false (fun u => z2 (by rw [u]) : ¬ x = y)] at q
        rw [decide_eq_false z2]
        wp_walk
        exact q
    · rw [decide_eq_false (fun u => z (by rw [u]) : ¬ x = y)] at q
      rw [show decide ((Sum.inl x.1 : Key) = Sum.inl y.1) = false from decide_eq_false fun u => z (Sum.inl.inj u)]
      wp_walk
      exact q
  by_cases ab : a = b
  · subst ab
    obtain rfl := hx.inj hy
    rw [decide_eq_true rfl] at h
    unfold eqBool
    rw [if_pos (show (Value.ref a == Value.ref a) = true from beq_self_eq_true _)]
    exact wpAny_holding (wpAny_bind (wpAny_rule (wpAny_pure h)))
  · unfold eqBool
    rw [if_neg (fun u => ab (by have := eq_of_beq u; injection this) : ¬ (Value.ref a == Value.ref b) = true)]
    refine wpAny_holding (wpAny_bind (wpAny_richCompare_same_room (op := .Eq) hx.ty hy.ty F.slot_tuple_eq ?_ (by omega)))
    exact wpAny_call_entry F.slot_tuple_eq hx.ty F.entry_tuple_eq (body ⟨_, rfl, (fun u => nomatch u), wpAny_truthy_bool h⟩) (F.args_tuple_eq_2 _ _)

def nstKind (prog : Program) (w : World) : HeapKind prog w (Int × List Key) where
  is := IsNst prog w
  hash := nstHash prog w
  draws := fun k => k.2.length + 3
  room := fun A => A.units + 1 < cLine
  inj := fun p q => p.inj q
  keeps := fun p a b c => p.keeps a b c
  pyHash := fun a b c => nst_hash a b c
  eqBool := fun a b c d => nst_eq a b c d
  quiet := fun a b => nst_quiet a b
end

abbrev SK := Int × Int × Int
def skK (k : SK) : Int × List Key := (k.1, [.inl k.2.1, .inl k.2.2])
theorem skK_inj {k l : SK} (h : skK k = skK l) : k = l := by
  obtain ⟨i, x, y⟩ := k
  obtain ⟨j, u, v⟩ := l
  injection h with h1 h2
  injection h2 with h2 h3
  injection h3 with h3 _
  rw [show i = j from h1, show x = u from Sum.inl.inj h2, show y = v from Sum.inl.inj h3]
def skH (k : SK) : Int := reduceHash (Builtin.Tuple.tupleHashOf [hashInt k.1, reduceHash (Builtin.Tuple.tupleHashOf [hashInt k.2.1, hashInt k.2.2])])

def SdO (a : Addr) (xs : List (SK × Addr)) : HO := .ext fun h => (a == sysModules) = false ∧ xs.length ≤ sizeLine ∧ (xs.map (·.1)).Nodup ∧ ∃ o es ep, h.get? a = some o ∧ o.ExactDict ∧ o.data = .dict es ep ∧ es.toList = xs.map fun x => ⟨skH x.1, .ref x.2, .bool true⟩

def SkT (H : Hp) (t : Addr) (k : SK) : Prop := ∃ b, H t = some (.tup [.int k.1, .ref b]) ∧ H b = some (.tup [.int k.2.1, .int k.2.2])
theorem SkT.up {H H' : Hp} {t : Addr} {k : SK} (x : SkT H t k) (s : ∀ a xs, H a = some (.tup xs) → H' a = some (.tup xs)) : SkT H' t k := let ⟨b, h1, h2⟩ := x; ⟨b, s _ _ h1, s _ _ h2⟩
def skX (xs : List (SK × Addr)) : List ((Int × List Key) × Addr × Value) := xs.map fun x => (skK x.1, x.2, .bool true)
theorem skX_at (xs : List (SK × Addr)) (k : SK) : (atKey (skX xs) (skK k)).isSome = decide (k ∈ xs.map (·.1)) := by
  induction xs with
  | nil => rfl
  | cons x xs ih =>
    by_cases e : x.1 = k
    · have : atKey (skX (x :: xs)) (skK k) = some (x.2, .bool true) := by simp [atKey, skX, List.find?_cons, e]
      rw [this, decide_eq_true (by rw [List.map_cons, e]; exact List.mem_cons_self)]
      rfl
    · have : atKey (skX (x :: xs)) (skK k) = atKey (skX xs) (skK k) := by
        have n : ¬ skK x.1 = skK k := fun z => e (skK_inj z)
        simp [atKey, skX, List.find?_cons, n]
      rw [this, ih]
      exact decide_eq_decide.mpr ⟨fun z => List.mem_cons_of_mem _ z, fun z => (List.mem_cons.mp z).elim (fun u => absurd u.symm e) id⟩
def sput (xs : List (SK × Addr)) (k : SK) (t : Addr) : List (SK × Addr) := if k ∈ xs.map (·.1) then xs else xs ++ [(k, t)]
theorem skX_put (xs : List (SK × Addr)) (k : SK) (t : Addr) : storedH (skX xs) (skK k) t (.bool true) = skX (sput xs k t) := by
  unfold storedH sput
  rw [skX_at]
  by_cases z : k ∈ xs.map (·.1)
  · rw [if_pos (decide_eq_true z), if_pos z]
    unfold skX
    rw [List.map_map]
    refine List.map_congr_left fun x _ => ?_
    show putAt (skK k) (.bool true) (skK x.1, x.2, .bool true) = _
    unfold putAt
    split <;> rfl
  · rw [if_neg (fun u => z (of_decide_eq_true u)), if_neg z]
    unfold skX
    rw [List.map_append]
    rfl
theorem sput_nd {xs : List (SK × Addr)} {k : SK} {t : Addr} (nd : (xs.map (·.1)).Nodup) : ((sput xs k t).map (·.1)).Nodup := by
  unfold sput
  split
  · exact nd
  · rename_i z
    rw [List.map_append, List.nodup_append]
    exact ⟨nd, by simp, fun x hx y hy e => z (by have hy : y = k := List.mem_singleton.mp hy; rw [← hy, ← e]; exact hx)⟩
theorem sput_len (xs : List (SK × Addr)) (k : SK) (t : Addr) : (sput xs k t).length ≤ xs.length + 1 := by
  unfold sput
  split
  · omega
  · rw [List.length_append]; exact Nat.le_refl _
section
variable {P : Program} {w : World} {H : Hp} {h : Heap} {a : Addr}
theorem nst_of {t : Addr} {k : SK} (ok : HOk P w H h) (x : SkT H t k) : (nstKind P w).is h (skK k) t := by
  obtain ⟨b, h1, h2⟩ := x
  obtain ⟨_, its, r, o, e1, e2, n, e3, _⟩ := (show ObjOk P w H h t (.tup [.int k.1, .ref b]) from ok t _ h1)
  have kb : (tupleKind (mixKind P w)).is h (skK k).2 b := key_of (ks := [.inl k.2.1, .inl k.2.2]) ok h2
  cases r with
  | cons r1 r =>
    cases r with
    | cons r2 r =>
      cases r
      obtain ⟨tt, rfl⟩ := r1
      cases r2
      exact ⟨o, n, tt, b, e1, e2, e3, kb⟩
theorem sd_dict {xs : List (SK × Addr)} (ok : HOk P w H h) (e : H a = some (SdO a xs)) (kk : ∀ x ∈ xs, SkT H x.2 x.1) : (a == sysModules) = false ∧ xs.length ≤ sizeLine ∧ (xs.map (·.1)).Nodup ∧ h.DictOfH (nstKind P w) a (skX xs) := by
  obtain ⟨⟨s1, s2, s3, o, es, ep, e1, e2, e3, e4⟩, _, _⟩ := (show ObjOk P w H h a (SdO a xs) from ok a _ e)
  refine ⟨s1, s2, s3, o, es, ep, e1, e2, e3, ?_, fun x hx => ?_, ?_⟩
  · rw [e4]
    unfold skX
    rw [List.map_map]
    rfl
  · obtain ⟨y, hy, rfl⟩ := List.mem_map.mp hx
    exact nst_of ok (kk y hy)
  · have : (skX xs).map (·.1) = (xs.map (·.1)).map skK := by unfold skX; rw [List.map_map, List.map_map]; rfl
    rw [this]
    exact List.pairwise_map.mpr (List.Pairwise.imp (fun n z => n (skK_inj z)) s3)
theorem sd_new {H' : Hp} {h' : Heap} {xs : List (SK × Addr)} (s1 : (a == sysModules) = false) (s2 : xs.length ≤ sizeLine) (s3 : (xs.map (·.1)).Nodup) (dd : h'.DictOfH (nstKind P w) a (skX xs)) : ObjOk P w H' h' a (SdO a xs) := by
  obtain ⟨o, es, ep, e1, e2, e3, e4, _⟩ := dd
  refine ⟨⟨s1, s2, s3, o, es, ep, e1, e2, e3, ?_⟩, ⟨o, e1⟩, fun h1 h2 ⟨q1, q2, q3, o', es', ep', q4, q5⟩ k => ⟨q1, q2, q3, o', es', ep', k _ q4, q5⟩⟩
  rw [e4]
  unfold skX
  rw [List.map_map]
  rfl
end

def tDNewS : TE := fun _ H Q => ∀ p, H p = none → Q (.ref p) (upd H p (SdO p []))

def rNinS : R2 := fun x y H Q => ∃ t d xs k, x = .ref t ∧ y = .ref d ∧ H d = some (SdO d xs) ∧ (∀ x ∈ xs, SkT H x.2 x.1) ∧ SkT H t k ∧ Q (.bl (!decide (k ∈ xs.map (·.1)))) H

def sSPut (td ty tv : TE) : TS := fun D σ H => tv σ H fun v H1 => td σ H1 fun x H2 => ty σ H2 fun y H3 => ∃ d t xs k, v = .bl true ∧ x = .ref d ∧ y = .ref t ∧ H3 d = some (SdO d xs) ∧ (∀ x ∈ xs, SkT H3 x.2 x.1) ∧ SkT H3 t k ∧ xs.length < 1000 ∧ D.nx σ (upd H3 d (SdO d (sput xs k t)))
section
variable {X : Cx} {o i value : Expr} {pos pos' : Pos} {td ty tv : TE}
theorem pe_dnewS : PE X (.Dict [] [] pos) tDNewS := fun pins s σ H Q I h =>
  wpAny_Dict_empty ⟨.ref s.heap.objs.size, _, I.laid (a := s.heap.objs.size) (o := SdO s.heap.objs.size []) (t' := s.toks) (fun _ _ q => Heap.get?_push_of_some _ q) (Nat.le_refl _) (sd_new (beq_eq_false_iff_ne.mpr (Ne.symm (Nat.ne_of_lt I.big))) (Nat.zero_le _) .nil ⟨_, #[], 0, Heap.get?_push_size _ rfl, ⟨rfl, rfl, rfl⟩, rfl, rfl, (fun _ z => nomatch z), .nil⟩), rfl, h _ (I.hok.fresh (Nat.le_refl _))⟩
theorem op_ninS (hu : X.A.units + 64 < cLine) : OpR X (compareOp .NotIn) rNinS := by
  intro pins s σ H x y v u Q I rx ry h
  obtain ⟨t, d, xs, k, rfl, rfl, hd, kk, kt, q⟩ := h
  cases rx
  cases ry
  obtain ⟨s1, s2, s3, dd⟩ := sd_dict I.hok hd kk
  refine wpAny_notIn_heap (knd := nstKind X.prog X.w) (show X.A.in1.units + 1 < cLine by show X.A.units + 1 + 1 < cLine; omega) (nst_of I.hok kt) s1 dd ?_
  rw [skX_at]
  exact ⟨.bl _, H, I.tok _, rfl, q⟩
theorem ps_dputS (hu : X.A.units + 64 < cLine) (ho : PE X o td) (hi : PE X i ty) (hv : PE X value tv) (hs : swapsWith value (some (.Subscript o i pos')) pos.line X.env = pure false) : PS X (.Assign [.Subscript o i pos'] value pos) (sSPut td ty tv) := by
  intro pins s σ H D I h
  refine wpAny_Assign_Subscript (thn (hv pins s σ H _ I h) fun r s1 ⟨v, H1, I1, rv, q1⟩ => thn (ho pins s1 σ H1 _ I1 q1) fun u s2 ⟨x, H2, I2, rx, q2⟩ => thn (hi pins s2 σ H2 _ I2 q2) fun iv s3 ⟨y, H3, I3, ry, d, t, xs, k, ev, ex, ey, hd, kk, kt, lx, q3⟩ => ?_) hs
  subst ev ex ey
  cases rx
  cases ry
  cases rv
  obtain ⟨z1, z2, z3, dd⟩ := sd_dict I3.hok hd kk
  have lz : (skX xs).length ≤ sizeLine := by unfold skX; rw [List.length_map]; exact z2
  refine wpAny_setItem_heap (hsz := lz) (knd := nstKind X.prog X.w) (show X.A.in1.units + 1 < cLine by show X.A.units + 1 + 1 < cLine; omega) (nst_of I3.hok kt) dd fun h' dd' sb => ?_
  rw [skX_put] at dd'
  obtain ⟨q, _, _, hq, _⟩ := id dd'
  refine ⟨σ, _, d_write I3 (by rw [hd]; exact True.intro) sb ⟨q, hq⟩ (sd_new z1 ?_ (sput_nd z3) dd'), q3⟩
  have := sput_len xs k t
  have : xs.length + 1 ≤ sizeLine := Nat.le_of_lt (small1000 (by omega))
  omega
end
end L2

set_option Elab.async false
set_option linter.all false
set_option maxRecDepth 100000
namespace L2
open PySem

theorem own1 {X : Cx} {i1 : Nat} {x1 : Str} {c1 : Addr} (a1 : X.N[i1]? = some x1) (k1 : X.env.scope.names.lookup x1 = some .cell) (l1 : X.env.cells.lookup x1 = some c1) (f1 : X.fn x1 = true) : OwnC X [i1] [(x1, c1)] := by
  refine ⟨rfl, by simp, fun j i x c h1 h2 => ?_⟩
  match j with
  | 0 => cases h1; cases h2; exact ⟨a1, k1, l1, f1⟩
  | j + 1 => cases h1
theorem lend1 {σ : St} {i1 : Nat} {v1 : V} (h1 : σ[i1]? = some (some v1)) : ∀ (j : Nat) i v, [i1][j]? = some i → [v1][j]? = some v → σ[i]? = some (some v)
  | 0, i, v, e1, e2 => by cases e1; cases e2; exact h1
  | j + 1, i, v, e1, e2 => by cases e1

theorem for_vals {d : Addr} {o : Obj} {kvs : List (Key × V)} {g : TG} {tb : TS} {D : Ends} {σ : St} {H : Hp} (Pv : Nat → St → Hp → Prop) (h0 : Pv 0 σ H) (hl : ∀ i σ H, i ≤ kvs.length → Pv i σ H → H d = some (.frz o (.dK kvs)))
    (hs : ∀ i k v σ H, kvs[i]? = some (k, v) → Pv i σ H → g v σ H fun σ2 H2 => tb { D with nx := Pv (i + 1), ct := Pv (i + 1), bk := D.nx } σ2 H2) (hd : ∀ σ H, Pv kvs.length σ H → D.nx σ H) :
    ∃ W : Nat → Nat → St → Hp → Prop, (∃ m, W 0 m σ H) ∧ ∀ i m σ H, W i m σ H →
      ((Itv d o kvs).stop i H ∧ D.nx σ H) ∨ ((Itv d o kvs).go i H ∧ ∃ N : St → Hp → Prop, (∀ σ' H', N σ' H' → ∃ m', m' < m ∧ W (i + 1) m' σ' H') ∧ ∀ x H', (Itv d o kvs).yld i H x H' → g x σ H' fun σ2 H2 => tb { D with nx := N, ct := N, bk := D.nx } σ2 H2) := by
  refine ⟨fun i m σ H => m = kvs.length - i ∧ i ≤ kvs.length ∧ Pv i σ H, ⟨kvs.length, by omega, Nat.zero_le _, h0⟩, ?_⟩
  rintro i m σ H ⟨rfl, hi, p⟩
  have q := hl i σ H hi p
  rcases Nat.lt_or_ge i kvs.length with hlt | hge
  · refine .inr ⟨⟨hlt, q⟩, Pv (i + 1), fun σ' H' p' => ⟨_, by omega, rfl, hlt, p'⟩, fun x H' y => ?_⟩
    obtain ⟨rfl, k, e1⟩ := y
    exact hs i k x σ _ e1 p
  · obtain rfl : i = kvs.length := by omega
    exact .inl ⟨⟨Nat.le_refl _, q⟩, hd σ H p⟩
end L2

local macro_rules | `(tactic| sizeOf_list_dec) => `(tactic| first | assumption | decide | exact ⟨by decide, by decide⟩ | exact ⟨by decide, by decide, by decide⟩ | exact Nat.le_of_ble_eq_true rfl | exact L2.small1000 (by omega) | exact L2.pow18p | exact L2.pow60p | omega | fail)
local macro_rules | `(tactic| decreasing_trivial_pre_omega) => `(tactic| first | assumption | (apply L2.SqL.of; assumption) | (apply L2.SqT.of; assumption) | (refine Or.inl ?_; assumption) | (refine Or.inl ?_; apply L2.SqL.of; assumption) | (refine Or.inr ?_; apply L2.SqT.of; assumption))
local macro_rules | `(tactic| bv_omega) => `(tactic| first | assumption | exact L2.atI_nat (j := 0) rfl | exact L2.atI_nat (j := 1) rfl | exact L2.atI_nat (j := 2) rfl | exact L2.atI_nat (j := 3) rfl | exact L2.atI_nat (j := 4) rfl | exact L2.atI_nat (j := 5) rfl)
local macro_rules | `(tactic| array_get_dec) => `(tactic| array_mem_dec)
local macro_rules | `(tactic| array_get_dec) => `(tactic| with_reducible first
  | refine L2.x_seqA ?_ | refine L2.x_seqD ?_ | refine L2.x_seqP ?_ | refine L2.x_seqF ?_ | refine L2.x_seqW ?_ | refine L2.x_seqM ?_ | refine L2.x_seqG ?_ | refine L2.x_asg ?_ | refine L2.x_op ?_ | refine L2.x_c ?_ | refine L2.x_ret ?_ | refine L2.x_ifs ?_ | refine L2.x_name ?_
  | refine L2.x_cons ?_ | refine L2.x_nil ?_ | refine L2.x_call ?_ | refine L2.x_cb ?_ | refine L2.x_I0 ?_ | refine L2.x_test ?_ | refine L2.x_tru ?_ | refine L2.x_b ?_ | refine L2.x_exbl ?_ | refine L2.x_extru ?_
  | refine L2.x_and ?_ | refine L2.x_or ?_ | refine L2.x_not ?_ | refine L2.x_andV ?_ | refine L2.x_orV ?_ | refine L2.x_notV ?_ | refine L2.x_ife ?_
  | refine L2.x_next ?_ | refine L2.x_drop ?_ | refine L2.x_un ?_ | refine L2.x_U ?_ | refine L2.x_eqI ?_ | refine L2.x_neI ?_ | refine L2.x_eqS ?_ | refine L2.x_neS ?_ | refine L2.x_eqB ?_ | refine L2.x_neB ?_
  | refine L2.x_tup ?_ | refine L2.x_lst ?_ | refine L2.x_dnew ?_ | refine L2.x_sl ?_ | refine L2.x_nopart ?_ | refine L2.x_part ?_ | refine L2.x_exint ?_
  | refine L2.x_dget ?_ | refine L2.x_dget2 ?_ | refine L2.x_din ?_ | refine L2.x_dnotin ?_ | refine L2.x_dput ?_ | refine L2.x_for ?_ | refine L2.x_ilist ?_ | refine L2.x_itup ?_ | refine L2.x_ir1 ?_ | refine L2.x_bm ?_ | refine L2.x_bm0 ?_ | refine L2.x_comp ?_
  | refine L2.x_gcons ?_ | refine L2.x_gnil ?_ | refine L2.x_retN ?_ | refine L2.x_brk ?_ | refine L2.x_cont ?_ | refine L2.iteT ?_ | refine L2.iteF ?_ | refine L2.iteNT ?_ | refine L2.iteNF ?_)
local macro_rules | `(tactic| array_mem_dec) => `(tactic| ((with_reducible apply L2.x_gtup); (focus decreasing_trivial_pre_omega); (focus rfl)))
local macro_rules | `(tactic| array_mem_dec) => `(tactic| ((with_reducible apply L2.x_var); (focus exact rfl)))
local macro_rules | `(tactic| array_mem_dec) => `(tactic| ((with_reducible apply L2.x_I); (focus sizeOf_list_dec)))
local macro_rules | `(tactic| array_mem_dec) => `(tactic| ((with_reducible apply L2.x_ixT); (focus decreasing_trivial_pre_omega); (focus bv_omega)))
local macro_rules | `(tactic| array_mem_dec) => `(tactic| ((with_reducible apply L2.x_ixL); (focus decreasing_trivial_pre_omega); (focus bv_omega)))
local macro_rules | `(tactic| array_mem_dec) => `(tactic| ((with_reducible apply L2.x_slL); (focus decreasing_trivial_pre_omega)))
local macro_rules | `(tactic| array_mem_dec) => `(tactic| ((with_reducible apply L2.x_exisd); (focus decreasing_trivial_pre_omega)))
local macro_rules | `(tactic| array_mem_dec) => `(tactic| ((with_reducible apply L2.x_exil); (focus decreasing_trivial_pre_omega)))
local macro_rules | `(tactic| array_mem_dec) => `(tactic| ((with_reducible apply L2.x_exit); (focus decreasing_trivial_pre_omega)))
local macro_rules | `(tactic| array_mem_dec) => `(tactic| ((with_reducible apply L2.x_exdo); (focus decreasing_trivial_pre_omega); (first | rw [L2.getDmap] | rw [L2.isSomemap] | skip)))
local macro_rules | `(tactic| array_mem_dec) => `(tactic| ((with_reducible apply L2.x_exdin); (focus decreasing_trivial_pre_omega); (first | rw [L2.getDmap] | rw [L2.isSomemap] | skip)))
local macro_rules | `(tactic| array_mem_dec) => `(tactic| ((with_reducible apply L2.x_exdg); (focus decreasing_trivial_pre_omega); (focus decreasing_trivial_pre_omega)))
local macro_rules | `(tactic| array_mem_dec) => `(tactic| ((with_reducible apply L2.x_tyl); (focus decreasing_trivial_pre_omega)))
local macro_rules | `(tactic| array_mem_dec) => `(tactic| ((with_reducible apply L2.x_lenL); (focus decreasing_trivial_pre_omega)))
local macro_rules | `(tactic| array_mem_dec) => `(tactic| ((with_reducible apply L2.x_lenT); (focus decreasing_trivial_pre_omega)))
local macro_rules | `(tactic| array_mem_dec) => `(tactic| ((with_reducible apply L2.x_lenD); (focus decreasing_trivial_pre_omega)))
local macro_rules | `(tactic| array_mem_dec) => `(tactic| ((with_reducible apply L2.x_nwT); (focus sizeOf_list_dec)))
local macro_rules | `(tactic| array_mem_dec) => `(tactic| ((with_reducible apply L2.x_nwL); (focus sizeOf_list_dec)))
local macro_rules | `(tactic| array_mem_dec) => `(tactic| ((with_reducible apply L2.x_append); (focus assumption); (focus sizeOf_list_dec)))
local macro_rules | `(tactic| array_mem_dec) => `(tactic| ((with_reducible apply L2.x_exdput); (focus assumption); (focus assumption); (focus sizeOf_list_dec)))
local macro_rules | `(tactic| clean_wf) => `(tactic| repeat' (first | array_get_dec | fail))
local macro_rules | `(tactic| array_mem_dec) => `(tactic| ((with_reducible apply L2.x_rlenL); (focus decreasing_trivial_pre_omega)))
local macro_rules | `(tactic| array_mem_dec) => `(tactic| ((with_reducible apply L2.x_rlenT); (focus decreasing_trivial_pre_omega)))
local macro_rules | `(tactic| array_mem_dec) => `(tactic| ((with_reducible apply L2.x_rlistL); (focus decreasing_trivial_pre_omega)))
local macro_rules | `(tactic| array_mem_dec) => `(tactic| ((with_reducible apply L2.x_rlistT); (focus decreasing_trivial_pre_omega)))
local macro_rules | `(tactic| array_mem_dec) => `(tactic| ((with_reducible apply L2.x_rtupL); (focus decreasing_trivial_pre_omega)))
local macro_rules | `(tactic| array_mem_dec) => `(tactic| ((with_reducible apply L2.x_rdict); (focus decreasing_trivial_pre_omega)))
local macro_rules | `(tactic| array_mem_dec) => `(tactic| (with_reducible refine L2.x_nonand ?_))
local macro_rules | `(tactic| array_mem_dec) => `(tactic| ((with_reducible apply L2.x_rlenQ); (focus decreasing_trivial_pre_omega)))
local macro_rules | `(tactic| array_mem_dec) => `(tactic| ((with_reducible apply L2.x_ixQ); (focus decreasing_trivial_pre_omega); (focus bv_omega)))
local macro_rules | `(tactic| array_mem_dec) => `(tactic| (with_reducible first | refine L2.x_nx ?_ | refine L2.x_yes ?_ | refine L2.x_turn ?_ | refine L2.x_seqN ?_ | refine L2.x_fld ?_ | refine L2.x_sfld ?_ | refine L2.x_methS ?_ | refine L2.x_make ?_ | refine L2.x_mk ?_))
local macro_rules | `(tactic| array_mem_dec) => `(tactic| ((with_reducible refine L2.x_mtS1 ?_); (with_reducible refine L2.x_mtS1 ?_); (with_reducible apply L2.x_mtS0); (focus assumption); (focus sizeOf_list_dec)))
local macro_rules | `(tactic| array_mem_dec) => `(tactic| ((with_reducible refine L2.x_mtS1 ?_); (with_reducible apply L2.x_mtS0); (focus assumption); (focus sizeOf_list_dec)))
local macro_rules | `(tactic| array_mem_dec) => `(tactic| ((with_reducible apply L2.x_mtS0); (focus assumption); (focus sizeOf_list_dec)))
local macro_rules | `(tactic| array_mem_dec) => `(tactic| ((with_reducible apply L2.x_fldk); (focus assumption); (focus sizeOf_list_dec); (focus sizeOf_list_dec); (focus sizeOf_list_dec)))
local macro_rules | `(tactic| array_mem_dec) => `(tactic| ((with_reducible apply L2.x_sfk); (focus assumption); (focus sizeOf_list_dec); (focus sizeOf_list_dec); (focus sizeOf_list_dec)))
local macro_rules | `(tactic| sizeOf_list_dec) => `(tactic| with_reducible first | exact L2.cfl_number | exact L2.cfl_caller | exact L2.cfl_count | exact L2.cfl_word | exact L2.cfl_causes | exact L2.cfl_free | exact L2.cfl_in_turn | exact L2.cfl_asks_place | exact L2.cfl_kind | exact L2.cfl_name | exact L2.cfl_rank | exact L2.cfl_told | exact L2.cfl_shown | fail)
local macro_rules | `(tactic| array_mem_dec) => `(tactic| ((with_reducible apply L2.x_gisd); (focus decreasing_trivial_pre_omega)))
local macro_rules | `(tactic| array_mem_dec) => `(tactic| ((with_reducible apply L2.x_gdg); (focus decreasing_trivial_pre_omega); (focus assumption)))
local macro_rules | `(tactic| array_mem_dec) => `(tactic| ((with_reducible apply L2.x_gdo); (focus decreasing_trivial_pre_omega)))
local macro_rules | `(tactic| array_mem_dec) => `(tactic| ((with_reducible apply L2.x_gdin); (focus decreasing_trivial_pre_omega)))
local macro_rules | `(tactic| array_mem_dec) => `(tactic| ((with_reducible apply L2.x_gdput); (focus assumption); (focus assumption); (focus sizeOf_list_dec)))
local macro_rules | `(tactic| sizeOf_list_dec) => `(tactic| with_reducible first | exact L2.kf_learnt | exact L2.kf_learn | exact L2.kf_row_of | exact L2.kf_floor | exact L2.kf_reach | exact L2.kf_sure | fail)
local macro_rules | `(tactic| array_mem_dec) => `(tactic| ((with_reducible apply L2.x_rdictG); (focus decreasing_trivial_pre_omega)))
local macro_rules | `(tactic| array_mem_dec) => `(tactic| (with_reducible first | refine L2.x_ivals ?_ | refine L2.x_ikeys ?_ | refine L2.x_iseq ?_ | refine L2.x_sl3 ?_))
local macro_rules | `(tactic| array_mem_dec) => `(tactic| ((with_reducible apply L2.x_tyd); (focus assumption)))
local macro_rules | `(tactic| array_mem_dec) => `(tactic| (with_reducible first | refine L2.x_iitems ?_))
local macro_rules | `(tactic| array_mem_dec) => `(tactic| ((with_reducible apply L2.x_neE); (focus decreasing_trivial_pre_omega); (focus decreasing_trivial_pre_omega)))
local macro_rules | `(tactic| sizeOf_list_dec) => `(tactic| with_reducible first | exact L2.kf_listed | exact L2.kf_merge | fail)
local macro_rules | `(tactic| array_mem_dec) => `(tactic| (with_reducible first | refine L2.x_gsub ?_))
local macro_rules | `(tactic| array_mem_dec) => `(tactic| (with_reducible first | refine L2.x_maxl ?_))
local macro_rules | `(tactic| sizeOf_list_dec) => `(tactic| with_reducible first | exact L2.chf_me | exact L2.chf_hands | exact L2.chf_ballot | exact L2.chf_yes | exact L2.chf_votes | exact L2.chf_reports | exact L2.chf_agreed | exact L2.chf_begin | exact L2.chf_message | exact L2.chf_receive | exact L2.chf_see_ballot | exact L2.chf_see_yes | exact L2.chf_see_votes | exact L2.chf_gathers | exact L2.chf_settled | exact L2.chf_len | fail)
local macro_rules | `(tactic| array_mem_dec) => `(tactic| (with_reducible first | refine L2.x_mink ?_))
local macro_rules | `(tactic| array_mem_dec) => `(tactic| (with_reducible first | refine L2.x_sortk ?_))
local macro_rules | `(tactic| array_mem_dec) => `(tactic| (with_reducible refine L2.x_irev ?_))
local macro_rules | `(tactic| array_mem_dec) => `(tactic| (with_reducible refine L2.x_ivalsT ?_))
local macro_rules | `(tactic| array_mem_dec) => `(tactic| (with_reducible first | refine L2.x_sorto ?_))
local macro_rules | `(tactic| array_mem_dec) => `(tactic| (with_reducible first | refine L2.x_callL ?_ | refine L2.x_callM ?_))
local macro_rules | `(tactic| sizeOf_list_dec) => `(tactic| with_reducible first | exact L2.chf_has_enough | exact L2.chf_made_by | exact L2.chf_propose | fail)
local macro_rules | `(tactic| array_mem_dec) => `(tactic| (with_reducible refine L2.x_methL ?_))
local macro_rules | `(tactic| array_mem_dec) => `(tactic| ((with_reducible apply L2.x_mtL); (focus assumption); (focus sizeOf_list_dec)))
local macro_rules | `(tactic| sizeOf_list_dec) => `(tactic| with_reducible first | exact L2.pfl_me | exact L2.pfl_number | exact L2.pfl_hands | exact L2.pfl_room | exact L2.pfl_made | exact L2.pfl_done | exact L2.pfl_took | exact L2.pfl_keeps | exact L2.pfl_order | exact L2.pfl_taken_by | exact L2.pfl_able_by | exact L2.pfl_check_room | exact L2.pfl_keep | exact L2.pfl_kept_calls | exact L2.pfl_utter | exact L2.pfl_step | exact L2.pfl_take | exact L2.pfl_let_go | exact L2.pfl_piece | exact L2.pfl_listen | exact L2.pfl_keep_new | exact L2.pfl_report | exact L2.pfl_finish | exact L2.pfl_rows | exact L2.pfl_taken | exact L2.pfl_kept | exact L2.pfl_places | exact L2.pfl_len | fail)
local macro_rules | `(tactic| array_mem_dec) => `(tactic| (with_reducible first | refine L2.x_iitemsT ?_ | refine L2.x_ikeysT ?_))
local macro_rules | `(tactic| array_mem_dec) => `(tactic| (with_reducible refine L2.x_izip ?_))
namespace K64
open PySem L2
def top (i : Nat) : Stmt := PySem.Challenge.pw_groupcall_k64_whole_one_plan.main.body.getD i (.Pass ⟨0, 0, 0, 0⟩)
abbrev s_bit_of : Stmt := top 1
abbrev s_has : Stmt := top 2
abbrev s_hands_of : Stmt := top 3
abbrev s_own_copy : Stmt := top 11
abbrev s_is_greater : Stmt := top 8
abbrev s_ballot_of : Stmt := top 9
abbrev s_greatest_yes : Stmt := top 10
abbrev s_many : Stmt := top 5
abbrev s_more_than_half : Stmt := top 6
abbrev s_set_of : Stmt := top 4
section
variable {P : Program} {w : World} {K : PySem.W.Frag} {mg : Str → Option Value} {base : Heap}
def sp_bit_of (K : PySem.W.Frag) : Sp := fun vs H Q _ => ∃ h : Int, vs = [.int h] ∧ 0 ≤ h ∧ h ≤ 1000 ∧ Q (.int (2 ^ h.toNat)) H
def sp_has (K : PySem.W.Frag) : Sp := fun vs H Q _ => ∃ n h : Int, vs = [.int n, .int h] ∧ 0 ≤ n ∧ 0 ≤ h ∧ h ≤ 1000 ∧ Q (.bl (n.toNat.testBit h.toNat)) H
def sp_hands_of (K : PySem.W.Frag) : Sp := fun vs H Q _ => ∃ n : Int, vs = [.int n] ∧ 0 ≤ n ∧ n < 9223372036854775808 ∧ ∀ H' l, H l = none → Same H H' → H' l = some (.lst ((GB.hl n).map V.int)) → Q (.ref l) H'
theorem sc_bit_of : FnScope ["hand"] ["hand"] (defScope s_bit_of) := ⟨rfl, rfl, rfl, by decide +kernel, rfl, by decide +kernel, by decide +kernel⟩
theorem ok_bit_of {f  : Addr} {fd  : FuncData} (F : Fun K "bit_of" "bit_of" s_bit_of f fd) : FnOk P w K mg base CX0 1 f fd ["hand"] (sp_bit_of K) := by
  refine F.ok sc_bit_of (fun vs H Q E h => ?_) (fun cdv A outer s H vs Q E hr h => ?_)
  · obtain ⟨x, rfl, _⟩ := h
    rfl
  obtain ⟨x, rfl, h⟩ := h
  have hu64 := hr.units
  have hu0 := hr.units0
  have hu := hu_of hr
  refine ⟨_, (pss_one (ps_ret (pe_ifExp (pt_cmpR op_ge (pv 0) pe_int (nomark _)) (pe_op op_shl pe_int (pv 0)) pe_int))), ?_⟩
  obtain ⟨h0, h1, k⟩ := h
  refine ⟨_, rfl, _, _, rfl, rfl, _, rfl, ?_⟩
  rw [decide_eq_true (show (0 : Int) ≤ x from h0)]
  refine iteT ⟨_, rfl, _, _, rfl, rfl, ⟨h0, by omega, by decide⟩, ?_⟩
  show Q (.int (1 * 2 ^ x.toNat)) H
  rw [Int.one_mul]
  exact k
theorem sc_has : FnScope ["hands", "hand"] ["hands", "hand"] (defScope s_has) := ⟨rfl, rfl, rfl, by decide +kernel, rfl, by decide +kernel, by decide +kernel⟩
theorem ok_has {f f_bit_of : Addr} {fd fd_bit_of : FuncData} (F : Fun K "has" "has" s_has f fd)
    (G_bit_of : FnOk P w K mg base CX0 1 f_bit_of fd_bit_of ["hand"] (sp_bit_of K)) (C_bit_of : Cal K mg "bit_of" f_bit_of fd_bit_of ["hand"]) : FnOk P w K mg base CX0 2 f fd ["hands", "hand"] (sp_has K) := by
  refine F.ok sc_has (fun vs H Q E h => ?_) (fun cdv A outer s H vs Q E hr h => ?_)
  · obtain ⟨n, x, rfl, _⟩ := h
    rfl
  obtain ⟨n, x, rfl, h⟩ := h
  have hu64 := hr.units
  have hu0 := hr.units0
  have hu := hu_of hr
  refine ⟨_, (pss_one (ps_ret (pe_cmpR op_ne (pe_op op_and (pv 0) (pcall G_bit_of C_bit_of hr (pa_cons (pv 1) pa_nil))) pe_int (nomark _)))), ?_⟩
  obtain ⟨hn, h0, h1, k⟩ := h
  refine ⟨_, rfl, _, rfl, x, rfl, h0, h1, _, _, rfl, rfl, rfl, ?_⟩
  show Q (.bl (!decide (V.int (Builtin.bitAnd n (2 ^ x.toNat)) = V.int 0))) H
  rw [and_test hn h0]
  exact k
theorem sc_hands_of : FnScope ["hands"] ["hands"] (defScope s_hands_of) := ⟨rfl, rfl, rfl, by decide +kernel, rfl, by decide +kernel, by decide +kernel⟩
theorem ok_hands_of {f f_has : Addr} {fd fd_has : FuncData} (F : Fun K "hands_of" "hands_of" s_hands_of f fd)
    (G_has : FnOk P w K mg base CX0 2 f_has fd_has ["hands", "hand"] (sp_has K)) (C_has : Cal K mg "has" f_has fd_has ["hands", "hand"]) (h_range : mg "range" = none) : FnOk P w K mg base CX0 3 f fd ["hands"] (sp_hands_of K) := by
  refine F.ok sc_hands_of (fun vs H Q E h => ?_) (fun cdv A outer s H vs Q E hr h => ?_)
  · obtain ⟨n, rfl, _⟩ := h
    rfl
  obtain ⟨n, rfl, h⟩ := h
  have hu64 := hr.units
  have hu0 := hr.units0
  have hu := hu_of hr
  refine ⟨_, (pss_one (ps_ret (pe_comp ["hands", "hand"] [some 0, none] rfl rfl (by kernel_rfl) (pi_range1 rfl h_range (pa_cons (pe_bm0 PySem.F.plainAttrs_int PySem.F.slot_int_bit_length PySem.F.type_int_bit_length mt_bitlen (pv 0)) pa_nil)) (fun _ _ _ _ _ nd => pg_name (i := 1) nd rfl (Or.inl rfl)) (fun _ _ _ _ _ => (pif_one (pt_callK K rfl (pcall G_has C_has hr (pa_cons (pv 0) (pa_cons (pv 1) pa_nil)))))) (fun _ _ _ _ _ => (pv 1))))), ?_⟩
  obtain ⟨h0, h1, k⟩ := h
  obtain ⟨b1, b2⟩ := preH_bits h0 h1
  refine ⟨_, rfl, rfl, n, rfl, rfl, _, rfl, by omega, by omega, fun D hD => ?_⟩
  refine comp_range (fun i σ H' => ∃ v, σ = [some (.int n), v] ∧ H' = upd H D (.lst ((preH n i).map V.int))) ⟨none, rfl, rfl⟩ ?_ ?_
  · rintro i σ H' hi ⟨v, rfl, rfl⟩
    have hi' : i < Builtin.Int.intBits n := by simpa using hi
    refine ⟨_, rfl, _, rfl, n, _, rfl, h0, (by omega), (by omega), _, rfl, ?_⟩
    have ei : (0 + (i : Int)).toNat = i := by omega
    rw [ei]
    cases e : n.toNat.testBit i with
    | true =>
      refine iteT ⟨_, rfl, _, upd_same, ?_, _, rfl, ?_⟩
      · rw [List.length_map]
        have := preH_len n i
        exact small1000 (by omega)
      · rw [upd_upd, preH_yes e, List.map_append, Int.zero_add]
        rfl
    | false =>
      refine iteF ⟨_, rfl, ?_⟩
      rw [preH_no e]
  · rintro σ H' ⟨v, rfl, rfl⟩
    have e : ((Builtin.Int.intBits n : Nat) : Int).toNat = Builtin.Int.intBits n := Int.toNat_natCast _
    rw [e, b2]
    exact k _ D hD (same_upd hD) upd_same
mutual

inductive Pl (H : Hp) : Nat → V → PyData → Prop
  | non {n : Nat} : Pl H n .non .none
  | int {n : Nat} (i : Int) : Pl H n (.int i) (.int i)
  | str {n : Nat} (x : Str) : (PyData.str x).canLay0 = true → Pl H n (.str x) (.str x)
  | tup {n : Nat} {a : Addr} {xs : List V} {ds : List PyData} : H a = some (.tup xs) → xs.length ≤ 10 → Pls H n xs ds → Pl H (n + 1) (.ref a) (.tuple ds)
inductive Pls (H : Hp) : Nat → List V → List PyData → Prop
  | nil {n : Nat} : Pls H n [] []
  | cons {n : Nat} {x : V} {xs : List V} {d : PyData} {ds : List PyData} : Pl H n x d → Pls H n xs ds → Pls H n (x :: xs) (d :: ds)
end
mutual
theorem Pl.up {H H' : Hp} (s : SmH H H') : ∀ {n : Nat} {x : V} {d : PyData}, Pl H n x d → Pl H' n x d
  | _, _, _, .non => .non
  | _, _, _, .int i => .int i
  | _, _, _, .str i l => .str i l
  | _, _, _, .tup e l h => .tup (s _ _ e) l (Pls.up s h)
theorem Pls.up {H H' : Hp} (s : SmH H H') : ∀ {n : Nat} {xs : List V} {ds : List PyData}, Pls H n xs ds → Pls H' n xs ds
  | _, _, _, .nil => .nil
  | _, _, _, .cons h t => .cons (Pl.up s h) (Pls.up s t)
end
mutual
theorem Pl.mono {H : Hp} : ∀ {n : Nat} {x : V} {d : PyData}, Pl H n x d → Pl H (n + 1) x d
  | _, _, _, .non => .non
  | _, _, _, .int i => .int i
  | _, _, _, .str i l => .str i l
  | _, _, _, .tup e l h => .tup e l (Pls.mono h)
theorem Pls.mono {H : Hp} : ∀ {n : Nat} {xs : List V} {ds : List PyData}, Pls H n xs ds → Pls H (n + 1) xs ds
  | _, _, _, .nil => .nil
  | _, _, _, .cons h t => .cons (Pl.mono h) (Pls.mono t)
end
theorem pls_at {H : Hp} {n : Nat} : ∀ {xs : List V} {ds : List PyData} {i : Nat} {x : V}, Pls H n xs ds → xs[i]? = some x → ∃ d, ds[i]? = some d ∧ Pl H n x d
  | _, _, _, _, .nil, e => by simp at e
  | _, _, 0, _, .cons h _, e => by simp at e; subst e; exact ⟨_, rfl, h⟩
  | _, _, i + 1, x, .cons _ t, e => by
    obtain ⟨b, h1, h2⟩ := pls_at (i := i) t (by simpa using e)
    exact ⟨b, by simpa using h1, h2⟩
theorem pls_snoc {H : Hp} {n : Nat} : ∀ {xs : List V} {ds : List PyData} {x : V} {d : PyData}, Pls H n xs ds → Pl H n x d → Pls H n (xs ++ [x]) (ds ++ [d])
  | _, _, _, _, .nil, h => .cons h .nil
  | _, _, _, _, .cons r t, h => .cons r (pls_snoc t h)
theorem pls_len {H : Hp} {n : Nat} : ∀ {xs : List V} {ds : List PyData}, Pls H n xs ds → xs.length = ds.length
  | _, _, .nil => rfl
  | _, _, .cons _ t => congrArg (· + 1) (pls_len t)
mutual
theorem Pl.dp {K : PySem.W.Frag} {H : Hp} : ∀ {n : Nat} {x : V} {d : PyData}, Pl H n x d → Dp K H x d
  | _, _, _, .non => .none
  | _, _, _, .int i => .int i
  | _, _, _, .str i _ => .str i
  | _, _, _, .tup e _ h => .tup (SqT.of e) (Pls.dp h)
theorem Pls.dp {K : PySem.W.Frag} {H : Hp} : ∀ {n : Nat} {xs : List V} {ds : List PyData}, Pls H n xs ds → Dps K H xs ds
  | _, _, _, .nil => .nil
  | _, _, _, .cons h t => .cons (Pl.dp h) (Pls.dp t)
end
theorem tupLay {ds : List PyData} (h : PyData.canLayAll0 ds = true) : (PyData.tuple ds).canLay0 = true := by
  first | (rw [PyData.canLay0.eq_5]; exact h) | (rw [PyData.canLay0.eq_6]; exact h) | (rw [PyData.canLay0.eq_7]; exact h)
mutual
theorem Pl.lay {H : Hp} : ∀ {n : Nat} {x : V} {d : PyData}, Pl H n x d → d.canLay0 = true
  | _, _, _, .non => rfl
  | _, _, _, .int i => rfl
  | _, _, _, .str i l => l
  | _, _, _, .tup _ _ h => tupLay (Pls.lay h)
theorem Pls.lay {H : Hp} : ∀ {n : Nat} {xs : List V} {ds : List PyData}, Pls H n xs ds → PyData.canLayAll0 ds = true
  | _, _, _, .nil => rfl
  | _, _, _, .cons h t => by rw [PyData.canLayAll0.eq_2, Pl.lay h, Pls.lay t]; rfl
end
def spr_own_copy (K : PySem.W.Frag) : Nat → Sp
  | 0 => fun _ _ _ _ => False
  | n + 1 => fun vs H Q _ => ∃ x, vs = [x] ∧ ∃ d, Pl H n x d ∧ ∀ H' x', Same H H' → Pl H' n x' d → Q x' H'
theorem sc_own_copy : FnScope ["value"] ["value"] (defScope s_own_copy) := ⟨rfl, rfl, rfl, by decide +kernel, rfl, by decide +kernel, by decide +kernel⟩
set_option maxHeartbeats 1000000 in
theorem okr_own_copy {f  : Addr} {fd  : FuncData} (F : Fun K "own_copy" "own_copy" s_own_copy f fd)
    (n k : Nat) (G_own_copy : FnOk P w K mg base CX0 k f fd ["value"] (spr_own_copy K n)) (C_own_copy : Cal K mg "own_copy" f fd ["value"]) (h_dict : mg "dict" = none) (h_isinstance : mg "isinstance" = none) (h_list : mg "list" = none) (h_tuple : mg "tuple" = none) : FnOk P w K mg base CX0 (k + 1) f fd ["value"] (spr_own_copy K (n + 1)) := by
  refine F.ok sc_own_copy (fun vs H Q E h => ?_) (fun cdv A outer s H vs Q E hr h => ?_)
  · obtain ⟨x, rfl, _⟩ := h
    rfl
  obtain ⟨x, rfl, h⟩ := h
  have hu64 := hr.units
  have hu0 := hr.units0
  have hu := hu_of hr
  refine ⟨_, (pss_cons (ps_if (pt_callK K rfl (pe_callB (call_isiK (K := K) rfl) (by rfl) h_isinstance PyProof.Rows.boot_isinstance (pa_cons (pv 0) (pa_cons (pe_type h_list PyProof.Rows.boot_list) pa_nil)))) (pss_one ps_never) pss_nil)
      (pss_cons (ps_if (pt_callK K rfl (pe_callB (call_isiK (K := K) rfl) (by rfl) h_isinstance PyProof.Rows.boot_isinstance (pa_cons (pv 0) (pa_cons (pe_type h_tuple PyProof.Rows.boot_tuple) pa_nil)))) (pss_one (ps_ret (pe_callTy (call_tupleK (K := K) rfl) (by rfl) h_tuple PyProof.Rows.boot_tuple (pa_cons (pe_comp ["part"] [none] rfl rfl (by kernel_rfl) (pi_tupK (K := K) rfl (pv 0)) (fun _ _ _ _ _ nd => pg_name (i := 0) nd rfl (Or.inl rfl)) (fun _ _ _ _ _ => pif_nil) (fun _ _ _ _ _ => (pcall G_own_copy C_own_copy hr (pa_cons (pv 0) pa_nil)))) pa_nil)))) pss_nil)
      (pss_cons (ps_if (pt_callK K rfl (pe_callB (call_isiK (K := K) rfl) (by rfl) h_isinstance PyProof.Rows.boot_isinstance (pa_cons (pv 0) (pa_cons (pe_type h_dict PyProof.Rows.boot_dict) pa_nil)))) (pss_one ps_never) pss_nil)
      (pss_one (ps_ret (pv 0)))))), ?_⟩
  obtain ⟨d, hp, kk⟩ := h
  cases hp with
  | non =>
    clean_wf
    refine ⟨_, _, _, false, rfl, .non, (by kernel_rfl), ?_⟩
    clean_wf
    refine ⟨_, _, _, false, rfl, .non, (by kernel_rfl), ?_⟩
    clean_wf
    refine ⟨_, _, _, false, rfl, .non, (by kernel_rfl), ?_⟩
    clean_wf
    exact kk H _ (.refl _) .non
  | int i =>
    clean_wf
    refine ⟨_, _, _, false, rfl, .int _, (by kernel_rfl), ?_⟩
    clean_wf
    refine ⟨_, _, _, false, rfl, .int _, (by kernel_rfl), ?_⟩
    clean_wf
    refine ⟨_, _, _, false, rfl, .int _, (by kernel_rfl), ?_⟩
    clean_wf
    exact kk H _ (.refl _) (.int i)
  | str i li =>
    clean_wf
    refine ⟨_, _, _, false, rfl, .str _, (by kernel_rfl), ?_⟩
    clean_wf
    refine ⟨_, _, _, false, rfl, .str _, (by kernel_rfl), ?_⟩
    clean_wf
    refine ⟨_, _, _, false, rfl, .str _, (by kernel_rfl), ?_⟩
    clean_wf
    exact kk H _ (.refl _) (.str i li)
  | @tup m a xs ds e hl hs =>
    clean_wf
    refine ⟨_, _, _, false, rfl, .tup e, (by kernel_rfl), ?_⟩
    clean_wf
    refine ⟨_, _, _, true, rfl, .tup e, (by kernel_rfl), ?_⟩
    have st := SqT.of (K := K) e
    clean_wf
    intro E hE
    refine comp_tup (K := K) (a := a) (xs := xs) (fun i σ A => ∃ v zs, σ = [v] ∧ Same H A ∧ A E = some (.lst zs) ∧ zs.length = i ∧ Pls A m zs (ds.take i)) ⟨none, [], rfl, same_upd hE, upd_same, rfl, .nil⟩ ?_ ?_ ?_
    · rintro i σ A _ ⟨_, _, _, z, _⟩
      exact SqT.of (z _ _ e)
    · rintro i x σ A hx ⟨v, zs, rfl, sA, hEx, lz, pz⟩
      obtain ⟨d', hd', hpl⟩ := pls_at hs hx
      have hi := (List.getElem?_eq_some_iff.mp hx).1
      clean_wf
      refine ⟨x, rfl, d', hpl.up (.same sA), fun A1 x' s1 p1 => ?_⟩
      have hE1 := s1 _ _ hEx
      have kp : SmH A1 (upd A1 E (.lst (zs ++ [x']))) := SmH.lst hE1
      refine ⟨zs, hE1, small1000 (by omega), _, zs ++ [x'], rfl, fun b o z => ?_, upd_same, by rw [List.length_append, lz]; rfl, ?_⟩
      · rw [upd_ne (ne_of_none z hE)]
        exact s1 _ _ (sA b o z)
      · rw [take_get hd']
        exact pls_snoc (pz.up fun a xs z => kp _ _ (s1 _ _ z)) (p1.up kp)
    rintro σ A ⟨v, zs, rfl, sA, hEx, lz, pz⟩
    rw [pls_len hs, List.take_length] at pz
    clean_wf
    intro t A1 ht s1 g1
    exact kk A1 _ (sA.trans s1) (.tup g1 (by omega) (pz.up (.same s1)))
def sp_own_copy (K : PySem.W.Frag) : Sp := spr_own_copy K 4
theorem ok_own_copy {f : Addr} {fd : FuncData} (F : Fun K "own_copy" "own_copy" s_own_copy f fd) (C : Cal K mg "own_copy" f fd ["value"]) (h_dict : mg "dict" = none) (h_isinstance : mg "isinstance" = none) (h_list : mg "list" = none) (h_tuple : mg "tuple" = none) : FnOk P w K mg base CX0 4 f fd ["value"] (sp_own_copy K) :=
  okr_own_copy F 3 3 (okr_own_copy F 2 2 (okr_own_copy F 1 1 (okr_own_copy F 0 0 ⟨fun _ _ _ _ h => h.elim, fun _ _ _ _ _ _ _ _ _ _ _ _ _ h => h.elim⟩ C h_dict h_isinstance h_list h_tuple) C h_dict h_isinstance h_list h_tuple) C h_dict h_isinstance h_list h_tuple) C h_dict h_isinstance h_list h_tuple

def BaV (H : Hp) (v : V) : Option (Int × Int) → Prop
  | none => v = .non
  | some q => ∃ t, v = .ref t ∧ H t = some (.tup [.int q.1, .int q.2])
theorem BaV.up {H H' : Hp} (s : SmH H H') {v : V} {b : Option (Int × Int)} (h : BaV H v b) : BaV H' v b := by
  cases b with
  | none => exact h
  | some q => obtain ⟨t, e, g⟩ := h; exact ⟨t, e, s _ _ g⟩

def YeV (H : Hp) (v : V) : Option ((Int × Int) × PyData) → Prop
  | none => v = .non
  | some q => ∃ t u pv, v = .ref t ∧ H t = some (.tup [.ref u, pv]) ∧ H u = some (.tup [.int q.1.1, .int q.1.2]) ∧ Pl H 1 pv q.2
theorem YeV.up {H H' : Hp} (s : SmH H H') {v : V} {y : Option ((Int × Int) × PyData)} (h : YeV H v y) : YeV H' v y := by
  cases y with
  | none => exact h
  | some q => obtain ⟨t, u, pv, e, g1, g2, g3⟩ := h; exact ⟨t, u, pv, e, s _ _ g1, s _ _ g2, g3.up s⟩
def baD : Option (Int × Int) → PyData
  | none => .none
  | some q => .tuple [.int q.1, .int q.2]
def yeD : Option ((Int × Int) × PyData) → PyData
  | none => .none
  | some q => .tuple [baD (some q.1), q.2]
theorem ba_pl {H : Hp} {v : V} {b : Option (Int × Int)} {n : Nat} (h : BaV H v b) : Pl H (n + 1) v (baD b) := by
  cases b with
  | none => obtain rfl : v = .non := h; exact .non
  | some q => obtain ⟨t, rfl, g⟩ := h; exact .tup g (by show 2 ≤ 10; decide) (.cons (.int _) (.cons (.int _) .nil))
theorem pl_ba {H : Hp} {v : V} {n : Nat} {b : Option (Int × Int)} (h : Pl H n v (baD b)) : BaV H v b := by
  cases b with
  | none =>
    have h : Pl H n v .none := h
    cases h
    rfl
  | some q =>
    have h : Pl H n v (.tuple [.int q.1, .int q.2]) := h
    cases h with
    | tup e l hs =>
      cases hs with
      | cons h1 t1 =>
        cases t1 with
        | cons h2 t2 =>
          cases t2
          cases h1
          cases h2
          exact ⟨_, rfl, e⟩
theorem ye_pl {H : Hp} {v : V} {y : Option ((Int × Int) × PyData)} (h : YeV H v y) : Pl H 2 v (yeD y) := by
  cases y with
  | none => obtain rfl : v = .non := h; exact .non
  | some q => obtain ⟨t, u, pv, rfl, g1, g2, g3⟩ := h; exact .tup g1 (by show 2 ≤ 10; decide) (.cons (ba_pl (b := some q.1) ⟨u, rfl, g2⟩) (.cons g3 .nil))
theorem pl_ye {H : Hp} {v : V} {y : Option ((Int × Int) × PyData)} (h : Pl H 2 v (yeD y)) : YeV H v y := by
  cases y with
  | none =>
    have h : Pl H 2 v .none := h
    cases h
    rfl
  | some q =>
    have h : Pl H 2 v (.tuple [baD (some q.1), q.2]) := h
    cases h with
    | tup e l hs =>
      cases hs with
      | cons h1 t1 =>
        cases t1 with
        | cons h2 t2 =>
          cases t2
          obtain ⟨u, rfl, g⟩ := pl_ba h1
          exact ⟨_, u, _, rfl, e, g, h2⟩

def yb (y : Option ((Int × Int) × PyData)) : Option (Int × Int) := y.map (·.1)
def bgt : Option (Int × Int) → Option (Int × Int) → Bool
  | none, _ => false
  | some _, none => true
  | some q, some r => HT.lexLt [r.1, r.2] [q.1, q.2]
theorem ref_non (t : Addr) : decide (V.ref t = V.non) = false := decide_eq_false (by intro z; cases z)
def sp_is_greater (K : PySem.W.Frag) : Sp := fun vs H Q _ => ∃ x y, vs = [x, y] ∧ ∃ b c, BaV H x b ∧ BaV H y c ∧ Q (.bl (bgt b c)) H
theorem sc_is_greater : FnScope ["one", "other"] ["one", "other"] (defScope s_is_greater) := ⟨rfl, rfl, rfl, by decide +kernel, rfl, by decide +kernel, by decide +kernel⟩
theorem ok_is_greater {f  : Addr} {fd  : FuncData} (F : Fun K "is_greater" "is_greater" s_is_greater f fd) : FnOk P w K mg base CX0 1 f fd ["one", "other"] (sp_is_greater K) := by
  refine F.ok sc_is_greater (fun vs H Q E h => ?_) (fun cdv A outer s H vs Q E hr h => ?_)
  · obtain ⟨x, y, rfl, _⟩ := h
    rfl
  obtain ⟨x, y, rfl, h⟩ := h
  have hu64 := hr.units
  have hu0 := hr.units0
  have hu := hu_of hr
  refine ⟨_, (pss_one (ps_ret (pe_and (pe_cmpR op_notN (pv 0) pe_non (nomark _)) (pe_one (pe_or (pe_cmpR op_isN (pv 1) pe_non (nomark _)) (pe_one (pe_cmpR (op_gtT (K := K) rfl hu0) (pv 0) (pv 1) (nomark _)))))))), ?_⟩
  obtain ⟨b, c, hb, hc, kk⟩ := h
  cases b with
  | none =>
    obtain rfl : x = .non := hb
    clean_wf
    exact kk
  | some q =>
    obtain ⟨t, rfl, ht⟩ := hb
    cases c with
    | none =>
      obtain rfl : y = .non := hc
      clean_wf
      rw [ref_non]
      clean_wf
      exact kk
    | some r =>
      obtain ⟨u, rfl, hv⟩ := hc
      clean_wf
      rw [ref_non]
      clean_wf
      rw [ref_non]
      clean_wf
      exact ⟨t, u, [q.1, q.2], [r.1, r.2], rfl, rfl, SqT.of ht, SqT.of hv, kk⟩
def sp_ballot_of (K : PySem.W.Frag) : Sp := fun vs H Q _ => ∃ x, vs = [x] ∧ ∃ y, YeV H x y ∧ ∀ z, BaV H z (yb y) → Q z H
theorem sc_ballot_of : FnScope ["yes"] ["yes"] (defScope s_ballot_of) := ⟨rfl, rfl, rfl, by decide +kernel, rfl, by decide +kernel, by decide +kernel⟩
theorem ok_ballot_of {f  : Addr} {fd  : FuncData} (F : Fun K "ballot_of" "ballot_of" s_ballot_of f fd) : FnOk P w K mg base CX0 1 f fd ["yes"] (sp_ballot_of K) := by
  refine F.ok sc_ballot_of (fun vs H Q E h => ?_) (fun cdv A outer s H vs Q E hr h => ?_)
  · obtain ⟨x, rfl, _⟩ := h
    rfl
  obtain ⟨x, rfl, h⟩ := h
  have hu64 := hr.units
  have hu0 := hr.units0
  have hu := hu_of hr
  refine ⟨_, (pss_one (ps_ret (pe_ifExp (pt_cmpR op_isN (pv 0) pe_non (nomark _)) pe_non (pe_ix (ix_tupK (K := K) rfl) (pv 0) pe_int (fun _ _ => rfl))))), ?_⟩
  obtain ⟨y, hy, kk⟩ := h
  cases y with
  | none =>
    obtain rfl : x = .non := hy
    clean_wf
    exact kk _ rfl
  | some q =>
    obtain ⟨t, u, pv, rfl, g1, g2, g3⟩ := hy
    have st := SqT.of (K := K) g1
    have a0 : atI [V.ref u, pv] 0 = some (.ref u) := by kernel_rfl
    clean_wf
    rw [ref_non]
    clean_wf
    exact kk _ ⟨u, rfl, g2⟩

def gYes : List (Option ((Int × Int) × PyData)) → Option ((Int × Int) × PyData) → Option ((Int × Int) × PyData)
  | [], g => g
  | y :: ys, g => gYes ys (if bgt (yb y) (yb g) = true then y else g)
theorem gYes_snoc : ∀ (ys : List (Option ((Int × Int) × PyData))) (y g : Option ((Int × Int) × PyData)), gYes (ys ++ [y]) g = if bgt (yb y) (yb (gYes ys g)) = true then y else gYes ys g
  | [], _, _ => rfl
  | _ :: ys, y, g => gYes_snoc ys y _
def sp_greatest_yes (K : PySem.W.Frag) : Sp := fun vs H Q _ => ∃ (a : Addr), vs = [.ref a] ∧ ∃ xs ys, SqL K H a xs ∧ Paired (fun x y => YeV H x y) xs ys ∧ ∀ z, YeV H z (gYes ys none) → Q z H
theorem sc_greatest_yes : FnScope ["some", "greatest", "yes"] ["some"] (defScope s_greatest_yes) := ⟨rfl, rfl, rfl, by decide +kernel, rfl, by decide +kernel, by decide +kernel⟩
theorem ok_greatest_yes {f f_is_greater f_ballot_of : Addr} {fd fd_is_greater fd_ballot_of : FuncData} (F : Fun K "greatest_yes" "greatest_yes" s_greatest_yes f fd)
    (G_is_greater : FnOk P w K mg base CX0 1 f_is_greater fd_is_greater ["one", "other"] (sp_is_greater K)) (C_is_greater : Cal K mg "is_greater" f_is_greater fd_is_greater ["one", "other"])
    (G_ballot_of : FnOk P w K mg base CX0 1 f_ballot_of fd_ballot_of ["yes"] (sp_ballot_of K)) (C_ballot_of : Cal K mg "ballot_of" f_ballot_of fd_ballot_of ["yes"]) : FnOk P w K mg base CX0 2 f fd ["some"] (sp_greatest_yes K) := by
  refine F.ok sc_greatest_yes (fun vs H Q E h => ?_) (fun cdv A outer s H vs Q E hr h => ?_)
  · obtain ⟨a, rfl, _⟩ := h
    rfl
  obtain ⟨a, rfl, h⟩ := h
  have hu64 := hr.units
  have hu0 := hr.units0
  have hu := hu_of hr
  refine ⟨_, (pss_cons (ps_set (i := 1) sc_greatest_yes.nd rfl (Or.inl rfl) pe_non)
      (pss_cons (ps_for PassesOwn.never rfl (pi_listK (K := K) rfl (pv 0)) (pg_name (i := 2) sc_greatest_yes.nd rfl (Or.inl rfl))
      (pss_one (ps_if (pt_callK K rfl (pcall G_is_greater C_is_greater hr (pa_cons (pcall G_ballot_of C_ballot_of hr (pa_cons (pv 2) pa_nil)) (pa_cons (pcall G_ballot_of C_ballot_of hr (pa_cons (pv 1) pa_nil)) pa_nil)))) (pss_one (ps_set (i := 1) sc_greatest_yes.nd rfl (Or.inl rfl) (pv 2))) pss_nil)))
      (pss_one (ps_ret (pv 1))))), ?_⟩
  obtain ⟨xs, ys, ha, hx, kk⟩ := h
  have ln := Paired.length hx
  clean_wf
  refine for_list (xs := xs) (fun i σ A => H = A ∧ ∃ z v, σ = [some (.ref a), some z, v] ∧ YeV H z (gYes (ys.take i) none)) ⟨rfl, .non, none, rfl, rfl⟩ (fun i σ A _ z => by rw [← z.1]; exact ha) ?_ ?_
  · rintro i x σ _ hi ⟨rfl, z, v, rfl, hy⟩
    obtain ⟨y', hk', hy'⟩ := paired_at hx hi
    rw [take_get hk', gYes_snoc]
    clean_wf
    refine ⟨x, rfl, y', hy', fun b1 e1 => ?_⟩
    clean_wf
    refine ⟨z, rfl, _, hy, fun b2 e2 => ?_⟩
    clean_wf
    refine ⟨b1, b2, rfl, _, _, e1, e2, ?_⟩
    clean_wf
    refine ite2 (fun h1 => ?_) fun h1 => ?_
    · clean_wf
      exact ⟨rfl, x, _, rfl, by rw [if_pos h1]; exact hy'⟩
    · exact ⟨rfl, z, _, rfl, by rw [if_neg h1]; exact hy⟩
  rintro σ _ ⟨rfl, z, v, rfl, hy⟩
  rw [ln, List.take_length] at hy
  clean_wf
  exact kk z hy
def sp_many (K : PySem.W.Frag) : Sp := fun vs H Q _ => ∃ (n : Int), vs = [.int n] ∧ 0 ≤ n ∧ n < 9223372036854775808 ∧ ∀ H', Same H H' → Q (.int ((GB.hl n).length : Nat)) H'
theorem sc_many : FnScope ["hands"] ["hands"] (defScope s_many) := ⟨rfl, rfl, rfl, by decide +kernel, rfl, by decide +kernel, by decide +kernel⟩
theorem ok_many {f f_hands_of : Addr} {fd fd_hands_of : FuncData} (F : Fun K "many" "many" s_many f fd)
    (G_hands_of : FnOk P w K mg base CX0 3 f_hands_of fd_hands_of ["hands"] (sp_hands_of K)) (C_hands_of : Cal K mg "hands_of" f_hands_of fd_hands_of ["hands"]) (h_len : mg "len" = none) : FnOk P w K mg base CX0 4 f fd ["hands"] (sp_many K) := by
  refine F.ok sc_many (fun vs H Q E h => ?_) (fun cdv A outer s H vs Q E hr h => ?_)
  · obtain ⟨n, rfl, _⟩ := h
    rfl
  obtain ⟨n, rfl, h⟩ := h
  have hu64 := hr.units
  have hu0 := hr.units0
  have hu := hu_of hr
  refine ⟨_, (pss_one (ps_ret (pe_callB (call_lenK (K := K) rfl) (by rfl) h_len PySem.boot_len (pa_cons (pcall G_hands_of C_hands_of hr (pa_cons (pv 0) pa_nil)) pa_nil)))), ?_⟩
  obtain ⟨n0, n1, kk⟩ := h
  clean_wf
  refine ⟨n, rfl, n0, n1, fun H1 l hl s1 g1 => ?_⟩
  have sl := SqL.of (K := K) g1
  clean_wf
  have := kk H1 s1
  rw [List.length_map]
  exact this
theorem and_nat {v n : Int} (v0 : 0 ≤ v) (n0 : 0 ≤ n) : Builtin.bitAnd v n = ((v.toNat &&& n.toNat : Nat) : Int) := by
  unfold Builtin.bitAnd
  rw [decide_eq_true v0, decide_eq_true n0]
theorem or_nat {v n : Int} (v0 : 0 ≤ v) (n0 : 0 ≤ n) : Builtin.bitOr v n = ((v.toNat ||| n.toNat : Nat) : Int) := bitOr_pp v0 n0
theorem and_lt {v n : Int} (v0 : 0 ≤ v) (n0 : 0 ≤ n) (n1 : n < 9223372036854775808) : 0 ≤ Builtin.bitAnd v n ∧ Builtin.bitAnd v n < 9223372036854775808 := by
  rw [and_nat v0 n0]
  have : v.toNat &&& n.toNat ≤ n.toNat := Nat.and_le_right
  omega
theorem or_lt {v n : Int} (v0 : 0 ≤ v) (v1 : v < 9223372036854775808) (n0 : 0 ≤ n) (n1 : n < 9223372036854775808) : 0 ≤ Builtin.bitOr v n ∧ Builtin.bitOr v n < 9223372036854775808 := by
  rw [or_nat v0 n0]
  have : v.toNat ||| n.toNat < 2 ^ 63 := Nat.or_lt_two_pow (by have : (2 : Nat) ^ 63 = 9223372036854775808 := by decide
                                                               omega) (by have : (2 : Nat) ^ 63 = 9223372036854775808 := by decide
                                                                          omega)
  have p : (2 : Nat) ^ 63 = 9223372036854775808 := by decide
  omega
theorem bit_lt {h : Int} (h0 : 0 ≤ h) (h1 : h < 63) : (0 : Int) ≤ 2 ^ h.toNat ∧ (2 : Int) ^ h.toNat < 9223372036854775808 := by
  have p : (2 : Nat) ^ h.toNat < 2 ^ 63 := Nat.pow_lt_pow_right (by decide) (by omega)
  have q : (2 : Nat) ^ 63 = 9223372036854775808 := by decide
  refine ⟨Int.le_of_lt (Int.pow_pos (by decide)), ?_⟩
  rw [show (2 : Int) ^ h.toNat = ((2 ^ h.toNat : Nat) : Int) from (Int.natCast_pow 2 h.toNat).symm]
  generalize 2 ^ h.toNat = z at p
  omega

def half (v n : Int) : Bool := decide (2 * (((GB.hl (Builtin.bitAnd v n)).length : Nat) : Int) > (((GB.hl n).length : Nat) : Int))
def sp_more_than_half (K : PySem.W.Frag) : Sp := fun vs H Q _ => ∃ (v n : Int), vs = [.int v, .int n] ∧ 0 ≤ v ∧ 0 ≤ n ∧ n < 9223372036854775808 ∧ ∀ H', Same H H' → Q (.bl (half v n)) H'
theorem sc_more_than_half : FnScope ["some", "hands"] ["some", "hands"] (defScope s_more_than_half) := ⟨rfl, rfl, rfl, by decide +kernel, rfl, by decide +kernel, by decide +kernel⟩
theorem ok_more_than_half {f f_many : Addr} {fd fd_many : FuncData} (F : Fun K "more_than_half" "more_than_half" s_more_than_half f fd)
    (G_many : FnOk P w K mg base CX0 4 f_many fd_many ["hands"] (sp_many K)) (C_many : Cal K mg "many" f_many fd_many ["hands"]) : FnOk P w K mg base CX0 5 f fd ["some", "hands"] (sp_more_than_half K) := by
  refine F.ok sc_more_than_half (fun vs H Q E h => ?_) (fun cdv A outer s H vs Q E hr h => ?_)
  · obtain ⟨v, n, rfl, _⟩ := h
    rfl
  obtain ⟨v, n, rfl, h⟩ := h
  have hu64 := hr.units
  have hu0 := hr.units0
  have hu := hu_of hr
  refine ⟨_, (pss_one (ps_ret (pe_cmpR op_gt (pe_op op_mul pe_int (pcall G_many C_many hr (pa_cons (pe_op op_and (pv 0) (pv 1)) pa_nil))) (pcall G_many C_many hr (pa_cons (pv 1) pa_nil)) (nomark _)))), ?_⟩
  obtain ⟨v0, n0, n1, kk⟩ := h
  obtain ⟨a0, a1⟩ := and_lt v0 n0 n1
  clean_wf
  refine ⟨_, rfl, a0, a1, fun H1 s1 => ?_⟩
  have m2 : CMul 2 (((GB.hl (Builtin.bitAnd v n)).length : Nat) : Int) := .inl ⟨by decide, by decide⟩
  clean_wf
  refine ⟨n, rfl, n0, n1, fun H2 s2 => ?_⟩
  clean_wf
  exact kk H2 (s1.trans s2)
theorem or_bit {n h : Int} (n0 : 0 ≤ n) (h0 : 0 ≤ h) (i : Nat) : (Builtin.bitOr n (2 ^ h.toNat)).toNat.testBit i = (n.toNat.testBit i || decide (h.toNat = i)) := by
  rw [or_nat n0 (two_pow_nn _), Int.toNat_natCast, Nat.testBit_or, show ((2 : Int) ^ h.toNat).toNat = 2 ^ h.toNat by rw [show (2 : Int) ^ h.toNat = ((2 ^ h.toNat : Nat) : Int) from (Int.natCast_pow 2 h.toNat).symm, Int.toNat_natCast], Nat.testBit_two_pow]

def IsSet (n : Int) (ns : List Int) : Prop := 0 ≤ n ∧ n < 9223372036854775808 ∧ ∀ i : Nat, n.toNat.testBit i = true ↔ (i : Int) ∈ ns
def sp_set_of (K : PySem.W.Frag) : Sp := fun vs H Q _ => ∃ (a : Addr), vs = [.ref a] ∧ ∃ ns : List Int, SqL K H a (ns.map V.int) ∧ (∀ x ∈ ns, 0 ≤ x ∧ x < 63) ∧ ∀ n : Int, IsSet n ns → Q (.int n) H
theorem sc_set_of : FnScope ["some", "hands", "hand"] ["some"] (defScope s_set_of) := ⟨rfl, rfl, rfl, by decide +kernel, rfl, by decide +kernel, by decide +kernel⟩
theorem ok_set_of {f f_bit_of : Addr} {fd fd_bit_of : FuncData} (F : Fun K "set_of" "set_of" s_set_of f fd)
    (G_bit_of : FnOk P w K mg base CX0 1 f_bit_of fd_bit_of ["hand"] (sp_bit_of K)) (C_bit_of : Cal K mg "bit_of" f_bit_of fd_bit_of ["hand"]) : FnOk P w K mg base CX0 2 f fd ["some"] (sp_set_of K) := by
  refine F.ok sc_set_of (fun vs H Q E h => ?_) (fun cdv A outer s H vs Q E hr h => ?_)
  · obtain ⟨a, rfl, _⟩ := h
    rfl
  obtain ⟨a, rfl, h⟩ := h
  have hu64 := hr.units
  have hu0 := hr.units0
  have hu := hu_of hr
  refine ⟨_, (pss_cons (ps_set (i := 1) sc_set_of.nd rfl (Or.inl rfl) pe_int)
      (pss_cons (ps_for PassesOwn.never rfl (pi_listK (K := K) rfl (pv 0)) (pg_name (i := 2) sc_set_of.nd rfl (Or.inl rfl))
      (pss_one (ps_set (i := 1) sc_set_of.nd rfl (Or.inl rfl) (pe_op op_or (pv 1) (pcall G_bit_of C_bit_of hr (pa_cons (pv 2) pa_nil))))))
      (pss_one (ps_ret (pv 1))))), ?_⟩
  obtain ⟨ns, ha, rg, kk⟩ := h
  clean_wf
  refine for_list (xs := ns.map V.int) (fun i σ A => H = A ∧ ∃ (n : Int) (v : Option V), σ = [some (.ref a), some (.int n), v] ∧ IsSet n (ns.take i)) ⟨rfl, 0, none, rfl, by decide, by decide, fun i => by rw [show Int.toNat 0 = 0 from rfl, Nat.zero_testBit]; simp⟩ (fun i σ A _ z => by rw [← z.1]; exact ha) ?_ ?_
  · rintro i x σ _ hi ⟨rfl, n, v, rfl, n0, n1, nb⟩
    obtain ⟨h, hh, rfl⟩ := int_get hi
    obtain ⟨r0, r1⟩ := rg h (List.mem_of_getElem? hh)
    clean_wf
    refine ⟨h, rfl, r0, by omega, ?_⟩
    clean_wf
    obtain ⟨b0, b1⟩ := bit_lt r0 r1
    obtain ⟨o0, o1⟩ := or_lt n0 n1 b0 b1
    refine ⟨rfl, _, _, rfl, o0, o1, fun j => ?_⟩
    rw [or_bit n0 r0, take_get hh, List.mem_append, Bool.or_eq_true, nb j, decide_eq_true_iff, List.mem_singleton]
    constructor
    · rintro (z | z)
      · exact .inl z
      · exact .inr (by omega)
    · rintro (z | z)
      · exact .inl z
      · exact .inr (by omega)
  rintro σ _ ⟨rfl, n, v, rfl, nb⟩
  rw [List.length_map, List.take_length] at nb
  clean_wf
  exact kk n nb
end
end K64


namespace K64
open PySem L2
abbrev s_Change___init__ : Stmt := inClass (top 12) 0
abbrev s_Change_begin : Stmt := inClass (top 12) 1
abbrev s_Change_message : Stmt := inClass (top 12) 2
abbrev s_Change_see_ballot : Stmt := inClass (top 12) 4
section
variable {P : Program} {w : World} {K : PySem.W.Frag} {mg : Str → Option Value} {base : Heap}

def Sub (v n : Int) : Prop := 0 ≤ v ∧ Builtin.bitAnd v n = v
theorem Sub.or {a b n : Int} (n0 : 0 ≤ n) (x : Sub a n) (y : Sub b n) : Sub (Builtin.bitOr a b) n := by
  obtain ⟨x0, x1⟩ := x
  obtain ⟨y0, y1⟩ := y
  rw [and_nat x0 n0] at x1
  rw [and_nat y0 n0] at y1
  have e1 : a.toNat &&& n.toNat = a.toNat := by omega
  have e2 : b.toNat &&& n.toNat = b.toNat := by omega
  have o := or_nat x0 y0
  have o0 : 0 ≤ Builtin.bitOr a b := by rw [o]; omega
  refine ⟨o0, ?_⟩
  rw [and_nat o0 n0, o, Int.toNat_natCast, Nat.and_or_distrib_right, e1, e2]
theorem Sub.lt {v n : Int} (n0 : 0 ≤ n) (n1 : n < 9223372036854775808) (x : Sub v n) : v < 9223372036854775808 := by
  have := and_lt x.1 n0 n1
  rw [x.2] at this
  exact this.2
theorem sub_zero {n : Int} (n0 : 0 ≤ n) : Sub 0 n := by
  refine ⟨Int.le_refl _, ?_⟩
  rw [and_nat (Int.le_refl 0) n0, show Int.toNat 0 = 0 from rfl, Nat.zero_and]
  rfl
theorem hl_zero : GB.hl 0 = [] := by
  unfold GB.hl GB.hnds
  have : ((List.range 63).filter fun h => (Int.toNat 0).testBit h) = [] := List.filter_eq_nil_iff.mpr fun h _ => by
    rw [show Int.toNat 0 = 0 from rfl, Nat.zero_testBit]
    decide
  rw [this]
  rfl
theorem half_zero {n : Int} (n0 : 0 ≤ n) : half 0 n = false := by
  unfold half
  rw [(sub_zero n0).2, hl_zero]
  exact decide_eq_false (by simp)
mutual

theorem pl_lvl {H H' : Hp} : ∀ {n m : Nat} {x z : V} {d : PyData}, Pl H n x d → Pl H' m z d → Pl H' n z d
  | _, _, _, _, _, .non, h => by cases h; exact .non
  | _, _, _, _, _, .int i, h => by cases h; exact .int i
  | _, _, _, _, _, .str i l, h => by cases h; exact .str i l
  | _, _, _, _, _, .tup _ _ hs, .tup e l h2 => .tup e l (pls_lvl hs h2)
theorem pls_lvl {H H' : Hp} : ∀ {n m : Nat} {xs zs : List V} {ds : List PyData}, Pls H n xs ds → Pls H' m zs ds → Pls H' n zs ds
  | _, _, _, _, _, .nil, .nil => .nil
  | _, _, _, _, _, .cons h t, .cons h2 t2 => .cons (pl_lvl h h2) (pls_lvl t t2)
end
abbrev Yes := Option ((Int × Int) × PyData)

def RpX (H : Hp) : List (Int × V) → List (Int × PyData × Yes) → Prop := Paired fun e r => e.1 = r.1 ∧ (0 ≤ e.1 ∧ e.1 < 63) ∧ ∃ t rv yv, e.2 = .ref t ∧ H t = some (.tup [rv, yv]) ∧ Pl H 1 rv r.2.1 ∧ YeV H yv r.2.2
theorem RpX.up {H H' : Hp} (s : SmH H H') : ∀ {m : List (Int × V)} {rp : List (Int × PyData × Yes)}, RpX H m rp → RpX H' m rp
  | _, _, .nil => .nil
  | _, _, .cons ⟨e1, r, t, rv, yv, e2, e3, e4, e5⟩ q => .cons ⟨e1, r, t, rv, yv, e2, s _ _ e3, e4.up s, e5.up s⟩ (RpX.up s q)
theorem RpX.keys {H : Hp} : ∀ {m : List (Int × V)} {rp : List (Int × PyData × Yes)}, RpX H m rp → m.map (·.1) = rp.map (·.1)
  | _, _, .nil => rfl
  | _, _, .cons ⟨e1, _⟩ q => by rw [List.map_cons, List.map_cons, e1, RpX.keys q]
theorem RpX.rg {H : Hp} : ∀ {m : List (Int × V)} {rp : List (Int × PyData × Yes)}, RpX H m rp → ∀ e ∈ m, 0 ≤ e.1 ∧ e.1 < 63
  | _, _, .nil => (fun _ z => nomatch z)
  | _, _, .cons ⟨_, r, _⟩ q => fun e he => by
    rcases List.mem_cons.mp he with z | z
    · rw [z]; exact r
    · exact RpX.rg q e z
def putA {α : Type} : List (Int × α) → Int → α → List (Int × α)
  | [], k, v => [(k, v)]
  | p :: m, k, v => if p.1 = k then (p.1, v) :: m else p :: putA m k v
theorem RpX.put {H : Hp} {k : Int} {t : Addr} {rv yv : V} {dr : PyData} {y : Yes} (r : 0 ≤ k ∧ k < 63) (e1 : H t = some (.tup [rv, yv])) (e2 : Pl H 1 rv dr) (e3 : YeV H yv y) : ∀ {m : List (Int × V)} {rp : List (Int × PyData × Yes)}, RpX H m rp → RpX H (putG m k (.ref t)) (putA rp k (dr, y))
  | _, _, .nil => .cons ⟨rfl, r, t, rv, yv, rfl, e1, e2, e3⟩ .nil
  | e :: m, q :: rp, .cons h u => by
    have ek : e.1 = q.1 := h.1
    show RpX H (if e.1 = k then (e.1, .ref t) :: m else e :: putG m k (.ref t)) (if q.1 = k then (q.1, (dr, y)) :: rp else q :: putA rp k (dr, y))
    by_cases z : e.1 = k
    · rw [if_pos z, if_pos (ek ▸ z)]
      exact .cons ⟨ek, h.2.1, t, rv, yv, rfl, e1, e2, e3⟩ u
    · rw [if_neg z, if_neg (fun w => z (ek.trans w))]
      exact .cons h (RpX.put r e1 e2 e3 u)

structure ChX (K : PySem.W.Frag) (mg : Str → Option Value) (H : Hp) (p : Addr) (me hd : Int) (b : Option (Int × Int)) (y : Yes) (vo : Int) (ag : PyData) (d : Addr) (rp : List (Int × PyData × Yes)) : Prop where
  ob : ∃ C dx ba ye av, mg "Change" = some (.ref C) ∧ H p = some (.ins C dx (chf (.int me) (.int hd) ba ye (.int vo) (.ref d) av)) ∧ BaV H ba b ∧ YeV H ye y ∧ Pl H 1 av ag
  dc : ∃ m, H d = some (.dK (dG m)) ∧ RpX H m rp ∧ (m.map (·.1)).Nodup
  m0 : 0 ≤ me
  m1 : me < 63
  h0 : 0 ≤ hd
  h1 : hd < 9223372036854775808
  sm : Sub (2 ^ me.toNat) hd
  sv : Sub vo hd
  vy : y = none → vo = 0
section
variable {H H' : Hp} {p d : Addr} {me hd vo : Int} {b : Option (Int × Int)} {y : Yes} {ag : PyData} {rp : List (Int × PyData × Yes)}
theorem ChX.up (h : ChX K mg H p me hd b y vo ag d rp) (s1 : ∀ o, H p = some o → H' p = some o) (s2 : ∀ o, H d = some o → H' d = some o) (s3 : SmH H H') : ChX K mg H' p me hd b y vo ag d rp := by
  obtain ⟨C, dx, ba, ye, av, e1, e2, e3, e4, e5⟩ := h.ob
  obtain ⟨m, f1, f2, f3⟩ := h.dc
  exact ⟨⟨C, dx, ba, ye, av, e1, s1 _ e2, e3.up s3, e4.up s3, e5.up s3⟩, ⟨m, s2 _ f1, f2.up s3, f3⟩, h.m0, h.m1, h.h0, h.h1, h.sm, h.sv, h.vy⟩
theorem ChX.same (h : ChX K mg H p me hd b y vo ag d rp) (s : Same H H') : ChX K mg H' p me hd b y vo ag d rp := h.up (fun _ e => s _ _ e) (fun _ e => s _ _ e) (.same s)
end
theorem few_keys {m : List (Int × V)} (nd : (m.map (·.1)).Nodup) (rg : ∀ e ∈ m, 0 ≤ e.1 ∧ e.1 < 63) : m.length < 64 := by
  refine Nat.lt_of_not_le fun h => ?_
  have pm := GX.perm_of_nd (l := m.map (·.1)) (m := (List.range 63).map fun (i : Nat) => (i : Int)) nd (fun x hx => ?_) (by rw [List.length_map, List.length_map, List.length_range]; omega)
  · have := pm.length_eq
    rw [List.length_map, List.length_map, List.length_range] at this
    omega
  · obtain ⟨e, he, rfl⟩ := List.mem_map.mp hx
    obtain ⟨r0, r1⟩ := rg e he
    exact List.mem_map.mpr ⟨e.1.toNat, List.mem_range.mpr (by omega), by omega⟩
def sp_Change___init__ (K : PySem.W.Frag) : Sp := fun vs H Q _ => ∃ (p : Addr) (me hd : Int), vs = [.ref p, .int me, .int hd] ∧ ∃ C dx, TChange K C ∧ H p = some (.ins C dx []) ∧ ∀ H' d, (∀ b o, H b = some o → b ≠ p → H' b = some o) → H d = none → H' d = some (.dK []) → H' p = some (.ins C dx (chf (.int me) (.int hd) .non .non (.int 0) (.ref d) .non)) → Q .non H'
theorem sc_Change___init__ : FnScope ["self", "me", "hands"] ["self", "me", "hands"] (defScope s_Change___init__) := ⟨rfl, rfl, rfl, by decide +kernel, rfl, by decide +kernel, by decide +kernel⟩
set_option maxHeartbeats 1000000 in
theorem ok_Change___init__ {f  : Addr} {fd  : FuncData} (F : Fun K "__init__" "Change.__init__" s_Change___init__ f fd) : FnOk P w K mg base CX0 1 f fd ["self", "me", "hands"] (sp_Change___init__ K) := by
  refine F.ok sc_Change___init__ (fun vs H Q E h => ?_) (fun cdv A outer s H vs Q E hr h => ?_)
  · obtain ⟨p, me, hd, rfl, _⟩ := h
    rfl
  obtain ⟨p, me, hd, rfl, h⟩ := h
  have hu64 := hr.units
  have hu0 := hr.units0
  have hu := hu_of hr
  refine ⟨_, (pss_cons (ps_fldK (K := K) rfl (pv 0) (pv 1) rfl)
      (pss_cons (ps_fldK (K := K) rfl (pv 0) (pv 2) rfl)
      (pss_cons (ps_fldK (K := K) rfl (pv 0) pe_non rfl)
      (pss_cons (ps_fldK (K := K) rfl (pv 0) pe_non rfl)
      (pss_cons (ps_fldK (K := K) rfl (pv 0) pe_int rfl)
      (pss_cons (ps_fldK (K := K) rfl (pv 0) pe_dnewK rfl)
      (pss_one (ps_fldK (K := K) rfl (pv 0) pe_non rfl)))))))), ?_⟩
  obtain ⟨C, dx, ⟨cl, n1, n2, n3, n4, n5, n6, n7⟩, hp, q⟩ := h
  clean_wf
  intro H1 b1 g1
  clean_wf
  intro H2 b2 g2
  clean_wf
  intro H3 b3 g3
  clean_wf
  intro H4 b4 g4
  clean_wf
  intro H5 b5 g5
  clean_wf
  intro d H6 hd6 s6 g6
  have g5' := s6 _ _ g5
  clean_wf
  intro H7 b7 g7
  clean_wf
  intro H8 b8 g8
  rw [chf_put] at g8
  have nd : d ≠ p := fun z => by rw [z, g5] at hd6; cases hd6
  refine q H8 d (fun b o e n => b8.at n (b7.at n (s6 _ _ (b5.at n (b4.at n (b3.at n (b2.at n (b1.at n e)))))))) ?_ (b8.at nd (b7.at nd g6)) g8
  cases z : H d with
  | none => rfl
  | some o => rw [b5.at nd (b4.at nd (b3.at nd (b2.at nd (b1.at nd z))))] at hd6; cases hd6

def KpP (p : Addr) (H H' : Hp) : Prop := ∀ b o, b ≠ p → H b = some o → H' b = some o
def bl : Option (Int × Int) → Int
  | none => 0
  | some q => q.1
def sp_Change_begin (K : PySem.W.Frag) (mg : Str → Option Value) : Sp := fun vs H Q _ => ∃ (p : Addr) (m : Int) (c : V), vs = [.ref p, .int m, c] ∧ ∃ me hd b y vo ag d rp dr, ChX K mg H p me hd b y vo ag d rp ∧ Pl H 1 c dr ∧ ∀ H' d', KpP p H H' → ChX K mg H' p me hd (some (bl b + m, me)) y vo ag d' [(me, dr, y)] → H d' = none → Q .non H'
theorem sc_Change_begin : FnScope ["self", "more", "report", "last"] ["self", "more", "report"] (defScope s_Change_begin) := ⟨rfl, rfl, rfl, by decide +kernel, rfl, by decide +kernel, by decide +kernel⟩
set_option maxHeartbeats 1000000 in
theorem ok_Change_begin {f f_own_copy C_Change : Addr} {fd fd_own_copy : FuncData} (F : Fun K "begin" "Change.begin" s_Change_begin f fd)
    (G_own_copy : FnOk P w K mg base CX0 4 f_own_copy fd_own_copy ["value"] (sp_own_copy K)) (C_own_copy : Cal K mg "own_copy" f_own_copy fd_own_copy ["value"]) (T_Change : TChange K C_Change) (m_Change : mg "Change" = some (.ref C_Change)) : FnOk P w K mg base CX0 5 f fd ["self", "more", "report"] (sp_Change_begin K mg) := by
  refine F.ok sc_Change_begin (fun vs H Q E h => ?_) (fun cdv A outer s H vs Q E hr h => ?_)
  · obtain ⟨p, m, c, rfl, _⟩ := h
    rfl
  obtain ⟨p, m, c, rfl, h⟩ := h
  have hu64 := hr.units
  have hu0 := hr.units0
  have hu := hu_of hr
  refine ⟨_, (pss_cons (ps_set (i := 3) sc_Change_begin.nd rfl (Or.inl rfl) (pe_ifExp (pt_cmpR op_isN (pe_fldK (K := K) rfl (pv 0) rfl) pe_non (nomark _)) pe_int (pe_ix (ix_tupK (K := K) rfl) (pe_fldK (K := K) rfl (pv 0) rfl) pe_int (fun _ _ => rfl))))
      (pss_cons (ps_fldK (K := K) rfl (pv 0) (pe_tup (pa_cons (pe_op op_add (pv 3) (pv 1)) (pa_cons (pe_fldK (K := K) rfl (pv 0) rfl) pa_nil))) rfl)
      (pss_one (ps_fldK (K := K) rfl (pv 0) (pe_disp (pps_cons (pe_fldK (K := K) rfl (pv 0) rfl) (pe_tup (pa_cons (pcall G_own_copy C_own_copy hr (pa_cons (pv 2) pa_nil)) (pa_cons (pe_fldK (K := K) rfl (pv 0) rfl) pa_nil))) pps_nil) rfl rfl (fun z => nomatch z) (Nat.le_of_ble_eq_true rfl)) rfl)))), ?_⟩
  obtain ⟨me, hd, b, y, vo, ag, d, rp, dr, S, hc, kk⟩ := h
  obtain ⟨⟨C, dx, ba, ye, av, eC, hp, hb, hy, ha⟩, _, m0, m1, z0, z1, sm, sv, vy⟩ := id S
  rw [m_Change] at eC
  cases eC
  obtain ⟨cl, n1, n2, n3, n4, n5, n6, n7⟩ := id T_Change
  refine x_cut (fun σ' H' => H = H' ∧ σ' = [some (.ref p), some (.int m), some c, some (.int (bl b))]) ?_ fun N rest => ?_
  rotate_left
  · cases b with
    | none =>
      obtain rfl : ba = .non := hb
      clean_wf
      exact rest _ _ ⟨rfl, rfl⟩
    | some q =>
      obtain ⟨t, rfl, ht⟩ := hb
      have st := SqT.of (K := K) ht
      clean_wf
      rw [ref_non]
      clean_wf
      exact rest _ _ ⟨rfl, rfl⟩
  rintro σ' _ ⟨rfl, rfl⟩
  clean_wf
  intro t H1 ht s1 g1
  have hp1 := s1 _ _ hp
  clean_wf
  intro H2 b2 g2
  rw [chf_pba] at g2
  clean_wf
  refine x_disp1 fun r hr' => ?_
  have s3 := same_upd (o := .dK []) hr'
  have g3 : (upd H2 r (.dK [])) r = some (.dK []) := upd_same
  generalize upd H2 r (.dK []) = H3 at s3 g3 ⊢
  have gp3 := s3 _ _ g2
  clean_wf
  have hc3 : Pl H3 1 c dr := hc.up fun a xs e => s3 _ _ (b2.at (ne_of e hp (by intro z; cases z)) (s1 _ _ e))
  refine ⟨c, rfl, dr, hc3.mono.mono, fun H4 x' s4 p4 => ?_⟩
  have p4 := pl_lvl hc p4
  have gp4 := s4 _ _ gp3
  clean_wf
  intro u H5 hu5 s5 g5
  have gp5 := s5 _ _ gp4
  have gr5 := s5 _ _ (s4 _ _ g3)
  refine ⟨gr5, [(Sum.inl me, .ref u)], rfl, by show 1 ≤ 15; decide, ?_⟩
  have b6 : But r H5 (upd H5 r (.dK (mergeK [] [(Sum.inl me, V.ref u)]))) := .upd
  have g6 : (upd H5 r (.dK (mergeK [] [(Sum.inl me, V.ref u)]))) r = some (.dK [(Sum.inl me, V.ref u)]) := upd_same
  generalize upd H5 r (.dK (mergeK [] [(Sum.inl me, V.ref u)])) = H6 at b6 g6 ⊢
  have nrp : r ≠ p := fun z => by rw [z, g2] at hr'; cases hr'
  have gp6 := b6.at nrp.symm gp5
  clean_wf
  intro H7 b7 g7
  rw [chf_pre] at g7
  have nrH : ∀ b' o, H b' = some o → b' ≠ p → b' ≠ r := fun b' o e n z => by
    rw [z] at e n
    rw [b2.at n (s1 _ _ e)] at hr'
    cases hr'
  have gt7 : H7 t = some (.tup [.int (bl b + m), .int me]) := by
    have ntp : t ≠ p := ne_of g1 hp1 (by intro z; cases z)
    have ntr : t ≠ r := fun z => by rw [← z, b2.at ntp g1] at hr'; cases hr'
    exact b7.at ntp (b6.at ntr (s5 _ _ (s4 _ _ (s3 _ _ (b2.at ntp g1)))))
  have nup : u ≠ p := ne_of g5 gp5 (by intro z; cases z)
  have nur : u ≠ r := ne_of g5 gr5 (by intro z; cases z)
  have gu7 := b7.at nup (b6.at nur g5)
  have kp : KpP p H H7 := fun b' o n e => b7.at n (b6.at (nrH b' o e n) (s5 _ _ (s4 _ _ (s3 _ _ (b2.at n (s1 _ _ e))))))
  have ks : SmH H H7 := fun a xs e => kp _ _ (ne_of e hp (by intro z; cases z)) e
  have ks4 : SmH H4 H7 := fun a xs e => b7.at (ne_of e gp4 (by intro z; cases z)) (b6.at (ne_of e (s4 _ _ g3) (by intro z; cases z)) (s5 _ _ e))
  refine kk H7 r kp ⟨⟨_, dx, .ref t, ye, av, m_Change, g7, ⟨t, rfl, gt7⟩, hy.up ks, ha.up ks⟩, ⟨[(me, .ref u)], b7.at nrp g6, .cons ⟨rfl, ⟨m0, m1⟩, u, _, ye, rfl, gu7, p4.up ks4, hy.up ks⟩ .nil, by simp⟩, m0, m1, z0, z1, sm, sv, vy⟩ ?_
  cases z : H r with
  | none => rfl
  | some o => exact absurd rfl (nrH r o z nrp)
def msD (me : Int) (b : Option (Int × Int)) (y : Yes) (vo : Int) (dr : PyData) : PyData := .tuple [.int me, baD b, yeD y, .int vo, dr]

def MsgX (H : Hp) (a : Addr) (me : Int) (b : Option (Int × Int)) (y : Yes) (vo : Int) (dr : PyData) : Prop := ∃ ba ye rv, H a = some (.tup [.int me, ba, ye, .int vo, rv]) ∧ BaV H ba b ∧ YeV H ye y ∧ Pl H 1 rv dr
theorem MsgX.up {H H' : Hp} (s : SmH H H') {a : Addr} {me vo : Int} {dr : PyData} {b : Option (Int × Int)} {y : Yes} (h : MsgX H a me b y vo dr) : MsgX H' a me b y vo dr := by
  obtain ⟨ba, ye, rv, e1, e2, e3, e4⟩ := h
  exact ⟨ba, ye, rv, s _ _ e1, e2.up s, e3.up s, e4.up s⟩
theorem msg_pl {H : Hp} {a : Addr} {me vo : Int} {dr : PyData} {b : Option (Int × Int)} {y : Yes} (h : MsgX H a me b y vo dr) : Pl H 3 (.ref a) (msD me b y vo dr) := by
  obtain ⟨ba, ye, rv, e1, e2, e3, e4⟩ := h
  exact .tup e1 (by show 5 ≤ 10; decide) (.cons (.int _) (.cons (ba_pl e2) (.cons (ye_pl e3) (.cons (.int _) (.cons e4.mono .nil)))))
theorem pl_msg {H H0 : Hp} {x x0 : V} {me vo : Int} {dr : PyData} {b : Option (Int × Int)} {y : Yes} (l1 : Pl H0 1 x0 dr) (h : Pl H 3 x (msD me b y vo dr)) : ∃ a, x = .ref a ∧ MsgX H a me b y vo dr := by
  unfold msD at h
  cases h with
  | tup e l hs =>
    cases hs with
    | cons h1 t1 =>
      cases t1 with
      | cons h2 t2 =>
        cases t2 with
        | cons h3 t3 =>
          cases t3 with
          | cons h4 t4 =>
            cases t4 with
            | cons h5 t5 =>
              cases t5
              cases h1
              cases h4
              exact ⟨_, rfl, _, _, _, e, pl_ba h2, pl_ye h3, pl_lvl l1 h5⟩
def sp_Change_message (K : PySem.W.Frag) (mg : Str → Option Value) : Sp := fun vs H Q _ => ∃ (p : Addr) (c : V), vs = [.ref p, c] ∧ ∃ me hd b y vo ag d rp dr, ChX K mg H p me hd b y vo ag d rp ∧ Pl H 1 c dr ∧ ∀ H' a, Same H H' → MsgX H' a me b y vo dr → Q (.ref a) H'
theorem sc_Change_message : FnScope ["self", "report"] ["self", "report"] (defScope s_Change_message) := ⟨rfl, rfl, rfl, by decide +kernel, rfl, by decide +kernel, by decide +kernel⟩
set_option maxHeartbeats 1000000 in
theorem ok_Change_message {f f_own_copy C_Change : Addr} {fd fd_own_copy : FuncData} (F : Fun K "message" "Change.message" s_Change_message f fd)
    (G_own_copy : FnOk P w K mg base CX0 4 f_own_copy fd_own_copy ["value"] (sp_own_copy K)) (C_own_copy : Cal K mg "own_copy" f_own_copy fd_own_copy ["value"]) (T_Change : TChange K C_Change) (m_Change : mg "Change" = some (.ref C_Change)) : FnOk P w K mg base CX0 5 f fd ["self", "report"] (sp_Change_message K mg) := by
  refine F.ok sc_Change_message (fun vs H Q E h => ?_) (fun cdv A outer s H vs Q E hr h => ?_)
  · obtain ⟨p, c, rfl, _⟩ := h
    rfl
  obtain ⟨p, c, rfl, h⟩ := h
  have hu64 := hr.units
  have hu0 := hr.units0
  have hu := hu_of hr
  refine ⟨_, (pss_one (ps_ret (pcall G_own_copy C_own_copy hr (pa_cons (pe_tup (pa_cons (pe_fldK (K := K) rfl (pv 0) rfl) (pa_cons (pe_fldK (K := K) rfl (pv 0) rfl) (pa_cons (pe_fldK (K := K) rfl (pv 0) rfl) (pa_cons (pe_fldK (K := K) rfl (pv 0) rfl) (pa_cons (pv 1) pa_nil)))))) pa_nil)))), ?_⟩
  obtain ⟨me, hd, b, y, vo, ag, d, rp, dr, S, hc, kk⟩ := h
  obtain ⟨⟨C, dx, ba, ye, av, eC, hp, hb, hy, ha⟩, _⟩ := id S
  rw [m_Change] at eC
  cases eC
  obtain ⟨cl, n1, n2, n3, n4, n5, n6, n7⟩ := id T_Change
  clean_wf
  intro t H1 ht s1 g1
  clean_wf
  refine ⟨.ref t, rfl, msD me b y vo dr, msg_pl ⟨ba, ye, c, g1, hb.up (.same s1), hy.up (.same s1), hc.up (.same s1)⟩, fun H2 x' s2 p2 => ?_⟩
  obtain ⟨a, rfl, m2⟩ := pl_msg hc p2
  clean_wf
  exact kk H2 a (s1.trans s2) m2
def gtr (b b' : Option (Int × Int)) : Option (Int × Int) := if bgt b' b = true then b' else b

def gtR (b b' : Option (Int × Int)) (rp : List (Int × PyData × Yes)) : List (Int × PyData × Yes) := if bgt b' b = true then [] else rp
def sp_Change_see_ballot (K : PySem.W.Frag) (mg : Str → Option Value) : Sp := fun vs H Q _ => ∃ (p : Addr) (x : V), vs = [.ref p, x] ∧ ∃ me hd b y vo ag d rp b', ChX K mg H p me hd b y vo ag d rp ∧ BaV H x b' ∧ ∀ H' d', KpP p H H' → ChX K mg H' p me hd (gtr b b') y vo ag d' (gtR b b' rp) → (d' = d ∨ H d' = none) → Q .non H'
theorem sc_Change_see_ballot : FnScope ["self", "ballot"] ["self", "ballot"] (defScope s_Change_see_ballot) := ⟨rfl, rfl, rfl, by decide +kernel, rfl, by decide +kernel, by decide +kernel⟩
set_option maxHeartbeats 1000000 in
theorem ok_Change_see_ballot {f f_is_greater C_Change : Addr} {fd fd_is_greater : FuncData} (F : Fun K "see_ballot" "Change.see_ballot" s_Change_see_ballot f fd)
    (G_is_greater : FnOk P w K mg base CX0 1 f_is_greater fd_is_greater ["one", "other"] (sp_is_greater K)) (C_is_greater : Cal K mg "is_greater" f_is_greater fd_is_greater ["one", "other"]) (T_Change : TChange K C_Change) (m_Change : mg "Change" = some (.ref C_Change)) : FnOk P w K mg base CX0 2 f fd ["self", "ballot"] (sp_Change_see_ballot K mg) := by
  refine F.ok sc_Change_see_ballot (fun vs H Q E h => ?_) (fun cdv A outer s H vs Q E hr h => ?_)
  · obtain ⟨p, x, rfl, _⟩ := h
    rfl
  obtain ⟨p, x, rfl, h⟩ := h
  have hu64 := hr.units
  have hu0 := hr.units0
  have hu := hu_of hr
  refine ⟨_, (pss_one (ps_if (pt_callK K rfl (pcall G_is_greater C_is_greater hr (pa_cons (pv 1) (pa_cons (pe_fldK (K := K) rfl (pv 0) rfl) pa_nil)))) (pss_cons (ps_fldK (K := K) rfl (pv 0) (pv 1) rfl)
      (pss_one (ps_fldK (K := K) rfl (pv 0) pe_dnewK rfl))) pss_nil)), ?_⟩
  obtain ⟨me, hd, b, y, vo, ag, d, rp, b', S, hx, kk⟩ := h
  obtain ⟨⟨C, dx, ba, ye, av, eC, hp, hb, hy, ha⟩, _, m0, m1, z0, z1, sm, sv, vy⟩ := id S
  rw [m_Change] at eC
  cases eC
  obtain ⟨cl, n1, n2, n3, n4, n5, n6, n7⟩ := id T_Change
  clean_wf
  refine ⟨x, ba, rfl, b', b, hx, hb, ?_⟩
  clean_wf
  refine ite2 (fun h1 => ?_) fun h1 => ?_
  · have eg : gtr b b' = b' := if_pos h1
    have er : gtR b b' rp = [] := if_pos h1
    clean_wf
    intro H1 b1 g1
    rw [chf_pba] at g1
    clean_wf
    intro r H2 hr' s2 g2
    have gp2 := s2 _ _ g1
    have nrp : r ≠ p := fun z => by rw [z, g1] at hr'; cases hr'
    clean_wf
    intro H3 b3 g3
    rw [chf_pre] at g3
    have kp : KpP p H H3 := fun b'' o n e => b3.at n (s2 _ _ (b1.at n e))
    have ks : SmH H H3 := fun a xs e => kp _ _ (ne_of e hp (by intro z; cases z)) e
    refine kk H3 r kp (by rw [eg, er]; exact ⟨⟨_, dx, x, ye, av, m_Change, g3, hx.up ks, hy.up ks, ha.up ks⟩, ⟨[], b3.at nrp g2, .nil, .nil⟩, m0, m1, z0, z1, sm, sv, vy⟩) (.inr ?_)
    cases z : H r with
    | none => rfl
    | some o => rw [b1.at nrp z] at hr'; cases hr'
  · have eg : gtr b b' = b := if_neg h1
    have er : gtR b b' rp = rp := if_neg h1
    exact kk H d (fun b'' o n e => e) (by rw [eg, er]; exact S) (.inl rfl)
end
end K64


namespace K64
open PySem L2
abbrev s_Change_see_yes : Stmt := inClass (top 12) 5
abbrev s_Change_gathers : Stmt := inClass (top 12) 6
abbrev s_Change_see_votes : Stmt := inClass (top 12) 10
abbrev s_Change_settled : Stmt := inClass (top 12) 11
section
variable {P : Program} {w : World} {K : PySem.W.Frag} {mg : Str → Option Value} {base : Heap}
theorem ba_dl {K : PySem.W.Frag} {H : Hp} {v : V} {b : Option (Int × Int)} (h : BaV H v b) : Dl K H v (baD b) := .inl (ba_pl (n := 0) h).dp
theorem ba_lay (b : Option (Int × Int)) : (baD b).canLay0 = true := by cases b <;> rfl
theorem ba_dep (b : Option (Int × Int)) : (baD b).depth ≤ 60 := by
  cases b with
  | none => show 0 ≤ 60; decide
  | some q => show 1 ≤ 60; decide
theorem ba_eqv (b c : Option (Int × Int)) : (baD b).eqv (baD c) = decide (b = c) := by
  cases b with
  | none =>
    cases c with
    | none => rfl
    | some r => rfl
  | some q =>
    cases c with
    | none => rfl
    | some r =>
      obtain ⟨q1, q2⟩ := q
      obtain ⟨r1, r2⟩ := r
      have e : (baD (some (q1, q2))).eqv (baD (some (r1, r2))) = (q1 == r1 && (q2 == r2 && true)) := rfl
      rw [e, Bool.and_true, Bool.eq_iff_iff, Bool.and_eq_true, beq_iff_eq, beq_iff_eq, decide_eq_true_iff]
      constructor
      · rintro ⟨rfl, rfl⟩; rfl
      · intro z; cases z; exact ⟨rfl, rfl⟩

def seeY (b : Option (Int × Int)) (y : Yes) (vo : Int) (y' : Yes) (vo' me : Int) : Yes × Int :=
  match y' with
  | none => (y, vo)
  | some q => if b = some q.1 ∧ bgt (some q.1) (yb y) = true then (some q, Builtin.bitOr vo' (2 ^ me.toNat)) else if yb y = some q.1 then (y, Builtin.bitOr vo vo') else (y, vo)
def sp_Change_see_yes (K : PySem.W.Frag) (mg : Str → Option Value) : Sp := fun vs H Q _ => ∃ (p : Addr) (x : V) (vo' : Int), vs = [.ref p, x, .int vo'] ∧ ∃ me hd b y vo ag d rp y', ChX K mg H p me hd b y vo ag d rp ∧ YeV H x y' ∧ Sub vo' hd ∧ ∀ H', KpP p H H' → ChX K mg H' p me hd b (seeY b y vo y' vo' me).1 (seeY b y vo y' vo' me).2 ag d rp → Q .non H'
theorem sc_Change_see_yes : FnScope ["self", "yes", "votes"] ["self", "yes", "votes"] (defScope s_Change_see_yes) := ⟨rfl, rfl, rfl, by decide +kernel, rfl, by decide +kernel, by decide +kernel⟩
set_option maxHeartbeats 2000000 in
theorem ok_Change_see_yes {f f_bit_of f_is_greater f_ballot_of C_Change : Addr} {fd fd_bit_of fd_is_greater fd_ballot_of : FuncData} (F : Fun K "see_yes" "Change.see_yes" s_Change_see_yes f fd)
    (G_bit_of : FnOk P w K mg base CX0 1 f_bit_of fd_bit_of ["hand"] (sp_bit_of K)) (C_bit_of : Cal K mg "bit_of" f_bit_of fd_bit_of ["hand"])
    (G_is_greater : FnOk P w K mg base CX0 1 f_is_greater fd_is_greater ["one", "other"] (sp_is_greater K)) (C_is_greater : Cal K mg "is_greater" f_is_greater fd_is_greater ["one", "other"])
    (G_ballot_of : FnOk P w K mg base CX0 1 f_ballot_of fd_ballot_of ["yes"] (sp_ballot_of K)) (C_ballot_of : Cal K mg "ballot_of" f_ballot_of fd_ballot_of ["yes"]) (T_Change : TChange K C_Change) (m_Change : mg "Change" = some (.ref C_Change)) : FnOk P w K mg base CX0 2 f fd ["self", "yes", "votes"] (sp_Change_see_yes K mg) := by
  refine F.ok sc_Change_see_yes (fun vs H Q E h => ?_) (fun cdv A outer s H vs Q E hr h => ?_)
  · obtain ⟨p, x, vo', rfl, _⟩ := h
    rfl
  obtain ⟨p, x, vo', rfl, h⟩ := h
  have hu64 := hr.units
  have hu0 := hr.units0
  have hu := hu_of hr
  refine ⟨_, (pss_cons (ps_if (pt_cmpR op_isN (pv 1) pe_non (nomark _)) (pss_one ps_retN) pss_nil)
      (pss_one (ps_if (PW.pt (pw_and (pt_cmpR (op_eqK (K := K) rfl hu64) (pe_ix (ix_tupK (K := K) rfl) (pv 1) pe_int (fun _ _ => rfl)) (pe_fldK (K := K) rfl (pv 0) rfl) (nomark _)) (pw_and1 (pt_callK K rfl (pcall G_is_greater C_is_greater hr (pa_cons (pe_ix (ix_tupK (K := K) rfl) (pv 1) pe_int (fun _ _ => rfl)) (pa_cons (pcall G_ballot_of C_ballot_of hr (pa_cons (pe_fldK (K := K) rfl (pv 0) rfl) pa_nil)) pa_nil))))))) (pss_cons (ps_fldK (K := K) rfl (pv 0) (pv 1) rfl)
      (pss_one (ps_fldK (K := K) rfl (pv 0) (pe_op op_or (pv 2) (pcall G_bit_of C_bit_of hr (pa_cons (pe_fldK (K := K) rfl (pv 0) rfl) pa_nil))) rfl))) (pss_one (ps_if (pt_cmpR (op_eqK (K := K) rfl hu64) (pe_ix (ix_tupK (K := K) rfl) (pv 1) pe_int (fun _ _ => rfl)) (pcall G_ballot_of C_ballot_of hr (pa_cons (pe_fldK (K := K) rfl (pv 0) rfl) pa_nil)) (nomark _)) (pss_one (ps_fldK (K := K) rfl (pv 0) (pe_op op_or (pe_fldK (K := K) rfl (pv 0) rfl) (pv 2)) rfl)) pss_nil))))), ?_⟩
  obtain ⟨me, hd, b, y, vo, ag, d, rp, y', S, hx, sb, kk⟩ := h
  obtain ⟨⟨C, dx, ba, ye, av, eC, hp, hb, hy, ha⟩, ⟨mm, hd', hr, nd⟩, m0, m1, z0, z1, sm, sv, vy⟩ := id S
  rw [m_Change] at eC
  cases eC
  obtain ⟨cl, n1, n2, n3, n4, n5, n6, n7⟩ := id T_Change
  cases y' with
  | none =>
    obtain rfl : x = .non := hx
    refine x_seq ?_
    clean_wf
    exact kk H (fun _ _ _ e => e) S
  | some q =>
    obtain ⟨t, u, pv, rfl, g1, g2, g3⟩ := id hx
    have st := SqT.of (K := K) g1
    have a0 : atI [V.ref u, pv] 0 = some (.ref u) := by kernel_rfl
    have bu : BaV H (.ref u) (some q.1) := ⟨u, rfl, g2⟩
    have ndp : d ≠ p := ne_of hd' hp (by intro z; cases z)
    have kS : ∀ {H' : Hp}, KpP p H H' → SmH H H' := fun k a xs e => k _ _ (ne_of e hp (by intro z; cases z)) e
    have mk : ∀ (H' : Hp) (ye' : V) (y1 : Yes) (v1 : Int), KpP p H H' → H' p = some (.ins C_Change dx (chf (.int me) (.int hd) ba ye' (.int v1) (.ref d) av)) → YeV H ye' y1 → Sub v1 hd → (y1 = none → v1 = 0) → ChX K mg H' p me hd b y1 v1 ag d rp := fun H' ye' y1 v1 k e hy' s' v' =>
      ⟨⟨C_Change, dx, ba, ye', av, m_Change, e, hb.up (kS k), hy'.up (kS k), ha.up (kS k)⟩, ⟨mm, k _ _ ndp hd', hr.up (kS k), nd⟩, m0, m1, z0, z1, sm, s', v'⟩
    refine x_seq ?_
    clean_wf
    rw [ref_non]
    clean_wf
    refine ⟨baD (some q.1), baD b, ba_dl bu, ba_dl hb, ba_lay _, ba_lay _, by have := ba_dep (some q.1); omega, ?_⟩
    rw [ba_eqv]
    have other : ¬ (b = some q.1 ∧ bgt (some q.1) (yb y) = true) → seeY b y vo (some q) vo' me = if yb y = some q.1 then (y, Builtin.bitOr vo vo') else (y, vo) := fun z => if_neg z
    clean_wf
    refine ite2 (fun h1 => ?_) fun h1 => ?_
    · have h1 := of_decide_eq_true h1
      clean_wf
      refine ⟨ye, rfl, y, hy, fun bz hz => ?_⟩
      clean_wf
      refine ⟨_, bz, rfl, _, _, bu, hz, ?_⟩
      clean_wf
      refine ite2 (fun h2 => ?_) fun h2 => ?_
      · have es : seeY b y vo (some q) vo' me = (some q, Builtin.bitOr vo' (2 ^ me.toNat)) := if_pos ⟨h1.symm, h2⟩
        rw [es] at kk
        clean_wf
        intro H1 b1 e1
        rw [chf_pye] at e1
        clean_wf
        refine ⟨me, rfl, m0, by omega, ?_⟩
        clean_wf
        intro H2 b2 e2
        rw [chf_pvo] at e2
        exact kk H2 (fun b' o n e => b2.at n (b1.at n e)) (mk H2 _ (some q) _ (fun b' o n e => b2.at n (b1.at n e)) e2 hx (sb.or z0 sm) (fun z => nomatch z))
      · rw [other fun z => h2 z.2] at kk
        clean_wf
        refine ⟨ye, rfl, y, hy, fun bz hz => ?_⟩
        refine ⟨baD (some q.1), baD (yb y), ba_dl bu, ba_dl hz, ba_lay _, ba_lay _, by have := ba_dep (some q.1); omega, ?_⟩
        rw [ba_eqv]
        clean_wf
        refine ite2 (fun h3 => ?_) fun h3 => ?_
        · rw [if_pos (of_decide_eq_true h3).symm] at kk
          clean_wf
          intro H1 b1 e1
          rw [chf_pvo] at e1
          exact kk H1 (fun b' o n e => b1.at n e) (mk H1 _ y _ (fun b' o n e => b1.at n e) e1 hy (sv.or z0 sb) (fun z => by rw [z] at h3; exact absurd (of_decide_eq_true h3) (by intro w; cases w)))
        · rw [if_neg (fun z => h3 (decide_eq_true z.symm))] at kk
          exact kk H (fun _ _ _ e => e) S
    · rw [other fun z => h1 (decide_eq_true z.1.symm)] at kk
      clean_wf
      refine ⟨ye, rfl, y, hy, fun bz hz => ?_⟩
      refine ⟨baD (some q.1), baD (yb y), ba_dl bu, ba_dl hz, ba_lay _, ba_lay _, by have := ba_dep (some q.1); omega, ?_⟩
      rw [ba_eqv]
      clean_wf
      refine ite2 (fun h3 => ?_) fun h3 => ?_
      · rw [if_pos (of_decide_eq_true h3).symm] at kk
        clean_wf
        intro H1 b1 e1
        rw [chf_pvo] at e1
        exact kk H1 (fun b' o n e => b1.at n e) (mk H1 _ y _ (fun b' o n e => b1.at n e) e1 hy (sv.or z0 sb) (fun z => by rw [z] at h3; exact absurd (of_decide_eq_true h3) (by intro w; cases w)))
      · rw [if_neg (fun z => h3 (decide_eq_true z.symm))] at kk
        exact kk H (fun _ _ _ e => e) S

def gat (b : Option (Int × Int)) (y : Yes) (me : Int) : Bool := match b with
  | none => false
  | some q => decide (q.2 = me) && !decide (yb y = some q)
def sp_Change_gathers (K : PySem.W.Frag) (mg : Str → Option Value) : Sp := fun vs H Q _ => ∃ (p : Addr), vs = [.ref p] ∧ ∃ me hd b y vo ag d rp, ChX K mg H p me hd b y vo ag d rp ∧ Q (.bl (gat b y me)) H
theorem sc_Change_gathers : FnScope ["self"] ["self"] (defScope s_Change_gathers) := ⟨rfl, rfl, rfl, by decide +kernel, rfl, by decide +kernel, by decide +kernel⟩
set_option maxHeartbeats 1000000 in
theorem ok_Change_gathers {f f_ballot_of C_Change : Addr} {fd fd_ballot_of : FuncData} (F : Fun K "gathers" "Change.gathers" s_Change_gathers f fd)
    (G_ballot_of : FnOk P w K mg base CX0 1 f_ballot_of fd_ballot_of ["yes"] (sp_ballot_of K)) (C_ballot_of : Cal K mg "ballot_of" f_ballot_of fd_ballot_of ["yes"]) (T_Change : TChange K C_Change) (m_Change : mg "Change" = some (.ref C_Change)) : FnOk P w K mg base CX0 2 f fd ["self"] (sp_Change_gathers K mg) := by
  refine F.ok sc_Change_gathers (fun vs H Q E h => ?_) (fun cdv A outer s H vs Q E hr h => ?_)
  · obtain ⟨p, rfl, _⟩ := h
    rfl
  obtain ⟨p, rfl, h⟩ := h
  have hu64 := hr.units
  have hu0 := hr.units0
  have hu := hu_of hr
  refine ⟨_, (pss_one (ps_ret (pe_and (pe_cmpR op_notN (pe_fldK (K := K) rfl (pv 0) rfl) pe_non (nomark _)) (pe_and (pe_cmpR op_eq (pe_ix (ix_tupK (K := K) rfl) (pe_fldK (K := K) rfl (pv 0) rfl) pe_int (fun _ _ => rfl)) (pe_fldK (K := K) rfl (pv 0) rfl) (nomark _)) (pe_one (pe_cmpR (op_neK (K := K) rfl hu64) (pcall G_ballot_of C_ballot_of hr (pa_cons (pe_fldK (K := K) rfl (pv 0) rfl) pa_nil)) (pe_fldK (K := K) rfl (pv 0) rfl) (nomark _))))))), ?_⟩
  obtain ⟨me, hd, b, y, vo, ag, d, rp, S, kk⟩ := h
  obtain ⟨⟨C, dx, ba, ye, av, eC, hp, hb, hy, ha⟩, _⟩ := id S
  rw [m_Change] at eC
  cases eC
  obtain ⟨cl, n1, n2, n3, n4, n5, n6, n7⟩ := id T_Change
  cases b with
  | none =>
    obtain rfl : ba = .non := hb
    clean_wf
    exact kk
  | some q =>
    obtain ⟨t, rfl, ht⟩ := id hb
    have st := SqT.of (K := K) ht
    have a1 : atI [V.int q.1, V.int q.2] 1 = some (.int q.2) := by kernel_rfl
    have eg : gat (some q) y me = (decide (q.2 = me) && !decide (yb y = some q)) := rfl
    rw [eg] at kk
    clean_wf
    rw [ref_non]
    clean_wf
    refine ite2 (fun h1 => ?_) fun h1 => ?_
    · rw [decide_eq_true (of_decide_eq_true h1), Bool.true_and] at kk
      clean_wf
      refine ⟨ye, rfl, y, hy, fun bz hz => ?_⟩
      clean_wf
      refine ⟨baD (yb y), baD (some q), ba_dl hz, ba_dl hb, ba_lay _, ba_lay _, by have := ba_dep (yb y); omega, ?_⟩
      rw [ba_eqv]
      exact kk
    · rw [decide_eq_false (fun z => h1 (decide_eq_true z)), Bool.false_and] at kk
      clean_wf
      exact kk

def plD : Yes → PyData
  | none => .none
  | some q => q.2

def seeA (ag : PyData) (y : Yes) (vo hd : Int) : PyData :=
  match ag with
  | .none => if half vo hd = true then plD y else .none
  | a => a
def sp_Change_see_votes (K : PySem.W.Frag) (mg : Str → Option Value) : Sp := fun vs H Q _ => ∃ (p : Addr), vs = [.ref p] ∧ ∃ me hd b y vo ag d rp, ChX K mg H p me hd b y vo ag d rp ∧ ∀ H', KpP p H H' → ChX K mg H' p me hd b y vo (seeA ag y vo hd) d rp → Q .non H'
theorem sc_Change_see_votes : FnScope ["self"] ["self"] (defScope s_Change_see_votes) := ⟨rfl, rfl, rfl, by decide +kernel, rfl, by decide +kernel, by decide +kernel⟩
set_option maxHeartbeats 1000000 in
theorem ok_Change_see_votes {f f_more_than_half C_Change : Addr} {fd fd_more_than_half : FuncData} (F : Fun K "see_votes" "Change.see_votes" s_Change_see_votes f fd)
    (G_more_than_half : FnOk P w K mg base CX0 5 f_more_than_half fd_more_than_half ["some", "hands"] (sp_more_than_half K)) (C_more_than_half : Cal K mg "more_than_half" f_more_than_half fd_more_than_half ["some", "hands"]) (T_Change : TChange K C_Change) (m_Change : mg "Change" = some (.ref C_Change)) : FnOk P w K mg base CX0 6 f fd ["self"] (sp_Change_see_votes K mg) := by
  refine F.ok sc_Change_see_votes (fun vs H Q E h => ?_) (fun cdv A outer s H vs Q E hr h => ?_)
  · obtain ⟨p, rfl, _⟩ := h
    rfl
  obtain ⟨p, rfl, h⟩ := h
  have hu64 := hr.units
  have hu0 := hr.units0
  have hu := hu_of hr
  refine ⟨_, (pss_one (ps_if (PW.pt (pw_and (pt_cmpR op_isN (pe_fldK (K := K) rfl (pv 0) rfl) pe_non (nomark _)) (pw_and1 (pt_callK K rfl (pcall G_more_than_half C_more_than_half hr (pa_cons (pe_fldK (K := K) rfl (pv 0) rfl) (pa_cons (pe_fldK (K := K) rfl (pv 0) rfl) pa_nil))))))) (pss_one (ps_fldK (K := K) rfl (pv 0) (pe_ix (ix_tupK (K := K) rfl) (pe_fldK (K := K) rfl (pv 0) rfl) pe_int (fun _ _ => rfl)) rfl)) pss_nil)), ?_⟩
  obtain ⟨me, hd, b, y, vo, ag, d, rp, S, kk⟩ := h
  obtain ⟨⟨C, dx, ba, ye, av, eC, hp, hb, hy, ha⟩, ⟨mm, hd', hr, nd⟩, m0, m1, z0, z1, sm, sv, vy⟩ := id S
  rw [m_Change] at eC
  cases eC
  obtain ⟨cl, n1, n2, n3, n4, n5, n6, n7⟩ := id T_Change
  have old : ∀ a, ag = a → a ≠ .none → seeA ag y vo hd = ag := fun a e n => by
    rw [e]
    cases a with
    | none => exact absurd rfl n
    | _ => rfl
  cases ha with
  | int i =>
    rw [show seeA (PyData.int i) y vo hd = PyData.int i from rfl] at kk
    clean_wf
    exact kk H (fun _ _ _ e => e) S
  | str i li =>
    rw [show seeA (PyData.str i) y vo hd = PyData.str i from rfl] at kk
    clean_wf
    exact kk H (fun _ _ _ e => e) S
  | @tup _ a xs ds e l hs =>
    rw [show seeA (PyData.tuple ds) y vo hd = PyData.tuple ds from rfl] at kk
    clean_wf
    rw [ref_non]
    clean_wf
    exact kk H (fun _ _ _ e => e) S
  | non =>
    clean_wf
    rw [show decide (V.non = V.non) = true from decide_eq_true rfl]
    clean_wf
    refine ⟨vo, hd, rfl, sv.1, z0, z1, fun H1 s1 => ?_⟩
    have hp1 := s1 _ _ hp
    have S1 := S.same s1
    clean_wf
    refine ite2 (fun h1 => ?_) fun h1 => ?_
    · cases y with
      | none =>
        rw [vy rfl, half_zero z0] at h1
        cases h1
      | some q =>
        obtain ⟨t, u, pv, rfl, g1, g2, g3⟩ := id hy
        have g11 := s1 _ _ g1
        have st := SqT.of (K := K) g11
        have a1 : atI [V.ref u, pv] 1 = some pv := by kernel_rfl
        rw [show seeA .none (some q) vo hd = q.2 from if_pos h1] at kk
        clean_wf
        intro H2 b2 e2
        rw [chf_pag] at e2
        have kp : KpP p H H2 := fun b' o n e => b2.at n (s1 _ _ e)
        have ks : SmH H H2 := fun a xs e => kp _ _ (ne_of e hp (by intro z; cases z)) e
        exact kk H2 kp ⟨⟨_, dx, ba, _, pv, m_Change, e2, hb.up ks, hy.up ks, g3.up ks⟩, ⟨mm, kp _ _ (ne_of hd' hp (by intro z; cases z)) hd', hr.up ks, nd⟩, m0, m1, z0, z1, sm, sv, vy⟩
    · rw [show seeA .none y vo hd = .none from if_neg h1] at kk
      exact kk H1 (fun b' o n e => s1 _ _ e) S1
def sp_Change_settled (K : PySem.W.Frag) (mg : Str → Option Value) : Sp := fun vs H Q _ => ∃ (p : Addr), vs = [.ref p] ∧ ∃ me hd b y vo ag d kvs, ChX K mg H p me hd b y vo ag d kvs ∧ ∀ H' z, Same H H' → Pl H' 1 z ag → Q z H'
theorem sc_Change_settled : FnScope ["self"] ["self"] (defScope s_Change_settled) := ⟨rfl, rfl, rfl, by decide +kernel, rfl, by decide +kernel, by decide +kernel⟩
set_option maxHeartbeats 1000000 in
theorem ok_Change_settled {f f_own_copy C_Change : Addr} {fd fd_own_copy : FuncData} (F : Fun K "settled" "Change.settled" s_Change_settled f fd)
    (G_own_copy : FnOk P w K mg base CX0 4 f_own_copy fd_own_copy ["value"] (sp_own_copy K)) (C_own_copy : Cal K mg "own_copy" f_own_copy fd_own_copy ["value"]) (T_Change : TChange K C_Change) (m_Change : mg "Change" = some (.ref C_Change)) : FnOk P w K mg base CX0 5 f fd ["self"] (sp_Change_settled K mg) := by
  refine F.ok sc_Change_settled (fun vs H Q E h => ?_) (fun cdv A outer s H vs Q E hr h => ?_)
  · obtain ⟨p, rfl, _⟩ := h
    rfl
  obtain ⟨p, rfl, h⟩ := h
  have hu64 := hr.units
  have hu0 := hr.units0
  have hu := hu_of hr
  refine ⟨_, (pss_one (ps_ret (pcall G_own_copy C_own_copy hr (pa_cons (pe_fldK (K := K) rfl (pv 0) rfl) pa_nil)))), ?_⟩
  obtain ⟨me, hd, b, y, vo, ag, d, kvs, S, kk⟩ := h
  obtain ⟨⟨C, dx, ba, ye, av, eC, hp, hb, hy, ha⟩, _⟩ := id S
  rw [m_Change] at eC
  cases eC
  obtain ⟨cl, n1, n2, n3, n4, n5, n6, n7⟩ := id T_Change
  clean_wf
  refine ⟨av, rfl, ag, ha.mono.mono, fun H1 x' s1 p1 => ?_⟩
  clean_wf
  exact kk H1 x' s1 (pl_lvl ha p1)
end
end K64


namespace K64
open PySem L2
abbrev s_Change_receive : Stmt := inClass (top 12) 3
section
variable {P : Program} {w : World} {K : PySem.W.Frag} {mg : Str → Option Value} {base : Heap}

def rcvR (b b' : Option (Int × Int)) (y1 : Yes) (me : Int) (rp : List (Int × PyData × Yes)) (me' : Int) (dr : PyData) (y' : Yes) : List (Int × PyData × Yes) :=
  if b' = gtr b b' ∧ gat (gtr b b') y1 me = true then putA (gtR b b' rp) me' (dr, y') else gtR b b' rp
def sp_Change_receive (K : PySem.W.Frag) (mg : Str → Option Value) : Sp := fun vs H Q _ => ∃ (p a : Addr), vs = [.ref p, .ref a] ∧ ∃ me hd b y vo ag d rp me' b' y' vo' dr, ChX K mg H p me hd b y vo ag d rp ∧ MsgX H a me' b' y' vo' dr ∧ me' ≠ me ∧ 0 ≤ me' ∧ me' < 63 ∧ Sub vo' hd ∧
  ∀ H' d', (∀ x o, x ≠ p → x ≠ d → H x = some o → H' x = some o) → ChX K mg H' p me hd (gtr b b') (seeY (gtr b b') y vo y' vo' me).1 (seeY (gtr b b') y vo y' vo' me).2 (seeA ag (seeY (gtr b b') y vo y' vo' me).1 (seeY (gtr b b') y vo y' vo' me).2 hd) d' (rcvR b b' (seeY (gtr b b') y vo y' vo' me).1 me rp me' dr y') → (d' = d ∨ H d' = none) → Q .non H'
theorem sc_Change_receive : FnScope ["self", "message", "own"] ["self", "message"] (defScope s_Change_receive) := ⟨rfl, rfl, rfl, by decide +kernel, rfl, by decide +kernel, by decide +kernel⟩
set_option maxHeartbeats 4000000 in
theorem ok_Change_receive {f f_own_copy f_Change_see_ballot f_Change_see_yes f_Change_gathers f_Change_see_votes C_Change : Addr} {fd fd_own_copy fd_Change_see_ballot fd_Change_see_yes fd_Change_gathers fd_Change_see_votes : FuncData} (F : Fun K "receive" "Change.receive" s_Change_receive f fd)
    (G_own_copy : FnOk P w K mg base CX0 6 f_own_copy fd_own_copy ["value"] (sp_own_copy K)) (C_own_copy : Cal K mg "own_copy" f_own_copy fd_own_copy ["value"])
    (G_Change_see_ballot : FnOk P w K mg base CX0 6 f_Change_see_ballot fd_Change_see_ballot ["self", "ballot"] (sp_Change_see_ballot K mg)) (B_Change_see_ballot : Binds K fd_Change_see_ballot ["self", "ballot"] [])
    (G_Change_see_yes : FnOk P w K mg base CX0 6 f_Change_see_yes fd_Change_see_yes ["self", "yes", "votes"] (sp_Change_see_yes K mg)) (B_Change_see_yes : Binds K fd_Change_see_yes ["self", "yes", "votes"] [])
    (G_Change_gathers : FnOk P w K mg base CX0 6 f_Change_gathers fd_Change_gathers ["self"] (sp_Change_gathers K mg)) (B_Change_gathers : Binds K fd_Change_gathers ["self"] [])
    (G_Change_see_votes : FnOk P w K mg base CX0 6 f_Change_see_votes fd_Change_see_votes ["self"] (sp_Change_see_votes K mg)) (B_Change_see_votes : Binds K fd_Change_see_votes ["self"] []) (T_Change : TChange K C_Change) (m_Change : mg "Change" = some (.ref C_Change)) (mt_Change_gathers : Meth K C_Change "gathers" f_Change_gathers) (mt_Change_see_ballot : Meth K C_Change "see_ballot" f_Change_see_ballot) (mt_Change_see_votes : Meth K C_Change "see_votes" f_Change_see_votes) (mt_Change_see_yes : Meth K C_Change "see_yes" f_Change_see_yes) : FnOk P w K mg base CX0 7 f fd ["self", "message"] (sp_Change_receive K mg) := by
  refine F.ok sc_Change_receive (fun vs H Q E h => ?_) (fun cdv A outer s H vs Q E hr h => ?_)
  · obtain ⟨p, a, rfl, _⟩ := h
    rfl
  obtain ⟨p, a, rfl, h⟩ := h
  have hu64 := hr.units
  have hu0 := hr.units0
  have hu := hu_of hr
  refine ⟨_, (pss_cons (ps_if (pt_cmpR op_eq (pe_ix (ix_tupK (K := K) rfl) (pv 1) pe_int (fun _ _ => rfl)) (pe_fldK (K := K) rfl (pv 0) rfl) (nomark _)) (pss_one ps_retN) pss_nil)
      (pss_cons (ps_set (i := 2) sc_Change_receive.nd rfl (Or.inl rfl) (pcall G_own_copy C_own_copy hr (pa_cons (pv 1) pa_nil)))
      (pss_cons (ps_expr (pe_methS (MOk.cons T_Change.cl mt_Change_see_ballot G_Change_see_ballot B_Change_see_ballot MOk.nil) (pv 0) hr (pa_cons (pe_ix (ix_tupK (K := K) rfl) (pv 2) pe_int (fun _ _ => rfl)) pa_nil)))
      (pss_cons (ps_expr (pe_methS (MOk.cons T_Change.cl mt_Change_see_yes G_Change_see_yes B_Change_see_yes MOk.nil) (pv 0) hr (pa_cons (pe_ix (ix_tupK (K := K) rfl) (pv 2) pe_int (fun _ _ => rfl)) (pa_cons (pe_ix (ix_tupK (K := K) rfl) (pv 2) pe_int (fun _ _ => rfl)) pa_nil))))
      (pss_cons (ps_if (PW.pt (pw_and (pt_cmpR (op_eqK (K := K) rfl hu64) (pe_ix (ix_tupK (K := K) rfl) (pv 2) pe_int (fun _ _ => rfl)) (pe_fldK (K := K) rfl (pv 0) rfl) (nomark _)) (pw_and1 (pt_callK K rfl (pe_methS0 (MOk.cons T_Change.cl mt_Change_gathers G_Change_gathers B_Change_gathers MOk.nil) (pv 0) hr))))) (pss_one (ps_dput hu (pe_fldK (K := K) rfl (pv 0) rfl) (pe_ix (ix_tupK (K := K) rfl) (pv 2) pe_int (fun _ _ => rfl)) (pe_tup (pa_cons (pe_ix (ix_tupK (K := K) rfl) (pv 2) pe_int (fun _ _ => rfl)) (pa_cons (pe_ix (ix_tupK (K := K) rfl) (pv 2) pe_int (fun _ _ => rfl)) pa_nil))) rfl)) pss_nil)
      (pss_one (ps_expr (pe_methS0 (MOk.cons T_Change.cl mt_Change_see_votes G_Change_see_votes B_Change_see_votes MOk.nil) (pv 0) hr)))))))), ?_⟩
  obtain ⟨me, hd, b, y, vo, ag, d, rp, me', b', y', vo', dr, S, ⟨ba', ye', rv, hm, hb', hy', hrv⟩, ne, e0, e1, sb, kk⟩ := h
  obtain ⟨⟨C, dx, ba, ye, av, eC, hp, hb, hy, ha⟩, ⟨_, hd', _⟩, _⟩ := id S
  rw [m_Change] at eC
  cases eC
  obtain ⟨cl, n1, n2, n3, n4, n5, n6, n7⟩ := id T_Change
  have sm := SqT.of (K := K) hm
  have a0 : atI [V.int me', ba', ye', .int vo', rv] 0 = some (.int me') := by kernel_rfl
  refine x_seq ?_
  clean_wf
  refine ite2 (fun h1 => absurd (of_decide_eq_true h1) ne) fun _ => ?_
  clean_wf
  refine ⟨.ref a, rfl, msD me' b' y' vo' dr, msg_pl ⟨ba', ye', rv, hm, hb', hy', hrv⟩, fun H1 x' s1 p1 => ?_⟩
  obtain ⟨w, rfl, ba1, ye1, rv1, hw, hb1, hy1, hrv1⟩ := pl_msg hrv p1
  have S1 := S.same s1
  have hp1 := s1 _ _ hp
  have sw := SqT.of (K := K) hw
  have a1 : atI [V.int me', ba1, ye1, .int vo', rv1] 1 = some ba1 := by kernel_rfl
  clean_wf
  refine ⟨p, ba1, rfl, me, hd, b, y, vo, ag, d, rp, b', S1, hb1, fun H2 d2 k2 S2 w2 => ?_⟩
  have nwp : w ≠ p := ne_of hw hp1 (by intro z; cases z)
  have kt2 : SmH H1 H2 := fun a xs e => k2 _ _ (ne_of e hp1 (by intro z; cases z)) e
  have hw2 := kt2 _ _ hw
  have sw2 := SqT.of (K := K) hw2
  have hb2 := hb1.up kt2
  have hy2 := hy1.up kt2
  have hrv2 := hrv1.up kt2
  have a2 : atI [V.int me', ba1, ye1, .int vo', rv1] 2 = some ye1 := by kernel_rfl
  have a3 : atI [V.int me', ba1, ye1, .int vo', rv1] 3 = some (.int vo') := by kernel_rfl
  have a4 : atI [V.int me', ba1, ye1, .int vo', rv1] 4 = some rv1 := by kernel_rfl
  have a0' : atI [V.int me', ba1, ye1, .int vo', rv1] 0 = some (.int me') := by kernel_rfl
  obtain ⟨⟨C2, dx2, ba2, ye2, av2, eC2, hp2, _⟩, _, _⟩ := id S2
  rw [m_Change] at eC2
  cases eC2
  have w2' : d2 = d ∨ H d2 = none := by
    rcases w2 with q | q
    · exact .inl q
    · exact .inr (s1.free q)
  have nd2 : ∀ x o, x ≠ d → H x = some o → x ≠ d2 := fun x o n e z => by
    rcases w2' with q | q
    · exact n (z.trans q)
    · rw [z, q] at e
      cases e
  clean_wf
  refine ⟨p, ye1, vo', rfl, me, hd, _, y, vo, ag, d2, gtR b b' rp, y', S2, hy2, sb, fun H3 k3 S3 => ?_⟩
  unfold rcvR at kk
  generalize (seeY (gtr b b') y vo y' vo' me).1 = y1 at S3 kk
  generalize (seeY (gtr b b') y vo y' vo' me).2 = v1 at S3 kk
  generalize gtR b b' rp = rp1 at S3 kk
  have kt3 : SmH H2 H3 := fun a xs e => k3 _ _ (ne_of e hp2 (by intro z; cases z)) e
  have hw3 := kt3 _ _ hw2
  have sw3 := SqT.of (K := K) hw3
  have hb3 := hb2.up kt3
  have hy3 := hy2.up kt3
  have hrv3 := hrv2.up kt3
  obtain ⟨⟨C3, dx3, ba3, ye3, av3, eC3, hp3, hbb3, hyy3, haa3⟩, ⟨m3, hd3, hr3, ndk3⟩, m0, m1, z0, z1, smm, svv, vyy⟩ := id S3
  rw [m_Change] at eC3
  cases eC3
  have keep : ∀ x o, x ≠ p → x ≠ d → H x = some o → H3 x = some o := fun x o n1 _ e => k3 _ _ n1 (k2 _ _ n1 (s1 _ _ e))
  refine x_cut (fun σ' B => σ' = [some (.ref p), some (.ref a), some (.ref w)] ∧ (∀ x o, x ≠ p → x ≠ d → H x = some o → B x = some o) ∧ ChX K mg B p me hd (gtr b b') y1 v1 ag d2 (if b' = gtr b b' ∧ gat (gtr b b') y1 me = true then putA rp1 me' (dr, y') else rp1)) ?_ fun N rest => ?_
  · rintro σ' B ⟨rfl, kB, S4⟩
    obtain ⟨⟨C4, dx4, ba4, ye4, av4, eC4, hp4, _⟩, _⟩ := id S4
    rw [m_Change] at eC4
    cases eC4
    clean_wf
    refine ⟨p, rfl, me, hd, _, y1, v1, ag, d2, _, S4, fun H5 k5 S5 => ?_⟩
    clean_wf
    exact kk H5 d2 (fun x o n1 n2 e => k5 _ _ n1 (kB x o n1 n2 e)) S5 w2'
  · clean_wf
    refine ⟨baD b', baD (gtr b b'), ba_dl hb3, ba_dl hbb3, ba_lay _, ba_lay _, by have := ba_dep b'; omega, ?_⟩
    rw [ba_eqv]
    clean_wf
    refine ite2 (fun h1 => ?_) fun h1 => ?_
    · have h1 := of_decide_eq_true h1
      clean_wf
      refine ⟨p, rfl, me, hd, _, y1, v1, ag, d2, rp1, S3, ?_⟩
      clean_wf
      refine ite2 (fun h2 => ?_) fun h2 => ?_
      · clean_wf
        intro t H4 ht s4 g4
        have hp4 := s4 _ _ hp3
        have hw4 := s4 _ _ hw3
        have sw4 := SqT.of (K := K) hw4
        have hd4 := s4 _ _ hd3
        have lk : m3.length < sizeLine := small1000 (by have := few_keys ndk3 hr3.rg; omega)
        clean_wf
        intro H5 b5 g5
        have kt5 : SmH H3 H5 := fun x xs e => b5.at (ne_of e hd3 (by intro z; cases z)) (s4 _ _ e)
        have ndp : d2 ≠ p := ne_of hd3 hp3 (by intro z; cases z)
        refine rest _ _ ⟨rfl, fun x o n1 n2 e => b5.at (nd2 x o n2 e) (s4 _ _ (keep x o n1 n2 e)), ?_⟩
        rw [if_pos ⟨h1, h2⟩]
        exact ⟨⟨_, dx3, ba3, ye3, av3, m_Change, b5.at ndp.symm hp4, hbb3.up kt5, hyy3.up kt5, haa3.up kt5⟩, ⟨putG m3 me' (.ref t), g5, (hr3.up kt5).put ⟨e0, e1⟩ (b5.at (ne_of g4 hd4 (by intro z; cases z)) g4) (hrv3.up kt5) (hy3.up kt5), putg_nd _ _ _ ndk3⟩, m0, m1, z0, z1, smm, svv, vyy⟩
      · exact rest _ _ ⟨rfl, keep, by rw [if_neg fun z => h2 z.2]; exact S3⟩
    · clean_wf
      exact rest _ _ ⟨rfl, keep, by rw [if_neg fun z => h1 (decide_eq_true z.1)]; exact S3⟩
end
end K64


namespace K64
open PySem L2
abbrev s_Change_has_enough : Stmt := inClass (top 12) 8
section
variable {P : Program} {w : World} {K : PySem.W.Frag} {mg : Str → Option Value} {base : Heap}
theorem sub_bit : ∀ (i n m : Nat), (n - (n &&& m)).testBit i = (n.testBit i && !m.testBit i)
  | 0, n, m => by
    have h1 : (n &&& m) % 2 = (n % 2) * (m % 2) := by
      have := Nat.testBit_and n m 0
      simp only [Nat.testBit_zero] at this
      rcases Nat.mod_two_eq_zero_or_one n with a | a <;> rcases Nat.mod_two_eq_zero_or_one m with b | b <;> rcases Nat.mod_two_eq_zero_or_one (n &&& m) with c | c <;> rw [a, b, c] at this ⊢ <;> simp at this ⊢
    have h2 : n &&& m ≤ n := Nat.and_le_left
    have h3 : (n - (n &&& m)) % 2 = (n % 2) * (1 - m % 2) := by
      rcases Nat.mod_two_eq_zero_or_one n with a | a <;> rcases Nat.mod_two_eq_zero_or_one m with b | b <;> rw [a, b] at h1 ⊢ <;> omega
    simp only [Nat.testBit_zero]
    rw [h3]
    rcases Nat.mod_two_eq_zero_or_one n with a | a <;> rcases Nat.mod_two_eq_zero_or_one m with b | b <;> rw [a, b] <;> decide
  | i + 1, n, m => by
    have h1 : (n &&& m) % 2 ≤ n % 2 := by
      have := Nat.testBit_and n m 0
      simp only [Nat.testBit_zero] at this
      rcases Nat.mod_two_eq_zero_or_one n with a | a <;> rcases Nat.mod_two_eq_zero_or_one (n &&& m) with c | c <;> rw [a, c] at this ⊢ <;> simp at this ⊢
    have h2 : n &&& m ≤ n := Nat.and_le_left
    have h3 : (n &&& m) / 2 = n / 2 &&& m / 2 := Nat.and_div_two
    have h4 : (n - (n &&& m)) / 2 = n / 2 - (n / 2 &&& m / 2) := by omega
    rw [Nat.testBit_succ, Nat.testBit_succ, Nat.testBit_succ, h4, sub_bit i (n / 2) (m / 2)]
theorem nota_nat {n m : Int} (n0 : 0 ≤ n) (m0 : 0 ≤ m) : Builtin.bitAnd n (Builtin.bitNot m) = ((n.toNat - (n.toNat &&& m.toNat) : Nat) : Int) := by
  unfold Builtin.bitAnd
  rw [decide_eq_true n0, decide_eq_false (show ¬ (0 : Int) ≤ Builtin.bitNot m by unfold Builtin.bitNot; omega)]
  show n - ((n.toNat &&& (Builtin.bitNot (Builtin.bitNot m)).toNat : Nat) : Int) = _
  rw [show Builtin.bitNot (Builtin.bitNot m) = m by unfold Builtin.bitNot; omega]
  have : n.toNat &&& m.toNat ≤ n.toNat := Nat.and_le_left
  omega

theorem not_bit {n m : Int} (n0 : 0 ≤ n) (m0 : 0 ≤ m) : 0 ≤ Builtin.bitAnd n (Builtin.bitNot m) ∧ ∀ i, (Builtin.bitAnd n (Builtin.bitNot m)).toNat.testBit i = (n.toNat.testBit i && !m.toNat.testBit i) := by
  rw [nota_nat n0 m0]
  exact ⟨Int.natCast_nonneg _, fun i => by rw [Int.toNat_natCast]; exact sub_bit i _ _⟩

def eno (hd dd : Int) (ks : List Int) : Bool := decide (∀ h ∈ GB.hl hd, dd.toNat.testBit h.toNat = true ∨ h ∈ ks) && decide (2 * ((GB.hl hd).filter fun h => decide (h ∈ ks)).length > (GB.hl hd).length)
theorem hl_get {n : Int} {h : Int} (m : h ∈ GB.hl n) : 0 ≤ h ∧ h < 63 ∧ n.toNat.testBit h.toNat = true := by
  unfold GB.hl at m
  obtain ⟨k, hk, rfl⟩ := List.mem_map.mp m
  obtain ⟨h1, h2⟩ := GB.mem_hnds.mp hk
  exact ⟨by omega, by omega, by rw [Int.toNat_natCast]; exact h2⟩
theorem set_all {hd dd n : Int} {ks : List Int} (h0 : 0 ≤ hd) (h1 : hd < 9223372036854775808) (d0 : 0 ≤ dd) (s : IsSet n ks) : decide (Builtin.bitAnd (Builtin.bitAnd hd (Builtin.bitNot dd)) (Builtin.bitNot n) = 0) = decide (∀ h ∈ GB.hl hd, dd.toNat.testBit h.toNat = true ∨ h ∈ ks) := by
  obtain ⟨a0, a1⟩ := not_bit h0 d0
  obtain ⟨b0, b1⟩ := not_bit a0 s.1
  apply decide_eq_decide.mpr
  constructor
  · intro z h hh
    obtain ⟨r0, r1, tb⟩ := hl_get hh
    have := b1 h.toNat
    rw [z, show Int.toNat 0 = 0 from rfl, Nat.zero_testBit, a1, tb] at this
    cases e1 : dd.toNat.testBit h.toNat with
    | true => exact .inl rfl
    | false =>
      rw [e1] at this
      cases e2 : n.toNat.testBit h.toNat with
      | true => exact .inr (by have := (s.2.2 h.toNat).mp e2; rwa [Int.toNat_of_nonneg r0] at this)
      | false => rw [e2] at this; cases this
  · intro z
    have : (Builtin.bitAnd (Builtin.bitAnd hd (Builtin.bitNot dd)) (Builtin.bitNot n)).toNat = 0 := by
      apply Nat.eq_of_testBit_eq
      intro i
      rw [Nat.zero_testBit, b1, a1]
      cases e0 : hd.toNat.testBit i with
      | false => rfl
      | true =>
        have i63 : i < 63 := by
          refine Nat.lt_of_not_le fun hi => ?_
          have := Nat.testBit_lt_two_pow (x := hd.toNat) (i := i) (Nat.lt_of_lt_of_le (show hd.toNat < 2 ^ 63 by omega) (Nat.pow_le_pow_right (by decide) hi))
          rw [this] at e0
          cases e0
        have := z (i : Int) (GB.hl_mem.mpr ⟨i63, e0⟩)
        rw [Int.toNat_natCast] at this
        rcases this with w | w
        · rw [w]; rfl
        · rw [(s.2.2 i).mpr w]; simp
    omega
theorem set_half {hd n : Int} {ks : List Int} (h0 : 0 ≤ hd) (s : IsSet n ks) : half n hd = decide (2 * ((GB.hl hd).filter fun h => decide (h ∈ ks)).length > (GB.hl hd).length) := by
  have e : GB.hl (Builtin.bitAnd n hd) = (GB.hl hd).filter fun h => decide (h ∈ ks) := by
    rw [and_nat s.1 h0]
    unfold GB.hl GB.hnds
    rw [Int.toNat_natCast, List.filter_map, List.filter_filter]
    congr 1
    apply List.filter_congr
    intro i _
    rw [Nat.testBit_and, Bool.eq_iff_iff, Bool.and_eq_true, Bool.and_eq_true, s.2.2 i]
    show _ ↔ decide ((i : Int) ∈ ks) = true ∧ _
    rw [decide_eq_true_iff]
  unfold half
  rw [e]
  apply decide_eq_decide.mpr
  omega
def sp_Change_has_enough (K : PySem.W.Frag) (mg : Str → Option Value) : Sp := fun vs H Q _ => ∃ (p : Addr) (dd : Int), vs = [.ref p, .int dd] ∧ ∃ me hd b y vo ag d rp, ChX K mg H p me hd b y vo ag d rp ∧ 0 ≤ dd ∧ ∀ H', Same H H' → Q (.bl (eno hd dd (rp.map (·.1)))) H'
theorem sc_Change_has_enough : FnScope ["self", "doubts", "reporting"] ["self", "doubts"] (defScope s_Change_has_enough) := ⟨rfl, rfl, rfl, by decide +kernel, rfl, by decide +kernel, by decide +kernel⟩
set_option maxHeartbeats 1000000 in
theorem ok_Change_has_enough {f f_more_than_half f_set_of C_Change : Addr} {fd fd_more_than_half fd_set_of : FuncData} (F : Fun K "has_enough" "Change.has_enough" s_Change_has_enough f fd)
    (G_more_than_half : FnOk P w K mg base CX0 5 f_more_than_half fd_more_than_half ["some", "hands"] (sp_more_than_half K)) (C_more_than_half : Cal K mg "more_than_half" f_more_than_half fd_more_than_half ["some", "hands"])
    (G_set_of : FnOk P w K mg base CX0 5 f_set_of fd_set_of ["some"] (sp_set_of K)) (C_set_of : Cal K mg "set_of" f_set_of fd_set_of ["some"]) (h_list : mg "list" = none) (T_Change : TChange K C_Change) (m_Change : mg "Change" = some (.ref C_Change)) : FnOk P w K mg base CX0 6 f fd ["self", "doubts"] (sp_Change_has_enough K mg) := by
  refine F.ok sc_Change_has_enough (fun vs H Q E h => ?_) (fun cdv A outer s H vs Q E hr h => ?_)
  · obtain ⟨p, dd, rfl, _⟩ := h
    rfl
  obtain ⟨p, dd, rfl, h⟩ := h
  have hu64 := hr.units
  have hu0 := hr.units0
  have hu := hu_of hr
  refine ⟨_, (pss_cons (ps_set (i := 2) sc_Change_has_enough.nd rfl (Or.inl rfl) (pcall G_set_of C_set_of hr (pa_cons (pe_callTy (call_listG rfl) (by rfl) h_list PyProof.Rows.boot_list (pa_cons (pe_fldK (K := K) rfl (pv 0) rfl) pa_nil)) pa_nil)))
      (pss_one (ps_ret (pe_and (pe_cmpR op_eq (pe_op op_and (pe_op op_and (pe_fldK (K := K) rfl (pv 0) rfl) (pe_un un_inv (pv 1))) (pe_un un_inv (pv 2))) pe_int (nomark _)) (pe_one (pcall G_more_than_half C_more_than_half hr (pa_cons (pv 2) (pa_cons (pe_fldK (K := K) rfl (pv 0) rfl) pa_nil)))))))), ?_⟩
  obtain ⟨me, hd, b, y, vo, ag, d, rp, S, d0, kk⟩ := h
  obtain ⟨⟨C, dx, ba, ye, av, eC, hp, _⟩, ⟨kvs, hd', hr, nd⟩, m0, m1, z0, z1, _⟩ := id S
  rw [m_Change] at eC
  cases eC
  obtain ⟨cl, n1, n2, n3, n4, n5, n6, n7⟩ := id T_Change
  have fk := few_keys nd hr.rg
  rw [← hr.keys] at kk
  unfold eno at kk
  clean_wf
  refine ⟨d, kvs, rfl, .inl hd', by omega, fun l hl => ?_⟩
  have s1 := same_upd (o := .lst ((kvs.map (·.1)).map V.int)) hl
  have g1 : (upd H l (.lst ((kvs.map (·.1)).map V.int))) l = some (.lst ((kvs.map (·.1)).map V.int)) := upd_same
  generalize upd H l (.lst ((kvs.map (·.1)).map V.int)) = H1 at s1 g1 ⊢
  have hp1 := s1 _ _ hp
  clean_wf
  refine ⟨l, rfl, kvs.map (·.1), SqL.of g1, fun x hx => ?_, fun n ns => ?_⟩
  · obtain ⟨e, he, rfl⟩ := List.mem_map.mp hx
    exact hr.rg e he
  rw [← set_all z0 z1 d0 ns, ← set_half z0 ns] at kk
  clean_wf
  refine ite2 (fun h1 => ?_) fun h1 => ?_
  · clean_wf
    refine ⟨n, hd, rfl, ns.1, z0, z1, fun H2 s2 => ?_⟩
    have := kk H2 (s1.trans s2)
    rw [h1, Bool.true_and] at this
    exact this
  · clean_wf
    have := kk H1 s1
    rw [(show _ = false from Bool.eq_false_iff.mpr h1), Bool.false_and] at this
    exact this
end
end K64


namespace K64
open PySem L2
abbrev s_Change_made_by : Stmt := inClass (top 12) 9
section
variable {P : Program} {w : World} {K : PySem.W.Frag} {mg : Str → Option Value} {base : Heap}
theorem lkg_of {m : List (Int × V)} {k : Int} (h : k ∈ m.map (·.1)) : ∃ v, lkG m k = some v ∧ (k, v) ∈ m := by
  induction m with
  | nil => cases h
  | cons p m ih =>
    by_cases e : p.1 = k
    · exact ⟨p.2, by show (if p.1 = k then some p.2 else lkG m k) = _; rw [if_pos e], by rw [← e]; exact List.mem_cons_self⟩
    · rcases List.mem_cons.mp h with z | z
      · exact absurd z.symm e
      · obtain ⟨v, h1, h2⟩ := ih z
        exact ⟨v, by show (if p.1 = k then some p.2 else lkG m k) = _; rw [if_neg e]; exact h1, List.mem_cons_of_mem _ h2⟩

def lkA {α : Type} : List (Int × α) → Int → Option α
  | [], _ => none
  | p :: m, k => if p.1 = k then some p.2 else lkA m k

def rdOf (rp : List (Int × PyData × Yes)) (k : Int) : PyData := match lkA rp k with
  | none => .none
  | some r => r.1
theorem RpX.look {H : Hp} {k : Int} {v : V} : ∀ {m : List (Int × V)} {rp : List (Int × PyData × Yes)}, RpX H m rp → lkG m k = some v → ∃ t rv yv r, v = .ref t ∧ H t = some (.tup [rv, yv]) ∧ lkA rp k = some r ∧ Pl H 1 rv r.1 ∧ YeV H yv r.2
  | _, _, .nil, h => nomatch h
  | e :: m, q :: rp, .cons ⟨e1, _, t, rv, yv, e2, e3, e4, e5⟩ u, h => by
    have h : (if e.1 = k then some e.2 else lkG m k) = some v := h
    show ∃ t rv yv r, v = .ref t ∧ H t = some (.tup [rv, yv]) ∧ (if q.1 = k then some q.2 else lkA rp k) = some r ∧ Pl H 1 rv r.1 ∧ YeV H yv r.2
    by_cases z : e.1 = k
    · rw [if_pos z] at h
      have h := Option.some.inj h
      exact ⟨t, rv, yv, q.2, by rw [← h, e2], e3, if_pos (e1 ▸ z), e4, e5⟩
    · rw [if_neg z] at h
      rw [if_neg (fun w => z (e1.trans w))]
      exact RpX.look u h
theorem atI_last {α : Type} (xs : List α) (x : α) : atI (xs ++ [x]) (-1) = some x := by
  have e : ixN (xs ++ [x]).length (-1) = some xs.length := by
    unfold ixN
    rw [List.length_append, List.length_singleton, if_neg (by omega), if_pos (by omega)]
    congr 1
    omega
  unfold atI
  rw [e]
  simp

def plz (k : Nat) : PyData := .tuple [.str "plan", .int (k : Int)]
theorem plan_lay : (PyData.str "plan").canLay0 = true := by decide +kernel
def sp__law_make (K : PySem.W.Frag) (v1 : V) : Sp := fun vs H Q _ => ∃ (x : V), vs = [x] ∧ ∃ la ys, v1 = .ref la ∧ H la = some (.lst ys) ∧ ys.length ≤ 900 ∧
  ∀ t H', (∀ b o, b ≠ la → H b = some o → H' b = some o) → H' t = some (.tup [.str "plan", .int ((ys.length : Nat) : Int)]) → H' la = some (.lst (ys ++ [.ref t])) → Q (.ref t) H'
abbrev s__law_make : Stmt := inDef (top 17) 2
theorem sc__law_make : ScM ["_law_reports", "_law_answered"] ["_law_reports"] ["_law_answered"] (defScope s__law_make) := ⟨rfl, rfl, rfl, by decide +kernel, rfl, by decide +kernel, by decide +kernel, by decide +kernel, by decide +kernel⟩
abbrev fx__law_make (c1 : Addr) ( doc pm ctv : Value) (c' : Addr) : FuncData := PySem.W.fnX "_law_make" "_law_propose.<locals>._law_make" (defArgs s__law_make) (defBody s__law_make) (defScope s__law_make) [("_law_answered", c1)] .none .none doc pm none (.ref c') ctv
abbrev sm__law_make (K : PySem.W.Frag) (f c' c1 : Addr) (doc pm ctv : Value) (v1 : V) : Sp := spF f c' (PySem.W.fnMade "_law_make" "_law_propose.<locals>._law_make" (defArgs s__law_make) (defBody s__law_make) (defScope s__law_make) [("_law_answered", c1)] doc pm c' ctv) "_law_propose.<locals>._law_make" [("_law_answered", c1)] [v1] (sp__law_make K v1)
theorem ok__law_make {f c' c1 : Addr} {doc pm ctv : Value} {v1 : V} (h_len : mg "len" = none) : FnOk P w K mg base CX0 1 f (fx__law_make c1 doc pm ctv c') ["_law_reports"] (sm__law_make K f c' c1 doc pm ctv v1) := by
  refine made_okF sc__law_make (by simp) (fun vs H Q E h => ?_) (fun A outer s H vs Q E hr h => ?_)
  · obtain ⟨x, rfl, _⟩ := h
    rfl
  obtain ⟨x, rfl, h⟩ := h
  have hu64 := hr.units
  have hu0 := hr.units0
  have hu := hu_of hr
  refine ⟨_, (pss_cons (ps_expr (pe_appendK (K := K) rfl (pe_bm PySem.F.plainAttrs_list PySem.F.slot_list_append PySem.F.type_list_append mt_append (pv 1) (pa_cons (pe_tup (pa_cons pe_str (pa_cons (pe_callB (call_lenK (K := K) rfl) (by rfl) h_len PySem.boot_len (pa_cons (pv 1) pa_nil)) pa_nil))) pa_nil))))
      (pss_one (ps_ret (pe_ix (ix_listK (K := K) rfl) (pv 1) (pe_un un_neg pe_int) (fun _ _ => rfl))))), ?_⟩
  generalize unl _ H = H0 at h ⊢
  obtain ⟨la, ys, rfl, hl, ly, kk⟩ := h
  have sl := SqL.of (K := K) hl
  clean_wf
  intro t H2 ht s2 g2
  have hl2 := s2 _ _ hl
  have ls : ys.length < sizeLine := small1000 (by omega)
  clean_wf
  intro H3 b3 g3
  have sl3 := SqL.of (K := K) g3
  have al := atI_last ys (V.ref t)
  clean_wf
  exact kk t H3 (fun b o n e => b3.at n (s2 _ _ e)) (b3.at (ne_of g2 hl2 (by intro z; cases z)) g2) g3

def OKs (K : PySem.W.Frag) (f : Addr) (sp : Sp) : Prop := ∃ c' c1 doc pm ctv v1, sp = sm__law_make K f c' c1 doc pm ctv v1
theorem step_ok (h_len : mg "len" = none) : ∀ f sp, OKs K f sp → (∃ fd ps, FnOk P w K mg base CX0 4 f fd ps sp ∧ Binds K fd ps []) ∧ ∀ vs H Q E, sp vs H Q E → ∃ fo : Obj, (∃ fd, fo.data = .func fd) ∧ H f = some (FnO f fo) := by
  rintro f sp ⟨c', c1, doc, pm, ctv, v1, rfl⟩
  exact ⟨⟨_, _, (ok__law_make h_len).mono (by decide), .all fun us hl => match us, hl with | [_], _ => rfl⟩, fun vs H Q E h => ⟨_, ⟨_, rfl⟩, h.1⟩⟩

abbrev cls1 (c1 : Addr) : List (Str × Addr) := [("_law_answered", c1)]

def MkF (H : Hp) (f la : Addr) : Prop := ∃ c' c1 doc pm ctv, H f = some (FnO f (PySem.W.fnMade "_law_make" "_law_propose.<locals>._law_make" (defArgs s__law_make) (defBody s__law_make) (defScope s__law_make) [("_law_answered", c1)] doc pm c' ctv)) ∧ H c' = some (CdO c' "_law_propose.<locals>._law_make") ∧ LentAll H (cls1 c1) [.ref la]
theorem MkF.same {H H' : Hp} {f la : Addr} (x : MkF H f la) (s : Same H H') : MkF H' f la := by
  obtain ⟨c', c1, doc, pm, ctv, e1, e2, e3⟩ := x
  exact ⟨c', c1, doc, pm, ctv, s _ _ e1, s _ _ e2, e3.up s⟩

def Kp2 (p q : Addr) (H H' : Hp) : Prop := ∀ b o, b ≠ p → b ≠ q → H b = some o → H' b = some o
def sp_Change_made_by (K : PySem.W.Frag) (mg : Str → Option Value) : Sp := fun vs H Q _ => ∃ (p f : Addr), vs = [.ref p, .ref f] ∧ ∃ me hd b y vo ag d rp la y0, ChX K mg H p me hd b y vo ag d rp ∧ MkF H f la ∧ H la = some (.lst y0) ∧ y0.length ≤ 900 ∧
  ∀ H' t z, KpP la H H' → H' la = some (.lst (y0 ++ [.ref t])) → Pl H' 1 (.ref t) (plz y0.length) → Pl H' 1 z (plz y0.length) → Q z H'
theorem sc_Change_made_by : FnScope ["self", "make"] ["self", "make"] (defScope s_Change_made_by) := ⟨rfl, rfl, rfl, by decide +kernel, rfl, by decide +kernel, by decide +kernel⟩
set_option maxHeartbeats 2000000 in
theorem ok_Change_made_by {f f_own_copy C_Change : Addr} {fd fd_own_copy : FuncData} (F : Fun K "made_by" "Change.made_by" s_Change_made_by f fd) (G_step : ∀ f sp, OKs K f sp → (∃ fd ps, FnOk P w K mg base CX0 4 f fd ps sp ∧ Binds K fd ps []) ∧ ∀ vs H Q E, sp vs H Q E → ∃ fo : Obj, (∃ fd, fo.data = .func fd) ∧ H f = some (FnO f fo))
    (G_own_copy : FnOk P w K mg base CX0 4 f_own_copy fd_own_copy ["value"] (sp_own_copy K)) (C_own_copy : Cal K mg "own_copy" f_own_copy fd_own_copy ["value"]) (h_sorted : mg "sorted" = none) (T_Change : TChange K C_Change) (m_Change : mg "Change" = some (.ref C_Change)) : FnOk P w K mg base CX0 5 f fd ["self", "make"] (sp_Change_made_by K mg) := by
  refine F.ok sc_Change_made_by (fun vs H Q E h => ?_) (fun cdv A outer s H vs Q E hr h => ?_)
  · obtain ⟨p, f', rfl, _⟩ := h
    rfl
  obtain ⟨p, f', rfl, h⟩ := h
  have hu64 := hr.units
  have hu0 := hr.units0
  have hu := hu_of hr
  refine ⟨_, (pss_one (ps_ret (pcall G_own_copy C_own_copy hr (pa_cons (pe_callM G_step hr pass0 (pv 1) (pa_cons (pe_comp ["self", "hand"] [some 0, none] rfl rfl (by kernel_rfl) (pi_listK (K := K) rfl (pe_callB (call_sortedG rfl) (by rfl) h_sorted PyProof.Rows.boot_sorted (pa_cons (pe_fldK (K := K) rfl (pv 0) rfl) pa_nil))) (fun _ _ _ _ _ nd => pg_name (i := 1) nd rfl (Or.inl rfl)) (fun _ _ _ _ _ => pif_nil) (fun _ _ _ _ _ => (pcall G_own_copy C_own_copy hr (pa_cons (pe_ix (ix_tupK (K := K) rfl) (pe_dget hu (pe_fldK (K := K) rfl (pv 0) rfl) (pv 1) (fun _ _ => rfl)) pe_int (fun _ _ => rfl)) pa_nil)))) pa_nil)) pa_nil)))), ?_⟩
  obtain ⟨me, hd, b, y, vo, ag, d, rp, la, y0, S, F', gla, ly0, kk⟩ := h
  obtain ⟨⟨C, dx, ba, ye, av, eC, hp, hb, _⟩, ⟨kvs, hd', hr, nd⟩, _⟩ := id S
  rw [m_Change] at eC
  cases eC
  obtain ⟨cl, n1, n2, n3, n4, n5, n6, n7⟩ := id T_Change
  have fk := few_keys nd hr.rg
  obtain ⟨c', c1, doc, pm, ctv, e1, e2, e3⟩ := id F'
  clean_wf
  refine ⟨f', sm__law_make K f' c' c1 doc pm ctv (.ref la), rfl, ⟨c', c1, doc, pm, ctv, .ref la, rfl⟩, ⟨_, ⟨_, rfl⟩, e1⟩, ?_⟩
  clean_wf
  refine ⟨d, kvs, rfl, .inl hd', fk, fun l ns hl pm' so => ?_⟩
  have s1 := same_upd (o := .lst (ns.map V.int)) hl
  have g1 : (upd H l (.lst (ns.map V.int))) l = some (.lst (ns.map V.int)) := upd_same
  generalize upd H l (.lst (ns.map V.int)) = H1 at s1 g1 ⊢
  have sl := SqL.of (K := K) g1
  clean_wf
  intro D hD
  refine comp_list (K := K) (a := l) (xs := ns.map V.int) (fun i σ A => ∃ v ys, σ = [some (.ref p), v] ∧ Same H1 A ∧ A D = some (.lst ys) ∧ ys.length = i ∧ Pls A 1 ys ((ns.take i).map (rdOf rp))) ⟨none, [], rfl, same_upd hD, upd_same, rfl, .nil⟩ ?_ ?_ ?_
  · rintro i σ A _ ⟨_, _, _, z, _⟩
    exact SqL.of (z _ _ g1)
  · rintro i x σ A hx ⟨v, ys, rfl, sA, hDx, ly, hys⟩
    obtain ⟨h, hh, rfl⟩ := int_get hx
    have hi := (List.getElem?_eq_some_iff.mp hh).1
    have ln := pm'.length_eq
    rw [List.length_map] at ln
    obtain ⟨vv, lk, mem⟩ := lkg_of (pm'.mem_iff.mp (List.mem_of_getElem? hh))
    obtain ⟨t, rv, yv, r, q1, q2, q3, q4, q5⟩ := hr.look lk
    have er : rdOf rp h = r.1 := by unfold rdOf; rw [q3]
    rw [q1] at lk
    have hpA := sA _ _ (s1 _ _ hp)
    have hdA := sA _ _ (s1 _ _ hd')
    have htA := sA _ _ (s1 _ _ q2)
    have rdA : Rd A d (.dK (dG kvs)) := .inl hdA
    have st := SqT.of (K := K) htA
    have a0 : atI [rv, yv] 0 = some rv := by kernel_rfl
    clean_wf
    refine ⟨rv, rfl, r.1, (q4.up (.same (s1.trans sA))).mono.mono, fun A1 x' r1 p1 => ?_⟩
    have hD1 := r1 _ _ hDx
    have kp : SmH A1 (upd A1 D (.lst (ys ++ [x']))) := SmH.lst hD1
    refine ⟨ys, hD1, small1000 (by omega), _, ys ++ [x'], rfl, fun b o z => ?_, upd_same, by rw [List.length_append, ly]; rfl, ?_⟩
    · rw [upd_ne (ne_of_none z hD)]
      exact r1 _ _ (sA b o z)
    · rw [take_get hh, List.map_append, List.map_cons, List.map_nil, er]
      exact pls_snoc ((hys.up (.same r1)).up kp) ((pl_lvl q4 p1).up kp)
  rintro σ A ⟨v, ys, rfl, sA, hDx, ly, hys⟩
  rw [show (ns.map V.int).length = ns.length from List.length_map _, List.take_length] at hys
  have sA' := s1.trans sA
  have e3A := e3.up sA'
  have glA := sA' _ _ gla
  have un : ∀ {x o}, A x = some o → (∀ o' φ, o ≠ .frz o' (.ext φ)) → unl ((cls1 c1).map (·.2)) A x = some o := fun e n => unl_tup e3A.frz e n
  refine ⟨sA' _ _ e1, sA' _ _ e2, e3A, _, rfl, la, y0, rfl, un glA (by intro _ _ z; cases z), ly0, fun t H2 b2 q2 g2 fr2 => ?_⟩
  have b3 : KpP la A (rln ((cls1 c1).map (·.2)) A H2) := fun b o n e => by
    by_cases z : b ∈ (cls1 c1).map (·.2)
    · rw [rln_in z]; exact e
    · rw [rln_out z]; exact b2 b o n (by rw [unl_out z]; exact e)
  have out : ∀ {x o}, H2 x = some o → rln ((cls1 c1).map (·.2)) A H2 x = some o := fun {x o} e => by
    rw [rln_out fun z => by rw [fr2 x z] at e; cases e]
    exact e
  have g3 := out g2
  have g5 := out q2
  dsimp only
  generalize rln ((cls1 c1).map (·.2)) A H2 = A2 at b3 g3 g5 ⊢
  have pl : Pl A2 1 (.ref t) (plz y0.length) := .tup g5 (by show 2 ≤ 10; decide) (.cons (.str _ plan_lay) (.cons (.int _) .nil))
  refine ⟨.ref t, rfl, _, pl.mono.mono, fun H3 x' s3 p3 => ?_⟩
  clean_wf
  exact kk H3 t x' (fun b o n e => s3 _ _ (b3 _ _ n (sA' _ _ e))) (s3 _ _ g3) (pl.up (.same s3)) (pl_lvl pl p3)
end
end K64


namespace K64
open PySem L2
abbrev s_Change_propose : Stmt := inClass (top 12) 7
section
variable {P : Program} {w : World} {K : PySem.W.Frag} {mg : Str → Option Value} {base : Heap}
theorem dG_get {m : List (Int × V)} {i : Nat} {k : Key} {v : V} (h : (dG m)[i]? = some (k, v)) : ∃ p, m[i]? = some p ∧ k = Sum.inl p.1 ∧ v = p.2 := by
  unfold dG at h
  rw [List.getElem?_map] at h
  cases e : m[i]? with
  | none => rw [e] at h; cases h
  | some p => rw [e] at h; cases h; exact ⟨p, rfl, rfl, rfl⟩

def gOf (rp : List (Int × PyData × Yes)) : Yes := gYes (rp.map (·.2.2)) none

structure Cg where
  b : Option (Int × Int)
  y : Yes
  vo : Int
  ag : PyData
  rp : List (Int × PyData × Yes)

def fires (me hd dd : Int) (c : Cg) : Bool := gat c.b c.y me && eno hd dd (c.rp.map (·.1))

def plnN (c : Cg) (k : Nat) : PyData := match gOf c.rp with
  | none => plz k
  | some g => g.2

def prC (me hd dd : Int) (c : Cg) (k : Nat) : Cg := if fires me hd dd c = true then ⟨c.b, some (c.b.getD (0, 0), plnN c k), 2 ^ me.toNat, seeA c.ag (some (c.b.getD (0, 0), plnN c k)) (2 ^ me.toNat) hd, c.rp⟩ else c

def prN (me hd dd : Int) (c : Cg) (an : List PyData) : List PyData := if fires me hd dd c = true then (match gOf c.rp with
  | none => an ++ [plz an.length]
  | some _ => an) else an
def sp_Change_propose (K : PySem.W.Frag) (mg : Str → Option Value) : Sp := fun vs H Q _ => ∃ (p : Addr) (dd : Int) (f : Addr), vs = [.ref p, .int dd, .ref f] ∧ ∃ me hd b y vo ag d rp la y0 an, ChX K mg H p me hd b y vo ag d rp ∧ MkF H f la ∧ H la = some (.lst y0) ∧ Pls H 1 y0 an ∧ y0.length ≤ 900 ∧ 0 ≤ dd ∧
  ∀ r H' y1, Kp2 p la H H' → H' la = some (.lst y1) → Pls H' 1 y1 (prN me hd dd ⟨b, y, vo, ag, rp⟩ an) → ChX K mg H' p me hd (prC me hd dd ⟨b, y, vo, ag, rp⟩ an.length).b (prC me hd dd ⟨b, y, vo, ag, rp⟩ an.length).y (prC me hd dd ⟨b, y, vo, ag, rp⟩ an.length).vo (prC me hd dd ⟨b, y, vo, ag, rp⟩ an.length).ag d (prC me hd dd ⟨b, y, vo, ag, rp⟩ an.length).rp → Q (.bl r) H'
theorem sc_Change_propose : FnScope ["self", "doubts", "make", "yes", "plan"] ["self", "doubts", "make"] (defScope s_Change_propose) := ⟨rfl, rfl, rfl, by decide +kernel, rfl, by decide +kernel, by decide +kernel⟩
set_option maxHeartbeats 4000000 in
theorem ok_Change_propose {f f_bit_of f_greatest_yes f_Change_gathers f_Change_see_votes f_Change_has_enough f_Change_made_by C_Change : Addr} {fd fd_bit_of fd_greatest_yes fd_Change_gathers fd_Change_see_votes fd_Change_has_enough fd_Change_made_by : FuncData} (F : Fun K "propose" "Change.propose" s_Change_propose f fd)
    (G_bit_of : FnOk P w K mg base CX0 6 f_bit_of fd_bit_of ["hand"] (sp_bit_of K)) (C_bit_of : Cal K mg "bit_of" f_bit_of fd_bit_of ["hand"])
    (G_greatest_yes : FnOk P w K mg base CX0 6 f_greatest_yes fd_greatest_yes ["some"] (sp_greatest_yes K)) (C_greatest_yes : Cal K mg "greatest_yes" f_greatest_yes fd_greatest_yes ["some"])
    (G_Change_gathers : FnOk P w K mg base CX0 6 f_Change_gathers fd_Change_gathers ["self"] (sp_Change_gathers K mg)) (B_Change_gathers : Binds K fd_Change_gathers ["self"] [])
    (G_Change_see_votes : FnOk P w K mg base CX0 6 f_Change_see_votes fd_Change_see_votes ["self"] (sp_Change_see_votes K mg)) (B_Change_see_votes : Binds K fd_Change_see_votes ["self"] [])
    (G_Change_has_enough : FnOk P w K mg base CX0 6 f_Change_has_enough fd_Change_has_enough ["self", "doubts"] (sp_Change_has_enough K mg)) (B_Change_has_enough : Binds K fd_Change_has_enough ["self", "doubts"] [])
    (G_Change_made_by : FnOk P w K mg base CX0 6 f_Change_made_by fd_Change_made_by ["self", "make"] (sp_Change_made_by K mg)) (B_Change_made_by : Binds K fd_Change_made_by ["self", "make"] []) (T_Change : TChange K C_Change) (m_Change : mg "Change" = some (.ref C_Change)) (mt_Change_gathers : Meth K C_Change "gathers" f_Change_gathers) (mt_Change_has_enough : Meth K C_Change "has_enough" f_Change_has_enough) (mt_Change_made_by : Meth K C_Change "made_by" f_Change_made_by) (mt_Change_see_votes : Meth K C_Change "see_votes" f_Change_see_votes) : FnOk P w K mg base CX0 7 f fd ["self", "doubts", "make"] (sp_Change_propose K mg) := by
  refine F.ok sc_Change_propose (fun vs H Q E h => ?_) (fun cdv A outer s H vs Q E hr h => ?_)
  · obtain ⟨p, dd, f', rfl, _⟩ := h
    rfl
  obtain ⟨p, dd, f', rfl, h⟩ := h
  have hu64 := hr.units
  have hu0 := hr.units0
  have hu := hu_of hr
  refine ⟨_, (pss_cons (ps_if (PW.pt (pw_or (pt_not (pt_callK K rfl (pe_methS0 (MOk.cons T_Change.cl mt_Change_gathers G_Change_gathers B_Change_gathers MOk.nil) (pv 0) hr))) (pw_or1 (pt_not (pt_callK K rfl (pe_methS (MOk.cons T_Change.cl mt_Change_has_enough G_Change_has_enough B_Change_has_enough MOk.nil) (pv 0) hr (pa_cons (pv 1) pa_nil))))))) (pss_one (ps_ret pe_bl)) pss_nil)
      (pss_cons (ps_thaw (ps_set (i := 3) sc_Change_propose.nd rfl (Or.inl rfl) (pcall G_greatest_yes C_greatest_yes hr (pa_cons (pe_comp ["kept"] [none] rfl rfl (by kernel_rfl) (pi_vals (pe_fldK (K := K) rfl (pv 0) rfl)) (fun _ _ _ _ _ nd => pg_name (i := 0) nd rfl (Or.inl rfl)) (fun _ _ _ _ _ => pif_nil) (fun _ _ _ _ _ => (pe_ix (ix_tupK (K := K) rfl) (pv 0) pe_int (fun _ _ => rfl)))) pa_nil))))
      (pss_cons (ps_set (i := 4) sc_Change_propose.nd rfl (Or.inl rfl) (pe_ifExp (pt_cmpR op_isN (pv 3) pe_non (nomark _)) (pe_methS (MOk.cons T_Change.cl mt_Change_made_by G_Change_made_by B_Change_made_by MOk.nil) (pv 0) hr (pa_cons (pv 2) pa_nil)) (pe_ix (ix_tupK (K := K) rfl) (pv 3) pe_int (fun _ _ => rfl))))
      (pss_cons (ps_fldK (K := K) rfl (pv 0) (pe_tup (pa_cons (pe_fldK (K := K) rfl (pv 0) rfl) (pa_cons (pv 4) pa_nil))) rfl)
      (pss_cons (ps_fldK (K := K) rfl (pv 0) (pcall G_bit_of C_bit_of hr (pa_cons (pe_fldK (K := K) rfl (pv 0) rfl) pa_nil)) rfl)
      (pss_cons (ps_expr (pe_methS0 (MOk.cons T_Change.cl mt_Change_see_votes G_Change_see_votes B_Change_see_votes MOk.nil) (pv 0) hr))
      (pss_one (ps_ret pe_bl)))))))), ?_⟩
  obtain ⟨me, hd, b, y, vo, ag, d, rp, la, y0, an, S, F', gla, pan, ly0, d0, kk⟩ := h
  have lan := pls_len pan
  obtain ⟨⟨C, dx, ba, ye, av, eC, hp, hb, hy, ha⟩, ⟨kvs, hd', hr, nd⟩, m0, m1, z0, z1, sm, sv, vy⟩ := id S
  rw [m_Change] at eC
  cases eC
  obtain ⟨cl, n1, n2, n3, n4, n5, n6, n7⟩ := id T_Change
  have fk := few_keys nd hr.rg
  have kk0 : fires me hd dd ⟨b, y, vo, ag, rp⟩ = false → ∀ H', Same H H' → Q (.bl false) H' := fun e H' s => by
    have e1 : prC me hd dd ⟨b, y, vo, ag, rp⟩ an.length = ⟨b, y, vo, ag, rp⟩ := by unfold prC; rw [e]; rfl
    have e2 : prN me hd dd ⟨b, y, vo, ag, rp⟩ an = an := by unfold prN; rw [e]; rfl
    rw [e1, e2] at kk
    exact kk false H' y0 (fun b o _ _ e => s _ _ e) (s _ _ gla) (pan.up (.same s)) (S.same s)
  refine x_seq ?_
  clean_wf
  refine ⟨p, rfl, me, hd, b, y, vo, ag, d, rp, S, ?_⟩
  clean_wf
  refine ite2 (fun h1 => ?_) fun h1 => ?_
  · have h1 : gat b y me = false := by cases z : gat b y me <;> simp_all
    clean_wf
    exact kk0 (by unfold fires; rw [h1]; rfl) H (.refl _)
  have hr2 : gat b y me = true := by cases z : gat b y me <;> simp_all
  obtain ⟨q, rfl⟩ : ∃ q, b = some q := by
    cases b with
    | none => cases hr2
    | some q => exact ⟨q, rfl⟩
  obtain ⟨u, rfl, gu⟩ := id hb
  clean_wf
  refine ⟨p, dd, rfl, me, hd, _, y, vo, ag, d, rp, S, d0, fun H1 s1 => ?_⟩
  have S1 := S.same s1
  have hp1 := s1 _ _ hp
  have hd1 := s1 _ _ hd'
  clean_wf
  refine ite2 (fun h2 => ?_) fun h2 => ?_
  · have h2 : eno hd dd (rp.map (·.1)) = false := by cases z : eno hd dd (rp.map (·.1)) <;> simp_all
    clean_wf
    exact kk0 (by unfold fires; rw [h2, Bool.and_false]) H1 s1
  have h2' : eno hd dd (rp.map (·.1)) = true := by cases z : eno hd dd (rp.map (·.1)) <;> simp_all
  have ef : fires me hd dd ⟨some q, y, vo, ag, rp⟩ = true := by unfold fires; rw [hr2, h2']; rfl
  have e1 : prC me hd dd ⟨some q, y, vo, ag, rp⟩ an.length = ⟨some q, some (q, plnN ⟨some q, y, vo, ag, rp⟩ an.length), 2 ^ me.toNat, seeA ag (some (q, plnN ⟨some q, y, vo, ag, rp⟩ an.length)) (2 ^ me.toNat) hd, rp⟩ := if_pos ef
  have e2 : prN me hd dd ⟨some q, y, vo, ag, rp⟩ an = (match gOf rp with
    | none => an ++ [plz an.length]
    | some _ => an) := if_pos ef
  rw [e1, e2] at kk
  have e3 : plnN ⟨some q, y, vo, ag, rp⟩ an.length = (match gOf rp with
    | none => plz an.length
    | some g => g.2) := rfl
  generalize plnN ⟨some q, y, vo, ag, rp⟩ an.length = pd at kk e3
  dsimp only at kk
  clear e1 e2 ef
  refine x_thaw (d := d) hd1 ?_
  clean_wf
  refine x_fz hd1 fun o A hA sA => ?_
  intro D hD
  have nDd : D ≠ d := fun z => by rw [z, hA] at hD; cases hD
  have lr : kvs.length = rp.length := Paired.length hr
  refine comp_vals (fun i σ B => ∃ v ys, σ = [v] ∧ Same A B ∧ B D = some (.lst ys) ∧ ys.length = i ∧ Paired (fun x y => YeV B x y) ys ((rp.take i).map (·.2.2))) ⟨none, [], rfl, same_upd hD, upd_same, rfl, .nil⟩ ?_ ?_ ?_
  · rintro i σ B _ ⟨_, _, _, z, _⟩
    exact z _ _ hA
  · rintro i ky v σ B hkv ⟨v1, ys, rfl, sB, hDx, ly, hys⟩
    obtain ⟨e, he, rfl, rfl⟩ := dG_get hkv
    have hi := (List.getElem?_eq_some_iff.mp he).1
    obtain ⟨r, hri, _, _, t, rv, yv, q1, q2, q3, q4⟩ := paired_at hr he
    have kt : SmH H B := fun a xs z => sB _ _ (sA _ _ (ne_of z hd' (by intro z; cases z)) (s1 _ _ z))
    have htB := kt _ _ q2
    have st := SqT.of (K := K) htB
    have a1 : atI [rv, yv] 1 = some yv := by kernel_rfl
    rw [q1]
    clean_wf
    have kp : SmH B (upd B D (.lst (ys ++ [yv]))) := SmH.lst hDx
    refine ⟨_, hDx, small1000 (by omega), _, ys ++ [yv], rfl, fun b o z => ?_, upd_same, by rw [List.length_append, ly]; rfl, ?_⟩
    · rw [upd_ne (ne_of_none z hD)]
      exact sB b o z
    · rw [take_get hri, List.map_append, List.map_cons, List.map_nil]
      exact Paired.snoc (Paired.mapP hys fun _ _ z => z.up kp) ((q4.up kt).up kp)
  rintro σ B ⟨v1, ys, rfl, sB, hDx, ly, hys⟩
  rw [dG_len, lr, List.take_length] at hys
  have sl := SqL.of (K := K) hDx
  refine ⟨D, rfl, ys, _, sl, hys, fun zy hy2 => ?_⟩
  clean_wf
  refine ⟨⟨o, sB _ _ hA⟩, ?_⟩
  have tS : Same H1 (upd B d (.dK (dG kvs))) := thaw_same (fun b u n e => sB _ _ (sA b u n e)) hd1
  have hyz : YeV (upd B d (.dK (dG kvs))) zy (gOf rp) := hy2.up fun a xs e => by rw [upd_ne (fun z => by rw [z, sB _ _ hA] at e; cases e)]; exact e
  generalize upd B d (.dK (dG kvs)) = B1 at tS hyz ⊢
  have sB1 := s1.trans tS
  have S2 := S.same sB1
  have hp2 := sB1 _ _ hp
  dsimp only
  refine x_cut (fun σ' E => ∃ pv, σ' = [some (.ref p), some (.int dd), some (.ref f'), some zy, some pv] ∧ KpP la H E ∧ (∃ y1, E la = some (.lst y1) ∧ Pls E 1 y1 (match gOf rp with
    | none => an ++ [plz an.length]
    | some _ => an)) ∧ Pl E 1 pv pd) ?_ fun N rest => ?_
  rotate_left
  · cases ey : gOf rp with
    | none =>
      rw [ey] at hyz rest e3
      obtain rfl : zy = .non := hyz
      clean_wf
      rw [show decide (V.non = V.non) = true from decide_eq_true rfl]
      clean_wf
      refine ⟨p, f', rfl, me, hd, _, y, vo, ag, d, rp, la, y0, S2, F'.same sB1, sB1 _ _ gla, ly0, fun E t z sE aE pt pz => ?_⟩
      rw [lan] at pt pz
      have ks : SmH H E := fun a xs e => sE _ _ (ne_of (sB1 _ _ e) (sB1 _ _ gla) (by intro z; cases z)) (sB1 _ _ e)
      exact rest _ _ ⟨z, rfl, fun b o n e => sE _ _ n (sB1 _ _ e), ⟨_, aE, pls_snoc (pan.up ks) pt⟩, by rw [e3]; exact pz⟩
    | some q2 =>
      rw [ey] at hyz rest e3
      obtain ⟨t, w', pv, rfl, g1, g2, g3⟩ := id hyz
      have st := SqT.of (K := K) g1
      have a1 : atI [V.ref w', pv] 1 = some pv := by kernel_rfl
      clean_wf
      rw [ref_non]
      clean_wf
      exact rest _ _ ⟨pv, rfl, fun b o n e => sB1 _ _ e, ⟨y0, sB1 _ _ gla, pan.up (.same sB1)⟩, by rw [e3]; exact g3⟩
  rintro σ' E ⟨pv, rfl, sE, ⟨y1, gE, aE⟩, pE⟩
  have npl : p ≠ la := ne_of hp gla (by intro z; cases z)
  have hpE := sE _ _ npl hp
  clean_wf
  intro t E1 ht s3 g3
  have hp3 := s3 _ _ hpE
  clean_wf
  intro E2 b2 e2
  rw [chf_pye] at e2
  clean_wf
  refine ⟨me, rfl, m0, by omega, ?_⟩
  clean_wf
  intro E3 b3 e3
  rw [chf_pvo] at e3
  have kE : KpP p E E3 := fun b' o' n e => b3.at n (b2.at n (s3 _ _ e))
  have kp : Kp2 p la H E3 := fun b' o' n n' e => kE _ _ n (sE _ _ n' e)
  have ks : SmH H E3 := fun a xs e => kp _ _ (ne_of e hp (by intro z; cases z)) (ne_of e gla (by intro z; cases z)) e
  have ks1 : SmH E1 E3 := fun a xs e => b3.at (ne_of e hp3 (by intro z; cases z)) (b2.at (ne_of e hp3 (by intro z; cases z)) e)
  have ndp : d ≠ p := ne_of hd' hp (by intro z; cases z)
  have ndl : d ≠ la := ne_of hd' gla (by intro z; cases z)
  have S4 : ChX K mg E3 p me hd (some q) (some (q, pd)) (2 ^ me.toNat) ag d rp := ⟨⟨_, dx, _, _, av, m_Change, e3, hb.up ks, ⟨t, u, pv, rfl, ks1 _ _ g3, ks _ _ gu, (pE.up (.same s3)).up ks1⟩, ha.up ks⟩, ⟨kvs, kp _ _ ndp ndl hd', hr.up ks, nd⟩, m0, m1, z0, z1, sm, sm, (fun z => nomatch z)⟩
  clean_wf
  refine ⟨p, rfl, me, hd, _, _, _, ag, d, rp, S4, fun E4 k4 S5 => ?_⟩
  clean_wf
  have kE4 : KpP p E E4 := fun b' o' n e => k4 _ _ n (kE _ _ n e)
  have kS : SmH E E4 := fun a xs e => kE4 _ _ (ne_of e hpE (by intro z; cases z)) e
  exact kk true E4 y1 (fun b' o' n n' e => kE4 _ _ n (sE _ _ n' e)) (kE4 _ _ npl.symm gE) (aE.up kS) S5
end
end K64


namespace K64
open PySem L2
section
variable {P : Program} {w : World} {K : PySem.W.Frag} {mg : Str → Option Value} {base : Heap}
theorem bgt_iff (r q : Int × Int) : bgt (some r) (some q) = true ↔ q.1 < r.1 ∨ (q.1 = r.1 ∧ q.2 < r.2) := by
  have e : bgt (some r) (some q) = if q.1 = r.1 then (if q.2 = r.2 then false else decide (q.2 < r.2)) else decide (q.1 < r.1) := by
    show HT.lexLt [q.1, q.2] [r.1, r.2] = _
    rw [HT.lexLt_cons, HT.lexLt_cons, HT.lexLt_nil_nil]
  rw [e]
  split
  · split
    · constructor
      · intro z; cases z
      · intro z; omega
    · rw [decide_eq_true_iff]; omega
  · rw [decide_eq_true_iff]; omega
theorem bgt_no (r q : Int × Int) : bgt (some r) (some q) = false ↔ r.1 < q.1 ∨ (q.1 = r.1 ∧ r.2 ≤ q.2) := by
  rw [← Bool.not_eq_true, bgt_iff]; omega
theorem bgt_irr : ∀ b : Option (Int × Int), bgt b b = false
  | none => rfl
  | some q => (bgt_no q q).mpr (by omega)
theorem bgt_tr : ∀ {a b c : Option (Int × Int)}, bgt a b = false → bgt b c = false → bgt a c = false
  | none, _, _, _, _ => by cases ‹Option (Int × Int)› <;> rfl
  | some _, none, _, h, _ => nomatch h
  | some _, some _, none, _, h => nomatch h
  | some a, some b, some c, h1, h2 => by
    rw [bgt_no] at *; omega
theorem bgt_anti : ∀ {a b : Option (Int × Int)}, bgt a b = false → bgt b a = false → a = b
  | none, none, _, _ => rfl
  | none, some _, _, h => nomatch h
  | some _, none, h, _ => nomatch h
  | some a, some b, h1, h2 => by
    rw [bgt_no] at *
    obtain ⟨a1, a2⟩ := a
    obtain ⟨b1, b2⟩ := b
    simp only [] at *
    congr 1
    exact Prod.ext (by simp only []; omega) (by simp only []; omega)
theorem bgt_asym {a b : Option (Int × Int)} (h : bgt a b = true) : bgt b a = false := by
  match a, b with
  | none, b => cases b <;> cases h
  | some a, none => rfl
  | some a, some b => rw [bgt_iff] at h; rw [bgt_no]; omega
theorem gtr_ge (b b' : Option (Int × Int)) : bgt b (gtr b b') = false := by
  unfold gtr
  split
  · exact bgt_asym ‹_›
  · exact bgt_irr b
def fupd {α : Type} (f : Int → α) (h : Int) (v : α) : Int → α := fun j => if j = h then v else f j
theorem fupd_eq {α : Type} {f : Int → α} {h : Int} {v : α} : fupd f h v h = v := if_pos rfl
theorem fupd_ne {α : Type} {f : Int → α} {h j : Int} {v : α} (n : j ≠ h) : fupd f h v j = f j := if_neg n
theorem putA_in {α : Type} : ∀ (m : List (Int × α)) (k : Int) (v : α) (e : Int × α), e ∈ putA m k v → e = (k, v) ∨ e ∈ m
  | [], k, v, e, h => .inl (List.mem_singleton.mp h)
  | p :: m, k, v, e, h => by
    have h : e ∈ (if p.1 = k then (p.1, v) :: m else p :: putA m k v) := h
    by_cases z : p.1 = k
    · rw [if_pos z] at h
      rcases List.mem_cons.mp h with q | q
      · exact .inl (by rw [q, z])
      · exact .inr (List.mem_cons_of_mem _ q)
    · rw [if_neg z] at h
      rcases List.mem_cons.mp h with q | q
      · exact .inr (q ▸ List.mem_cons_self)
      · rcases putA_in m k v e q with w | w
        · exact .inl w
        · exact .inr (List.mem_cons_of_mem _ w)
theorem gYes_ge : ∀ (ys : List Yes) (g : Yes), bgt (yb g) (yb (gYes ys g)) = false ∧ (∀ y ∈ ys, bgt (yb y) (yb (gYes ys g)) = false) ∧ (gYes ys g = g ∨ gYes ys g ∈ ys)
  | [], g => ⟨bgt_irr _, (fun _ z => nomatch z), .inl rfl⟩
  | y :: ys, g => by
    have e : gYes (y :: ys) g = gYes ys (if bgt (yb y) (yb g) = true then y else g) := rfl
    rw [e]
    by_cases z : bgt (yb y) (yb g) = true
    · rw [if_pos z]
      obtain ⟨a, b, c⟩ := gYes_ge ys y
      refine ⟨bgt_tr (bgt_asym z) a, fun w hw => ?_, .inr ?_⟩
      · rcases List.mem_cons.mp hw with u | u
        · rw [u]; exact a
        · exact b w u
      · rcases c with c | c
        · rw [c]; exact List.mem_cons_self
        · exact List.mem_cons_of_mem _ c
    · rw [if_neg z]
      obtain ⟨a, b, c⟩ := gYes_ge ys g
      refine ⟨a, fun w hw => ?_, ?_⟩
      · rcases List.mem_cons.mp hw with u | u
        · rw [u]; exact bgt_tr (Bool.eq_false_iff.mpr z) a
        · exact b w u
      · rcases c with c | c
        · exact .inl c
        · exact .inr (List.mem_cons_of_mem _ c)

abbrev Pln := Int × Int → Option PyData
abbrev Vot := Int → Int × Int → Prop

def Bd (hs : List Int) (c : Int → Cg) (q : Int × Int) : Prop := q.2 ∈ hs ∧ bgt (some q) (c q.2).b = false ∧ 0 ≤ q.1

def Pm (c : Int → Cg) (VT : Vot) (j : Int) (Q : Int × Int) (y : Yes) : Prop := bgt (some Q) (c j).b = false ∧ ∀ q, bgt (some Q) (some q) = true → VT j q → bgt (some q) (yb y) = false

def Mj (hs : List Int) (S : Int → Prop) : Prop := ∃ R : List Int, R.Nodup ∧ (∀ j ∈ R, j ∈ hs ∧ S j) ∧ hs.length < 2 * R.length

def Dead (hs : List Int) (c : Int → Cg) (VT : Vot) (q : Int × Int) : Prop := Mj hs fun j => ¬ VT j q ∧ bgt (c j).b (some q) = true

def Chos (hs : List Int) (PL : Pln) (VT : Vot) (d : PyData) : Prop := ∃ q, PL q = some d ∧ Mj hs fun j => VT j q

def ChY (hs : List Int) (PL : Pln) (VT : Vot) (y : Yes) (d : PyData) : Prop := ∃ q, PL q = some d ∧ (Mj hs fun j => VT j q) ∧ bgt (some q) (yb y) = false

structure Lt (hs : List Int) (c : Int → Cg) (PL : Pln) (VT : Vot) (gi : Int) (b' : Option (Int × Int)) (y' : Yes) (vo' : Int) : Prop where
  g : gi ∈ hs
  b : ∀ q, b' = some q → Bd hs c q
  y : ∀ q d, y' = some (q, d) → PL q = some d
  v : ∀ j : Nat, vo'.toNat.testBit j = true → ∃ q, yb y' = some q ∧ VT (j : Int) q
  p : ∀ Q, b' = some Q → Pm c VT gi Q y'
  v0 : 0 ≤ vo'

structure Gr (c c1 : Int → Cg) (PL PL1 : Pln) (VT VT1 : Vot) : Prop where
  b : ∀ h, bgt (c h).b (c1 h).b = false
  p : ∀ q d, PL q = some d → PL1 q = some d
  v : ∀ j q, VT j q → VT1 j q
  n : ∀ j q, VT1 j q → VT j q ∨ bgt (c j).b (some q) = false
structure Iv (hs : List Int) (hd : Int) (c : Int → Cg) (PL : Pln) (VT : Vot) : Prop where
  bb : ∀ h ∈ hs, ∀ q, (c h).b = some q → Bd hs c q
  yy : ∀ h ∈ hs, ∀ q d, (c h).y = some (q, d) → PL q = some d ∧ VT h q
  yl : ∀ h ∈ hs, bgt (yb (c h).y) (c h).b = false
  rr : ∀ h ∈ hs, ∀ r ∈ (c h).rp, r.1 ∈ hs ∧ (∀ q d, r.2.2 = some (q, d) → PL q = some d) ∧ ∀ Q, (c h).b = some Q → Pm c VT r.1 Q r.2.2
  rk : ∀ h ∈ hs, ((c h).rp.map (·.1)).Nodup
  pl : ∀ q d, PL q = some d → Bd hs c q ∧ ((c q.2).b = some q → yb (c q.2).y = some q)
  vv : ∀ h ∈ hs, ∀ j : Nat, (c h).vo.toNat.testBit j = true → ∃ q, yb (c h).y = some q ∧ VT (j : Int) q
  ov : ∀ h ∈ hs, (c h).y ≠ none → (c h).vo.toNat.testBit h.toNat = true
  v0 : ∀ h ∈ hs, 0 ≤ (c h).vo
  vt : ∀ j q, VT j q → j ∈ hs ∧ bgt (some q) (yb (c j).y) = false ∧ ∃ d, PL q = some d
  sf : ∀ q d, PL q = some d → ∀ q', bgt (some q) (some q') = true → PL q' = some d ∨ Dead hs c VT q'
  ch : ∀ h ∈ hs, (c h).ag ≠ .none → ChY hs PL VT (c h).y (c h).ag
  hf : ∀ h ∈ hs, half (c h).vo hd = true → (c h).ag ≠ .none
  nn : ∀ q d, PL q = some d → d ≠ .none
theorem Mj.mono {hs : List Int} {S T : Int → Prop} (m : Mj hs S) (h : ∀ j ∈ hs, S j → T j) : Mj hs T := by
  obtain ⟨R, r1, r2, r3⟩ := m
  exact ⟨R, r1, fun j hj => ⟨(r2 j hj).1, h j (r2 j hj).1 (r2 j hj).2⟩, r3⟩
theorem nd_le {a b : List Int} (nd : a.Nodup) (s : ∀ x ∈ a, x ∈ b) : a.length ≤ b.length := by
  induction a generalizing b with
  | nil => exact Nat.zero_le _
  | cons x a ih =>
    have hx := s x List.mem_cons_self
    obtain ⟨n1, n2⟩ := List.nodup_cons.mp nd
    have := ih (b := b.erase x) n2 fun y hy => (List.mem_erase_of_ne (show y ≠ x from fun z => n1 (z ▸ hy))).mpr (s y (List.mem_cons_of_mem _ hy))
    rw [List.length_erase_of_mem hx] at this
    have := List.length_pos_of_mem hx
    rw [List.length_cons]
    omega
theorem Mj.meet {hs : List Int} {S T : Int → Prop} (a : Mj hs S) (b : Mj hs T) : ∃ j ∈ hs, S j ∧ T j := by
  obtain ⟨R, r1, r2, r3⟩ := a
  obtain ⟨M, m1, m2, m3⟩ := b
  by_cases z : ∃ j ∈ R, j ∈ M
  · obtain ⟨j, h1, h2⟩ := z
    exact ⟨j, (r2 j h1).1, (r2 j h1).2, (m2 j h2).2⟩
  · have nd : (R ++ M).Nodup := List.nodup_append.mpr ⟨r1, m1, fun x hx y hy e => z ⟨x, hx, e ▸ hy⟩⟩
    have := nd_le nd (b := hs) fun x hx => by
      rcases List.mem_append.mp hx with w | w
      · exact (r2 x w).1
      · exact (m2 x w).1
    rw [List.length_append] at this
    omega
section
variable {hs : List Int} {hd : Int} {c c1 c2 : Int → Cg} {PL PL1 PL2 : Pln} {VT VT1 VT2 : Vot}
theorem Gr.refl (c : Int → Cg) (PL : Pln) (VT : Vot) : Gr c c PL PL VT VT := ⟨fun _ => bgt_irr _, fun _ _ e => e, fun _ _ e => e, fun _ _ e => .inl e⟩
theorem Gr.trans (x : Gr c c1 PL PL1 VT VT1) (y : Gr c1 c2 PL1 PL2 VT1 VT2) : Gr c c2 PL PL2 VT VT2 := ⟨fun h => bgt_tr (x.b h) (y.b h), fun q d e => y.p q d (x.p q d e), fun j q e => y.v j q (x.v j q e), fun j q e => by
  rcases y.n j q e with z | z
  · exact x.n j q z
  · exact .inr (bgt_tr (x.b j) z)⟩
theorem Bd.up {q : Int × Int} (x : Bd hs c q) (g : Gr c c1 PL PL1 VT VT1) : Bd hs c1 q := ⟨x.1, bgt_tr x.2.1 (g.b _), x.2.2⟩
theorem Pm.up {j : Int} {Q : Int × Int} {y : Yes} (x : Pm c VT j Q y) (g : Gr c c1 PL PL1 VT VT1) : Pm c1 VT1 j Q y := ⟨bgt_tr x.1 (g.b _), fun q e v => by
  rcases g.n j q v with z | z
  · exact x.2 q e z
  · rw [bgt_tr x.1 z] at e; cases e⟩
theorem Dead.up {q : Int × Int} (x : Dead hs c VT q) (g : Gr c c1 PL PL1 VT VT1) : Dead hs c1 VT1 q := by
  refine Mj.mono x fun j _ h => ⟨fun v => ?_, ?_⟩
  · rcases g.n j q v with z | z
    · exact h.1 z
    · rw [h.2] at z; cases z
  · cases z : bgt (c1 j).b (some q) with
    | true => rfl
    | false => rw [bgt_tr (g.b j) z] at h; exact absurd h.2 (by decide)
theorem ChY.up {y : Yes} {d : PyData} (x : ChY hs PL VT y d) (g : Gr c c1 PL PL1 VT VT1) : ChY hs PL1 VT1 y d := by
  obtain ⟨q, h1, h2, h3⟩ := x
  exact ⟨q, g.p q d h1, h2.mono fun j _ => g.v j q, h3⟩
theorem ChY.le {y y1 : Yes} {d : PyData} (x : ChY hs PL VT y d) (g : bgt (yb y) (yb y1) = false) : ChY hs PL VT y1 d := by
  obtain ⟨q, h1, h2, h3⟩ := x
  exact ⟨q, h1, h2, bgt_tr h3 g⟩
theorem ChY.ch {y : Yes} {d : PyData} (x : ChY hs PL VT y d) : Chos hs PL VT d := let ⟨q, h1, h2, _⟩ := x; ⟨q, h1, h2⟩
theorem Lt.up {j : Int} {b' : Option (Int × Int)} {y' : Yes} {vo' : Int} (x : Lt hs c PL VT j b' y' vo') (g : Gr c c1 PL PL1 VT VT1) : Lt hs c1 PL1 VT1 j b' y' vo' :=
  ⟨x.g, fun q e => (x.b q e).up g, fun q d e => g.p q d (x.y q d e), fun j e => let ⟨q, h1, h2⟩ := x.v j e; ⟨q, h1, g.v _ _ h2⟩, fun Q e => (x.p Q e).up g, x.v0⟩

theorem Iv.agree (i : Iv hs hd c PL VT) {d d' : PyData} (x : Chos hs PL VT d) (y : Chos hs PL VT d') : d = d' := by
  obtain ⟨q, h1, h2⟩ := x
  obtain ⟨r, k1, k2⟩ := y
  have key : ∀ {q r d d'}, PL q = some d → PL r = some d' → (Mj hs fun j => VT j q) → bgt (some r) (some q) = true → d = d' := fun {q r d d'} h1 k1 h2 g => by
    rcases i.sf r d' k1 q g with z | z
    · rw [h1] at z; exact Option.some.inj z
    · obtain ⟨j, _, w1, w2⟩ := h2.meet z
      exact absurd w1 w2.1
  cases g1 : bgt (some r) (some q) with
  | true => exact key h1 k1 h2 g1
  | false =>
    cases g2 : bgt (some q) (some r) with
    | true => exact (key k1 h1 k2 g2).symm
    | false =>
      have : q = r := Option.some.inj (bgt_anti g2 g1)
      rw [this, k1] at h1
      exact (Option.some.inj h1).symm

theorem Iv.above (i : Iv hs hd c PL VT) {y : Yes} {d d' : PyData} {q r : Int × Int} (x : ChY hs PL VT y d) (e : yb y = some r) (g : bgt (some q) (some r) = true) (p : PL q = some d') : d' = d := by
  obtain ⟨q0, h1, h2, h3⟩ := x
  rw [e] at h3
  have g0 : bgt (some q) (some q0) = true := by
    cases z : bgt (some q) (some q0) with
    | true => rfl
    | false => rw [bgt_tr z h3] at g; cases g
  rcases i.sf q d' p q0 g0 with z | z
  · rw [h1] at z; exact (Option.some.inj z).symm
  · obtain ⟨j, _, w1, w2⟩ := h2.meet z
    exact absurd w1 w2.1

theorem Iv.step (i : Iv hs hd c PL VT) {h : Int} {x : Cg} (e1 : c1 = fupd c h x) (g : Gr c c1 PL PL1 VT VT1)
    (bb : ∀ q, x.b = some q → Bd hs c1 q) (yy : ∀ q d, x.y = some (q, d) → PL1 q = some d ∧ VT1 h q) (yl : bgt (yb x.y) x.b = false)
    (rr : ∀ r ∈ x.rp, r.1 ∈ hs ∧ (∀ q d, r.2.2 = some (q, d) → PL1 q = some d) ∧ ∀ Q, x.b = some Q → Pm c1 VT1 r.1 Q r.2.2)
    (rk : (x.rp.map (·.1)).Nodup) (pl : ∀ q d, PL1 q = some d → Bd hs c1 q ∧ ((c1 q.2).b = some q → yb (c1 q.2).y = some q)) (vv : ∀ j : Nat, x.vo.toNat.testBit j = true → ∃ q, yb x.y = some q ∧ VT1 (j : Int) q)
    (ov : x.y ≠ none → x.vo.toNat.testBit h.toNat = true) (v0 : 0 ≤ x.vo) (vt : ∀ j q, VT1 j q → j ∈ hs ∧ bgt (some q) (yb (c1 j).y) = false ∧ ∃ d, PL1 q = some d)
    (sf : ∀ q d, PL1 q = some d → PL q = some d ∨ ∀ q', bgt (some q) (some q') = true → PL1 q' = some d ∨ Dead hs c1 VT1 q') (ch : x.ag ≠ .none → ChY hs PL1 VT1 x.y x.ag) (hf : half x.vo hd = true → x.ag ≠ .none) (nn : ∀ q d, PL1 q = some d → d ≠ .none) : Iv hs hd c1 PL1 VT1 := by
  have eh : c1 h = x := by rw [e1, fupd_eq]
  have ej : ∀ j, j ≠ h → c1 j = c j := fun j n => by rw [e1, fupd_ne n]
  refine ⟨fun j hj => ?_, fun j hj => ?_, fun j hj => ?_, fun j hj => ?_, fun j hj => ?_, pl, fun j hj => ?_, fun j hj => ?_, fun j hj => ?_, vt, fun q d e q' e' => ?_, fun j hj => ?_, fun j hj => ?_, nn⟩
  · by_cases z : j = h
    · rw [z, eh]; exact bb
    · rw [ej j z]; exact fun q e => (i.bb j hj q e).up g
  · by_cases z : j = h
    · rw [z, eh]; exact yy
    · rw [ej j z]; exact fun q d e => ⟨g.p _ _ (i.yy j hj q d e).1, g.v _ _ (i.yy j hj q d e).2⟩
  · by_cases z : j = h
    · rw [z, eh]; exact yl
    · rw [ej j z]; exact i.yl j hj
  · by_cases z : j = h
    · rw [z, eh]; exact rr
    · rw [ej j z]
      exact fun r hr => let ⟨h1, h3, h4⟩ := i.rr j hj r hr; ⟨h1, fun q d e => g.p _ _ (h3 q d e), fun Q e => (h4 Q e).up g⟩
  · by_cases z : j = h
    · rw [z, eh]; exact rk
    · rw [ej j z]; exact i.rk j hj
  · by_cases z : j = h
    · rw [z, eh]; exact vv
    · rw [ej j z]
      exact fun k e => let ⟨q, h1, h2⟩ := i.vv j hj k e; ⟨q, h1, g.v _ _ h2⟩
  · by_cases z : j = h
    · rw [z, eh]; exact ov
    · rw [ej j z]; exact i.ov j hj
  · by_cases z : j = h
    · rw [z, eh]; exact v0
    · rw [ej j z]; exact i.v0 j hj
  · rcases sf q d e with z | z
    · rcases i.sf q d z q' e' with w | w
      · exact .inl (g.p _ _ w)
      · exact .inr (w.up g)
    · exact z q' e'
  · by_cases z : j = h
    · rw [z, eh]; exact ch
    · rw [ej j z]; exact fun e => (i.ch j hj e).up g
  · by_cases z : j = h
    · rw [z, eh]; exact hf
    · rw [ej j z]; exact i.hf j hj
theorem rise_fupd {h : Int} {x : Cg} (r : bgt (c h).b x.b = false) : ∀ j, bgt (c j).b (fupd c h x j).b = false := fun j => by
  by_cases z : j = h
  · rw [z, fupd_eq]; exact r
  · rw [fupd_ne z]; exact bgt_irr _

theorem Iv.lt (i : Iv hs hd c PL VT) {h : Int} (hh : h ∈ hs) : Lt hs c PL VT h (c h).b (c h).y (c h).vo :=
  ⟨hh, i.bb h hh, fun q d e => (i.yy h hh q d e).1, i.vv h hh, fun Q e => ⟨by rw [e]; exact bgt_irr _, fun q _ v => (i.vt h q v).2.1⟩, i.v0 h hh⟩

def bgn (me : Int) (c : Cg) (s : Int) (dr : PyData) : Cg := ⟨some (bl c.b + s, me), c.y, c.vo, c.ag, [(me, dr, c.y)]⟩
theorem Iv.begin (i : Iv hs hd c PL VT) {h s : Int} {dr : PyData} (hh : h ∈ hs) (s1 : 1 ≤ s) : Iv hs hd (fupd c h (bgn h (c h) s dr)) PL VT ∧ Gr c (fupd c h (bgn h (c h) s dr)) PL PL VT VT := by
  have gt : bgt (some (bl (c h).b + s, h)) (c h).b = true := by
    cases e : (c h).b with
    | none => rfl
    | some q => exact (bgt_iff _ _).mpr (.inl (by show q.1 < q.1 + s; omega))
  have g : Gr c (fupd c h (bgn h (c h) s dr)) PL PL VT VT := ⟨rise_fupd (bgt_asym gt), fun _ _ e => e, fun _ _ e => e, fun _ _ e => .inl e⟩
  have b0 : 0 ≤ bl (c h).b := by
    cases e : (c h).b with
    | none => exact Int.le_refl _
    | some q => exact (i.bb h hh q e).2.2
  refine ⟨i.step rfl g (fun q e => ?_) (i.yy h hh) (bgt_tr (i.yl h hh) (bgt_asym gt)) (fun r hr => ?_) (by simp [bgn]) (fun q d e => ?_) (i.vv h hh) (i.ov h hh) (i.v0 h hh) (fun j q v => ?_) (fun q d e => .inl e) (i.ch h hh) (i.hf h hh) i.nn, g⟩
  · cases e
    exact ⟨hh, by show bgt _ (fupd c h _ h).b = false; rw [fupd_eq]; exact bgt_irr _, by show 0 ≤ bl (c h).b + s; omega⟩
  · rw [List.mem_singleton.mp hr]
    refine ⟨hh, fun q d e => (i.yy h hh q d e).1, fun Q e => ?_⟩
    cases e
    exact ⟨by rw [fupd_eq]; exact bgt_irr _, fun q _ v => (i.vt h q v).2.1⟩
  · obtain ⟨p1, p2⟩ := i.pl q d e
    refine ⟨p1.up g, fun w => ?_⟩
    by_cases z : q.2 = h
    · rw [z, fupd_eq] at w
      have w : some (bl (c h).b + s, h) = some q := w
      rw [w] at gt
      have := p1.2.1
      rw [z, gt] at this
      cases this
    · rw [fupd_ne z] at w ⊢
      exact p2 w
  · obtain ⟨h1, h2, h3⟩ := i.vt j q v
    refine ⟨h1, ?_, h3⟩
    by_cases z : j = h
    · rw [z, fupd_eq]; rw [z] at h2; exact h2
    · rw [fupd_ne z]; exact h2
end
end
end K64


namespace K64
open PySem L2
section
variable {P : Program} {w : World} {K : PySem.W.Frag} {mg : Str → Option Value} {base : Heap}

structure Gp (hs : List Int) (hd : Int) : Prop where
  h0 : 0 ≤ hd
  e : GB.hl hd = hs
  up : hs.Pairwise (· < ·)
  rg : ∀ h ∈ hs, 0 ≤ h ∧ h < 63
theorem Gp.nd {hs : List Int} {hd : Int} (G : Gp hs hd) : hs.Nodup := G.up.imp fun h => by omega
theorem bor_bit {a b : Int} (a0 : 0 ≤ a) (b0 : 0 ≤ b) (i : Nat) : (Builtin.bitOr a b).toNat.testBit i = (a.toNat.testBit i || b.toNat.testBit i) := by rw [or_nat a0 b0, Int.toNat_natCast, Nat.testBit_or]
theorem bor_nn {a b : Int} (a0 : 0 ≤ a) (b0 : 0 ≤ b) : 0 ≤ Builtin.bitOr a b := by rw [or_nat a0 b0]; exact Int.natCast_nonneg _
theorem pow_nn (h : Int) : (0 : Int) ≤ 2 ^ h.toNat := Int.le_of_lt (Int.pow_pos (by decide))
theorem pow_bit (h : Int) (j : Nat) : ((2 : Int) ^ h.toNat).toNat.testBit j = decide (h.toNat = j) := by
  rw [show (2 : Int) ^ h.toNat = ((2 ^ h.toNat : Nat) : Int) from (Int.natCast_pow 2 h.toNat).symm, Int.toNat_natCast, Nat.testBit_two_pow]
theorem half_mj {hs : List Int} {v hd : Int} (G : Gp hs hd) (v0 : 0 ≤ v) : half v hd = true ↔ hs.length < 2 * (hs.filter fun h => v.toNat.testBit h.toNat).length := by
  have e : GB.hl (Builtin.bitAnd v hd) = (GB.hl hd).filter fun h => v.toNat.testBit h.toNat := by
    rw [and_nat v0 G.h0]
    unfold GB.hl GB.hnds
    rw [Int.toNat_natCast, List.filter_map, List.filter_filter]
    congr 1
    apply List.filter_congr
    intro i _
    rw [Nat.testBit_and]
    rfl
  unfold half
  rw [e, G.e, decide_eq_true_iff]
  omega
theorem seeA_keep {ag : PyData} {y : Yes} {vo hd : Int} (n : ag ≠ .none) : seeA ag y vo hd = ag := by
  cases ag with
  | none => exact absurd rfl n
  | _ => rfl
theorem seeA_none (y : Yes) (vo hd : Int) : seeA .none y vo hd = if half vo hd = true then plD y else .none := rfl
theorem putA_keys {α : Type} : ∀ (m : List (Int × α)) (k : Int) (v : α), (putA m k v).map (·.1) = if k ∈ m.map (·.1) then m.map (·.1) else m.map (·.1) ++ [k]
  | [], k, v => rfl
  | p :: m, k, v => by
    show ((if p.1 = k then (p.1, v) :: m else p :: putA m k v).map (·.1)) = _
    by_cases z : p.1 = k
    · rw [if_pos z, if_pos (by rw [← z]; exact List.mem_cons_self)]; rfl
    · rw [if_neg z, List.map_cons, putA_keys m k v, List.map_cons]
      by_cases w : k ∈ m.map (·.1)
      · rw [if_pos w, if_pos (List.mem_cons_of_mem _ w)]
      · rw [if_neg w, if_neg (fun u => (List.mem_cons.mp u).elim (fun u => z u.symm) w)]; rfl
theorem putA_nd {α : Type} {m : List (Int × α)} {k : Int} {v : α} (h : (m.map (·.1)).Nodup) : ((putA m k v).map (·.1)).Nodup := by
  rw [putA_keys]
  split
  · exact h
  · rename_i w
    exact List.nodup_append.mpr ⟨h, by simp, fun x hx y hy e => w (by rw [← List.mem_singleton.mp hy, ← e]; exact hx)⟩
section
variable {hs : List Int} {hd : Int} {c c1 c2 : Int → Cg} {PL PL1 PL2 : Pln} {VT VT1 VT2 : Vot}
theorem ag_ok (G : Gp hs hd) {ag : PyData} {y1 : Yes} {v1 : Int} (v0 : 0 ≤ v1) (a1 : ag ≠ .none → ChY hs PL VT y1 ag) (yy : ∀ q d, y1 = some (q, d) → PL q = some d) (vv : ∀ j : Nat, v1.toNat.testBit j = true → ∃ q, yb y1 = some q ∧ VT (j : Int) q) (nn : ∀ q d, PL q = some d → d ≠ .none) :
    (seeA ag y1 v1 hd ≠ .none → ChY hs PL VT y1 (seeA ag y1 v1 hd)) ∧ (half v1 hd = true → seeA ag y1 v1 hd ≠ .none) := by
  by_cases z : ag = .none
  · rw [z, seeA_none]
    by_cases w : half v1 hd = true
    · rw [if_pos w]
      have m := (half_mj G v0).mp w
      obtain ⟨j, hj⟩ : ∃ j, j ∈ hs.filter fun h => v1.toNat.testBit h.toNat := by
        cases e : hs.filter fun h => v1.toNat.testBit h.toNat with
        | nil => rw [e] at m; cases m
        | cons j l => exact ⟨j, List.mem_cons_self⟩
      obtain ⟨q, e1, _⟩ := vv _ (List.mem_filter.mp hj).2
      cases y1 with
      | none => cases e1
      | some p =>
        obtain ⟨q', d⟩ := p
        have e1 : q' = q := Option.some.inj e1
        subst e1
        have pd := yy _ _ rfl
        refine ⟨fun _ => ⟨q', pd, ⟨_, G.nd.filter _, fun j hj => ?_, m⟩, bgt_irr _⟩, fun _ => nn _ _ pd⟩
        obtain ⟨h1, h2⟩ := List.mem_filter.mp hj
        obtain ⟨r, r1, r2⟩ := vv _ h2
        have r1 : q' = r := Option.some.inj r1
        rw [Int.toNat_of_nonneg (G.rg j h1).1, ← r1] at r2
        exact ⟨h1, r2⟩
    · rw [if_neg w]
      exact ⟨fun u => absurd rfl u, fun u => absurd u w⟩
  · rw [seeA_keep z]
    exact ⟨fun _ => a1 z, fun _ => z⟩
theorem see_cases (b1 : Option (Int × Int)) (y : Yes) (vo : Int) (y' : Yes) (vo' me : Int) : ((seeY b1 y vo y' vo' me).1 = y ∧ (seeY b1 y vo y' vo' me).2 = vo) ∨
    (∃ q d, y' = some (q, d) ∧ b1 = some q ∧ bgt (some q) (yb y) = true ∧ (seeY b1 y vo y' vo' me).1 = some (q, d) ∧ (seeY b1 y vo y' vo' me).2 = Builtin.bitOr vo' (2 ^ me.toNat)) ∨
    ∃ q d, y' = some (q, d) ∧ yb y = some q ∧ (seeY b1 y vo y' vo' me).1 = y ∧ (seeY b1 y vo y' vo' me).2 = Builtin.bitOr vo vo' := by
  unfold seeY
  cases y' with
  | none => exact .inl ⟨rfl, rfl⟩
  | some p =>
    obtain ⟨q, d⟩ := p
    dsimp only
    split
    · rename_i w
      exact .inr (.inl ⟨q, d, rfl, w.1, w.2, rfl, rfl⟩)
    · split
      · rename_i w
        exact .inr (.inr ⟨q, d, rfl, w, rfl, rfl⟩)
      · exact .inl ⟨rfl, rfl⟩
theorem see_ok (G : Gp hs hd) (i : Iv hs hd c PL VT) {h gi : Int} (hh : h ∈ hs) {b' : Option (Int × Int)} {y' : Yes} {vo' : Int} (l : Lt hs c PL VT gi b' y' vo') {y1 : Yes} {v1 : Int} (e1 : (seeY (gtr (c h).b b') (c h).y (c h).vo y' vo' h).1 = y1) (e2 : (seeY (gtr (c h).b b') (c h).y (c h).vo y' vo' h).2 = v1) :
    ∃ VT1 : Vot, (∀ j q, VT j q → VT1 j q) ∧ (∀ j q, VT1 j q → VT j q ∨ (j = h ∧ gtr (c h).b b' = some q ∧ yb y1 = some q ∧ ∃ d, PL q = some d)) ∧ (∀ q d, y1 = some (q, d) → PL q = some d ∧ VT1 h q) ∧ bgt (yb y1) (gtr (c h).b b') = false ∧ bgt (yb (c h).y) (yb y1) = false ∧
      (∀ j : Nat, v1.toNat.testBit j = true → ∃ q, yb y1 = some q ∧ VT1 (j : Int) q) ∧ (y1 ≠ none → v1.toNat.testBit h.toNat = true) ∧ 0 ≤ v1 := by
  have yl : bgt (yb (c h).y) (gtr (c h).b b') = false := bgt_tr (i.yl h hh) (gtr_ge _ _)
  have v0 := i.v0 h hh
  rcases see_cases (gtr (c h).b b') (c h).y (c h).vo y' vo' h with ⟨w1, w2⟩ | ⟨q, d, w1, w2, w3, w4, w5⟩ | ⟨q, d, w1, w2, w3, w4⟩
  · rw [e1] at w1
    rw [e2] at w2
    subst w1 w2
    exact ⟨VT, fun _ _ e => e, fun _ _ e => .inl e, i.yy h hh, yl, bgt_irr _, i.vv h hh, i.ov h hh, v0⟩
  · rw [e1] at w4
    rw [e2] at w5
    subst w4 w5
    have hn : ((h.toNat : Nat) : Int) = h := Int.toNat_of_nonneg (G.rg h hh).1
    have pq := l.y q d w1
    refine ⟨fun j r => VT j r ∨ (j = h ∧ r = q), fun _ _ e => .inl e, fun j r e => ?_, fun r d' e => ?_, ?_, bgt_asym w3, fun j e => ?_, fun _ => ?_, bor_nn l.v0 (pow_nn h)⟩
    · rcases e with e | ⟨e, rfl⟩
      · exact .inl e
      · exact .inr ⟨e, w2, rfl, d, pq⟩
    · cases e
      exact ⟨pq, .inr ⟨rfl, rfl⟩⟩
    · rw [w2]; exact bgt_irr _
    · rw [bor_bit l.v0 (pow_nn h), Bool.or_eq_true, pow_bit, decide_eq_true_iff] at e
      rcases e with e | e
      · obtain ⟨r, r1, r2⟩ := l.v j e
        rw [w1] at r1
        exact ⟨r, r1, .inl r2⟩
      · exact ⟨q, rfl, .inr ⟨by rw [← e]; exact hn, rfl⟩⟩
    · rw [bor_bit l.v0 (pow_nn h), pow_bit, decide_eq_true rfl, Bool.or_true]
  · rw [e1] at w3
    rw [e2] at w4
    subst w3 w4
    refine ⟨VT, fun _ _ e => e, fun _ _ e => .inl e, i.yy h hh, yl, bgt_irr _, fun j e => ?_, fun n => ?_, bor_nn v0 l.v0⟩
    · rw [bor_bit v0 l.v0, Bool.or_eq_true] at e
      rcases e with e | e
      · exact i.vv h hh j e
      · obtain ⟨r, r1, r2⟩ := l.v j e
        rw [w1] at r1
        exact ⟨r, w2.trans r1, r2⟩
    · rw [bor_bit v0 l.v0, i.ov h hh n, Bool.true_or]

def rcv (me hd : Int) (c : Cg) (g : Int) (b' : Option (Int × Int)) (y' : Yes) (vo' : Int) (dr : PyData) : Cg :=
  ⟨gtr c.b b', (seeY (gtr c.b b') c.y c.vo y' vo' me).1, (seeY (gtr c.b b') c.y c.vo y' vo' me).2, seeA c.ag (seeY (gtr c.b b') c.y c.vo y' vo' me).1 (seeY (gtr c.b b') c.y c.vo y' vo' me).2 hd, rcvR c.b b' (seeY (gtr c.b b') c.y c.vo y' vo' me).1 me c.rp g dr y'⟩
theorem rcvR_in {b b' : Option (Int × Int)} {y1 y' : Yes} {me g : Int} {rp : List (Int × PyData × Yes)} {dr : PyData} {r : Int × PyData × Yes} (hr : r ∈ rcvR b b' y1 me rp g dr y') : (r = (g, dr, y') ∧ b' = gtr b b') ∨ (r ∈ rp ∧ gtr b b' = b) := by
  have old : r ∈ gtR b b' rp → r ∈ rp ∧ gtr b b' = b := fun h => by
    unfold gtR at h
    by_cases z : bgt b' b = true
    · rw [if_pos z] at h; cases h
    · rw [if_neg z] at h; exact ⟨h, if_neg z⟩
  unfold rcvR at hr
  split at hr
  · rename_i w
    rcases putA_in _ _ _ _ hr with u | u
    · exact .inl ⟨u, w.1⟩
    · exact .inr (old u)
  · exact .inr (old hr)
theorem Iv.receive (G : Gp hs hd) (i : Iv hs hd c PL VT) {h gi : Int} (hh : h ∈ hs) {b' : Option (Int × Int)} {y' : Yes} {vo' : Int} (l : Lt hs c PL VT gi b' y' vo') (dr : PyData) :
    ∃ VT1, Iv hs hd (fupd c h (rcv h hd (c h) gi b' y' vo' dr)) PL VT1 ∧ Gr c (fupd c h (rcv h hd (c h) gi b' y' vo' dr)) PL PL VT VT1 ∧ ∀ j q, VT1 j q → VT j q ∨ (j = h ∧ (rcv h hd (c h) gi b' y' vo' dr).b = some q ∧ yb (rcv h hd (c h) gi b' y' vo' dr).y = some q) := by
  generalize e1 : (seeY (gtr (c h).b b') (c h).y (c h).vo y' vo' h).1 = y1
  generalize e2 : (seeY (gtr (c h).b b') (c h).y (c h).vo y' vo' h).2 = v1
  obtain ⟨VT1, s1, s2, s3, s4, s5, s6, s7, s8⟩ := see_ok G i hh l e1 e2
  have eX : rcv h hd (c h) gi b' y' vo' dr = ⟨gtr (c h).b b', y1, v1, seeA (c h).ag y1 v1 hd, rcvR (c h).b b' y1 h (c h).rp gi dr y'⟩ := by
    unfold rcv; rw [e1, e2]
  rw [eX]
  have g : Gr c (fupd c h ⟨gtr (c h).b b', y1, v1, seeA (c h).ag y1 v1 hd, rcvR (c h).b b' y1 h (c h).rp gi dr y'⟩) PL PL VT VT1 := ⟨rise_fupd (gtr_ge _ _), fun _ _ e => e, s1, fun j q v => by
    rcases s2 j q v with z | ⟨z1, z2, _⟩
    · exact .inl z
    · exact .inr (by rw [z1, ← z2]; exact gtr_ge _ _)⟩
  obtain ⟨a1, a2⟩ := ag_ok (PL := PL) (VT := VT1) (ag := (c h).ag) G s8 (fun n => ((i.ch h hh n).up g).le s5) (fun q d e => (s3 q d e).1) s6 i.nn
  refine ⟨VT1, i.step rfl g (fun q e => ?_) s3 s4 (fun r hr => ?_) ?_ (fun q d e => ?_) s6 s7 s8 (fun j q v => ?_) (fun q d e => .inl e) a1 a2 i.nn, g, fun j q v => ?_⟩
  · have e : gtr (c h).b b' = some q := e
    unfold gtr at e
    split at e
    · exact (l.b q e).up g
    · exact (i.bb h hh q e).up g
  · rcases rcvR_in hr with ⟨rfl, w⟩ | ⟨w1, w2⟩
    · exact ⟨l.g, fun q d e => l.y q d e, fun Q e => (l.p Q (w.trans e)).up g⟩
    · obtain ⟨h1, h3, h4⟩ := i.rr h hh r w1
      exact ⟨h1, h3, fun Q e => (h4 Q (w2.symm.trans e)).up g⟩
  · show ((rcvR (c h).b b' y1 h (c h).rp gi dr y').map (·.1)).Nodup
    have o : ((gtR (c h).b b' (c h).rp).map (·.1)).Nodup := by
      unfold gtR
      split
      · exact .nil
      · exact i.rk h hh
    unfold rcvR
    split
    · exact putA_nd o
    · exact o
  · obtain ⟨p1, p2⟩ := i.pl q d e
    refine ⟨p1.up g, fun w => ?_⟩
    by_cases z : q.2 = h
    · rw [z, fupd_eq] at w ⊢
      have w : gtr (c h).b b' = some q := w
      show yb y1 = some q
      have eb : (c h).b = some q := by
        unfold gtr at w
        split at w
        · rename_i u
          have := (l.b q w).2.1
          rw [z, ← w, u] at this
          cases this
        · exact w
      rw [z] at p2
      rw [p2 eb] at s5
      rw [w] at s4
      exact (bgt_anti s4 s5)
    · rw [fupd_ne z] at w ⊢
      exact p2 w
  · rcases s2 j q v with z | ⟨z1, z2, z3, z4⟩
    · obtain ⟨h1, h2, h3⟩ := i.vt j q z
      refine ⟨h1, ?_, h3⟩
      by_cases w : j = h
      · rw [w, fupd_eq]; rw [w] at h2; exact bgt_tr h2 s5
      · rw [fupd_ne w]; exact h2
    · refine ⟨z1 ▸ hh, ?_, z4⟩
      rw [z1, fupd_eq]
      show bgt (some q) (yb y1) = false
      rw [z3]
      exact bgt_irr _
  · rcases s2 j q v with z | ⟨z1, z2, z3, _⟩
    · exact .inl z
    · exact .inr ⟨z1, z2, z3⟩
theorem fupd_id {α : Type} (f : Int → α) (h : Int) : fupd f h (f h) = f := by
  funext j
  by_cases z : j = h
  · rw [z, fupd_eq]
  · rw [fupd_ne z]
theorem eno_mj {ks : List Int} {dd : Int} (G : Gp hs hd) (e : eno hd dd ks = true) : Mj hs fun j => j ∈ ks := by
  unfold eno at e
  rw [Bool.and_eq_true, decide_eq_true_iff, decide_eq_true_iff, G.e] at e
  exact ⟨hs.filter fun h => decide (h ∈ ks), G.nd.filter _, fun j hj => ⟨(List.mem_filter.mp hj).1, of_decide_eq_true (List.mem_filter.mp hj).2⟩, e.2⟩
theorem gat_get {b : Option (Int × Int)} {y : Yes} {me : Int} (e : gat b y me = true) : ∃ q, b = some q ∧ q.2 = me ∧ yb y ≠ some q := by
  cases b with
  | none => cases e
  | some q =>
    have e : (decide (q.2 = me) && !decide (yb y = some q)) = true := e
    rw [Bool.and_eq_true, Bool.not_eq_true', decide_eq_false_iff_not, decide_eq_true_iff] at e
    exact ⟨q, rfl, e.1, e.2⟩
theorem Iv.propose (G : Gp hs hd) (i : Iv hs hd c PL VT) {h : Int} (hh : h ∈ hs) (dd : Int) (k : Nat) : ∃ PL1 VT1, Iv hs hd (fupd c h (prC h hd dd (c h) k)) PL1 VT1 ∧ Gr c (fupd c h (prC h hd dd (c h) k)) PL PL1 VT VT1 ∧
    (∀ j q, VT1 j q → VT j q ∨ (fires h hd dd (c h) = true ∧ j = h ∧ yb (prC h hd dd (c h) k).y = some q)) ∧ (fires h hd dd (c h) = false → PL1 = PL) ∧ (fires h hd dd (c h) = true → ∃ q, (c h).b = some q ∧ q.2 = h ∧ PL q = none ∧ PL1 = fun q' => if q' = q then some (plnN (c h) k) else PL q') := by
  cases ef : fires h hd dd (c h) with
  | false =>
    have e1 : prC h hd dd (c h) k = c h := by unfold prC; rw [ef]; rfl
    rw [e1, fupd_id]
    exact ⟨PL, VT, i, .refl _ _ _, fun _ _ e => .inl e, (fun _ => rfl), (fun z => nomatch z)⟩
  | true =>
    have e0 := ef
    unfold fires at e0
    rw [Bool.and_eq_true] at e0
    obtain ⟨q, eb, o, ny⟩ := gat_get e0.1
    have fr : PL q = none := by
      cases z : PL q with
      | none => rfl
      | some d => exact absurd (o ▸ (i.pl q d z).2 (by rw [o]; exact eb)) ny
    have e1 : prC h hd dd (c h) k = ⟨(c h).b, some (q, plnN (c h) k), 2 ^ h.toNat, seeA (c h).ag (some (q, plnN (c h) k)) (2 ^ h.toNat) hd, (c h).rp⟩ := by
      unfold prC
      rw [if_pos ef]
      rw [show (c h).b.getD (0, 0) = q by rw [eb]; rfl]
    rw [e1]
    have hn : ((h.toNat : Nat) : Int) = h := Int.toNat_of_nonneg (G.rg h hh).1
    -- the plan is that of the greatest yes, or new
    have pd : plnN (c h) k ≠ .none ∧ (gOf (c h).rp = none ∨ ∃ q', gOf (c h).rp = some (q', plnN (c h) k) ∧ PL q' = some (plnN (c h) k)) := by
      unfold plnN
      cases eg : gOf (c h).rp with
      | none => exact ⟨(by intro z; cases z), .inl rfl⟩
      | some p =>
        obtain ⟨q', d⟩ := p
        have : PL q' = some d := by
          rcases (gYes_ge ((c h).rp.map (·.2.2)) none).2.2 with z | z
          · have : gOf (c h).rp = none := z
            rw [eg] at this; cases this
          · have z : gOf (c h).rp ∈ (c h).rp.map (·.2.2) := z
            rw [eg] at z
            obtain ⟨r, r1, r2⟩ := List.mem_map.mp z
            exact (i.rr h hh r r1).2.1 q' d r2
        exact ⟨i.nn _ _ this, .inr ⟨q', rfl, this⟩⟩
    generalize plnN (c h) k = d at pd ⊢
    have g : Gr c (fupd c h ⟨(c h).b, some (q, d), 2 ^ h.toNat, seeA (c h).ag (some (q, d)) (2 ^ h.toNat) hd, (c h).rp⟩) PL (fun q' => if q' = q then some d else PL q') VT (fun j r => VT j r ∨ (j = h ∧ r = q)) := ⟨rise_fupd (bgt_irr _), fun q' d' z => by
      rw [if_neg (fun w => by rw [w, fr] at z; cases z)]; exact z, fun _ _ e => .inl e, fun j r e => by
      rcases e with e | ⟨e1, e2⟩
      · exact .inl e
      · exact .inr (by rw [e1, e2, eb]; exact bgt_irr _)⟩
    have old : ∀ q' d', (if q' = q then some d else PL q') = some d' → (q' = q ∧ d' = d) ∨ (q' ≠ q ∧ PL q' = some d') := fun q' d' e => by
      by_cases z : q' = q
      · rw [if_pos z] at e; exact .inl ⟨z, (Option.some.inj e).symm⟩
      · rw [if_neg z] at e; exact .inr ⟨z, e⟩
    have vv : ∀ j : Nat, ((2 : Int) ^ h.toNat).toNat.testBit j = true → ∃ r, yb (some (q, d)) = some r ∧ (VT (j : Int) r ∨ ((j : Int) = h ∧ r = q)) := fun j e => by
      rw [pow_bit, decide_eq_true_iff] at e
      exact ⟨q, rfl, .inr ⟨by rw [← e]; exact hn, rfl⟩⟩
    have nn : ∀ q' d', (if q' = q then some d else PL q') = some d' → d' ≠ .none := fun q' d' e => by
      rcases old q' d' e with ⟨_, z⟩ | ⟨_, z⟩
      · rw [z]; exact pd.1
      · exact i.nn _ _ z
    obtain ⟨a1, a2⟩ := ag_ok (PL := fun q' => if q' = q then some d else PL q') (VT := fun j r => VT j r ∨ (j = h ∧ r = q)) (ag := (c h).ag) (y1 := some (q, d)) G (pow_nn h) (fun n => ((i.ch h hh n).up g).le (by have := i.yl h hh; rw [eb] at this; exact this)) (fun q' d' e => by cases e; exact if_pos rfl) vv nn
    refine ⟨_, _, i.step rfl g (fun q' e => (i.bb h hh q' e).up g) (fun q' d' e => ?_) (by rw [eb]; exact bgt_irr _) (fun r hr => ?_) (i.rk h hh) (fun q' d' e => ?_) vv (fun _ => ?_) (pow_nn h) (fun j r v => ?_) (fun q' d' e => ?_) a1 a2 nn, g, fun j r v => ?_, (fun z => nomatch z), fun _ => ⟨q, eb, o, fr, rfl⟩⟩
    · cases e
      exact ⟨if_pos rfl, .inr ⟨rfl, rfl⟩⟩
    · obtain ⟨h1, h3, h4⟩ := i.rr h hh r hr
      exact ⟨h1, fun q' d' e => g.p _ _ (h3 q' d' e), fun Q e => (h4 Q e).up g⟩
    · rcases old q' d' e with ⟨z, _⟩ | ⟨z, w⟩
      · rw [z]
        refine ⟨(i.bb h hh q eb).up g, fun _ => ?_⟩
        rw [o, fupd_eq]; rfl
      · obtain ⟨p1, p2⟩ := i.pl q' d' w
        refine ⟨p1.up g, fun v => ?_⟩
        by_cases u : q'.2 = h
        · rw [u, fupd_eq] at v
          have v : (c h).b = some q' := v
          rw [eb] at v
          exact absurd (Option.some.inj v).symm z
        · rw [fupd_ne u] at v ⊢
          exact p2 v
    · show ((2 : Int) ^ h.toNat).toNat.testBit h.toNat = true
      rw [pow_bit, decide_eq_true rfl]
    · rcases v with v | ⟨v1, v2⟩
      · obtain ⟨h1, h2, d', h3⟩ := i.vt j r v
        refine ⟨h1, ?_, d', g.p _ _ h3⟩
        by_cases w : j = h
        · rw [w, fupd_eq]
          rw [w] at h2
          have := bgt_tr h2 (i.yl h hh)
          rw [eb] at this
          exact this
        · rw [fupd_ne w]; exact h2
      · refine ⟨v1 ▸ hh, ?_, d, by rw [v2]; exact if_pos rfl⟩
        rw [v1, v2, fupd_eq]
        exact bgt_irr _
    · rcases old q' d' e with ⟨z, w⟩ | ⟨_, w⟩
      · refine .inr fun r gr => ?_
        rw [z] at gr
        rw [w]
        have mj := eno_mj G e0.2
        have far : (∀ r' ∈ (c h).rp, ¬ bgt (some r) (yb r'.2.2) = false) → Dead hs c VT r := fun no => mj.mono fun j _ hj => by
          obtain ⟨r', m1, rfl⟩ := List.mem_map.mp hj
          have pm := (i.rr h hh r' m1).2.2 q eb
          refine ⟨fun v => no r' m1 (pm.2 r gr v), ?_⟩
          cases y : bgt (c r'.1).b (some r) with
          | true => rfl
          | false => rw [bgt_tr pm.1 y] at gr; cases gr
        have ge : ∀ r' ∈ (c h).rp, bgt (yb r'.2.2) (yb (gOf (c h).rp)) = false := fun r' m1 => (gYes_ge ((c h).rp.map (·.2.2)) none).2.1 _ (List.mem_map_of_mem m1)
        rcases pd.2 with eg | ⟨q2, eg, pq⟩
        · refine .inr (Dead.up (far fun r' m1 v => ?_) g)
          have := bgt_tr v (ge r' m1)
          rw [eg] at this
          cases this
        · rw [eg] at ge
          cases y1 : bgt (some r) (some q2) with
          | true =>
            refine .inr (Dead.up (far fun r' m1 v => ?_) g)
            have := bgt_tr v (ge r' m1)
            have e9 : bgt (some r) (some q2) = false := this
            rw [y1] at e9
            cases e9
          | false =>
            cases y2 : bgt (some q2) (some r) with
            | true =>
              rcases i.sf q2 d pq r y2 with v | v
              · exact .inl (g.p _ _ v)
              · exact .inr (v.up g)
            | false =>
              have : r = q2 := Option.some.inj (bgt_anti y1 y2)
              rw [this]
              exact .inl (g.p _ _ pq)
      · exact .inl w
    · rcases v with v | ⟨v1, v2⟩
      · exact .inl v
      · exact .inr ⟨rfl, v1, by rw [v2]; rfl⟩
end
end
end K64


namespace K64
open PySem L2
section
variable {P : Program} {w : World} {K : PySem.W.Frag} {mg : Str → Option Value} {base : Heap}

structure Zt where
  c : Int → Cg
  an : List PyData

def ppz (hd dd h : Int) (z : Zt) : Zt := ⟨fupd z.c h (prC h hd dd (z.c h) z.an.length), prN h hd dd (z.c h) z.an⟩

def Ai (PL : Pln) (an : List PyData) : Prop := ∀ q d, PL q = some d → d ∈ an

structure Dd (hs : List Int) (hd h : Int) (z z' : Zt) (PL PL1 : Pln) (VT VT1 : Vot) : Prop where
  iv : Iv hs hd z'.c PL1 VT1
  ai : Ai PL1 z'.an
  gr : Gr z.c z'.c PL PL1 VT VT1
  ot : ∀ j, j ≠ h → z'.c j = z.c j
  nw : ∀ j q, VT1 j q → VT j q ∨ (j = h ∧ yb (z'.c h).y = some q)
  ag : (z.c h).ag ≠ .none → (z'.c h).ag = (z.c h).ag
theorem prC_no {hd me dd : Int} {g : Cg} {k : Nat} (h : fires me hd dd g = false) : prC me hd dd g k = g := by unfold prC; rw [h]; rfl
theorem prN_len (me hd dd : Int) (c : Cg) (an : List PyData) : (prN me hd dd c an).length ≤ an.length + 1 := by
  unfold prN
  split
  · split
    · rw [List.length_append]; exact Nat.le_refl _
    · omega
  · omega
section
variable {hs : List Int} {hd : Int} {z z' z2 : Zt} {PL PL1 PL2 : Pln} {VT VT1 VT2 : Vot} {h : Int}
theorem Dd.refl (i : Iv hs hd z.c PL VT) (a : Ai PL z.an) (h : Int) : Dd hs hd h z z PL PL VT VT := ⟨i, a, .refl _ _ _, fun _ _ => rfl, fun _ _ e => .inl e, fun _ => rfl⟩
theorem Dd.begin (i : Iv hs hd z.c PL VT) (a : Ai PL z.an) (hh : h ∈ hs) {s : Int} {dr : PyData} (s1 : 1 ≤ s) : Dd hs hd h z ⟨fupd z.c h (bgn h (z.c h) s dr), z.an⟩ PL PL VT VT := by
  obtain ⟨i1, g1⟩ := i.begin (dr := dr) hh s1
  refine ⟨i1, a, g1, fun j n => fupd_ne n, fun _ _ e => .inl e, fun _ => ?_⟩
  show (fupd z.c h _ h).ag = _
  rw [fupd_eq]; rfl
theorem Iv.gOf_pl {c : Int → Cg} (i : Iv hs hd c PL VT) {h : Int} (hh : h ∈ hs) {q : Int × Int} {d : PyData} (e : gOf (c h).rp = some (q, d)) : PL q = some d := by
  rcases (gYes_ge ((c h).rp.map (·.2.2)) none).2.2 with z | z
  · have : gOf (c h).rp = none := z
    rw [e] at this; cases this
  · have z : gOf (c h).rp ∈ (c h).rp.map (·.2.2) := z
    rw [e] at z
    obtain ⟨r, r1, r2⟩ := List.mem_map.mp z
    exact (i.rr h hh r r1).2.1 q d r2

theorem ppz_ok (G : Gp hs hd) (i : Iv hs hd z.c PL VT) (a : Ai PL z.an) (hh : h ∈ hs) (dd : Int) : ∃ PL1 VT1, Dd hs hd h z (ppz hd dd h z) PL PL1 VT VT1 ∧ ∀ j q, VT1 j q → VT j q ∨ (fires h hd dd (z.c h) = true ∧ j = h ∧ yb ((ppz hd dd h z).c h).y = some q) := by
  obtain ⟨PL1, VT1, i1, g1, v1, f0, f1⟩ := i.propose G hh dd z.an.length
  have eh : (ppz hd dd h z).c h = prC h hd dd (z.c h) z.an.length := fupd_eq
  have nw : ∀ j q, VT1 j q → VT j q ∨ (fires h hd dd (z.c h) = true ∧ j = h ∧ yb ((ppz hd dd h z).c h).y = some q) := fun j q v => by rw [eh]; exact v1 j q v
  refine ⟨PL1, VT1, ⟨i1, ?_, g1, fun j n => fupd_ne n, fun j q v => (nw j q v).imp id And.right, fun n => ?_⟩, nw⟩
  · show Ai PL1 (prN h hd dd (z.c h) z.an)
    unfold prN
    cases ef : fires h hd dd (z.c h) with
    | false =>
      rw [if_neg Bool.false_ne_true, f0 ef]
      exact a
    | true =>
      obtain ⟨q, eb, o, fr, e1⟩ := f1 ef
      rw [if_pos rfl]
      unfold plnN at e1
      cases eg : gOf (z.c h).rp with
      | none =>
        rw [eg] at e1
        intro q' d e
        rw [e1] at e
        dsimp only at e
        by_cases w : q' = q
        · rw [if_pos w] at e
          cases e
          exact List.mem_append_right _ (List.mem_singleton.mpr rfl)
        · rw [if_neg w] at e
          exact List.mem_append_left _ (a q' d e)
      | some p =>
        obtain ⟨q2, d2⟩ := p
        rw [eg] at e1
        intro q' d e
        rw [e1] at e
        dsimp only at e
        by_cases w : q' = q
        · rw [if_pos w] at e
          cases e
          exact a q2 d2 (i.gOf_pl hh eg)
        · rw [if_neg w] at e
          exact a q' d e
  · rw [eh]
    unfold prC
    split
    · exact seeA_keep n
    · rfl

theorem recv_ok (G : Gp hs hd) (i : Iv hs hd z.c PL VT) (a : Ai PL z.an) (hh : h ∈ hs) {gi : Int} {b' : Option (Int × Int)} {y' : Yes} {vo' : Int} (l : Lt hs z.c PL VT gi b' y' vo') (dr : PyData) :
    ∃ VT1, Dd hs hd h z ⟨fupd z.c h (rcv h hd (z.c h) gi b' y' vo' dr), z.an⟩ PL PL VT VT1 ∧ ∀ j q, VT1 j q → VT j q ∨ (j = h ∧ (fupd z.c h (rcv h hd (z.c h) gi b' y' vo' dr) h).b = some q ∧ yb (fupd z.c h (rcv h hd (z.c h) gi b' y' vo' dr) h).y = some q) := by
  obtain ⟨VT1, i1, g1, v1⟩ := i.receive G hh l dr
  have nw : ∀ j q, VT1 j q → VT j q ∨ (j = h ∧ (fupd z.c h (rcv h hd (z.c h) gi b' y' vo' dr) h).b = some q ∧ yb (fupd z.c h (rcv h hd (z.c h) gi b' y' vo' dr) h).y = some q) := fun j q v => by rw [fupd_eq]; exact v1 j q v
  refine ⟨VT1, ⟨i1, a, g1, fun j n => fupd_ne n, fun j q v => (nw j q v).imp id fun e => ⟨e.1, e.2.2⟩, fun n => ?_⟩, nw⟩
  show (fupd z.c h _ h).ag = _
  rw [fupd_eq]
  exact seeA_keep n

theorem Dd.both {dd : Int} (x1 : Dd hs hd h z z' PL PL1 VT VT1) (n1 : ∀ j q, VT1 j q → VT j q ∨ (j = h ∧ (z'.c h).b = some q ∧ yb (z'.c h).y = some q)) (x2 : Dd hs hd h z' (ppz hd dd h z') PL1 PL2 VT1 VT2) (n2 : ∀ j q, VT2 j q → VT1 j q ∨ (fires h hd dd (z'.c h) = true ∧ j = h ∧ yb ((ppz hd dd h z').c h).y = some q)) : Dd hs hd h z (ppz hd dd h z') PL PL2 VT VT2 := by
  refine ⟨x2.iv, x2.ai, x1.gr.trans x2.gr, fun j n => (x2.ot j n).trans (x1.ot j n), fun j q v => ?_, fun n => ?_⟩
  · rcases n2 j q v with w | ⟨_, w1, w2⟩
    · rcases n1 j q w with u | ⟨u1, u2, u3⟩
      · exact .inl u
      · have nf : fires h hd dd (z'.c h) = false := by
          unfold fires
          rw [u2]
          have : gat (some q) (z'.c h).y h = false := by
            show (decide (q.2 = h) && !decide (yb (z'.c h).y = some q)) = false
            rw [decide_eq_true u3, Bool.not_true, Bool.and_false]
          rw [this]; rfl
        refine .inr ⟨u1, ?_⟩
        show yb (fupd z'.c h (prC h hd dd (z'.c h) z'.an.length) h).y = some q
        rw [fupd_eq, prC_no nf]
        exact u3
    · exact .inr ⟨w1, w2⟩
  · have e1 := x1.ag n
    rw [x2.ag (by rw [e1]; exact n), e1]
end
end
end K64


namespace K64
open PySem L2
abbrev s__law_propose : Stmt := top 17
section
variable {P : Program} {w : World} {K : PySem.W.Frag} {mg : Str → Option Value} {base : Heap}

def mkPos : Pos := match s__law_make with
  | .FunctionDef _ _ _ _ _ _ _ _ _ p => p
  | _ => ⟨0, 0, 0, 0⟩
abbrev TabM (Pt : Addr) (H : Hp) : Prop := Tab1 Pt mkPos "_law_propose.<locals>._law_make" H
theorem TabM.ne {Pt : Addr} {H : Hp} (t : TabM Pt H) {a : Addr} {o : HO} (e : H a = some o) (n : ∀ ps, o ≠ .tbl ps) : a ≠ Pt := fun z => by
  rcases t with q | ⟨c, q, _⟩ <;> (rw [z, q] at e; cases e; exact n _ rfl)

def KpL (la : Addr) (H H' : Hp) : Prop := ∀ x o, x ≠ la → H x = some o → (∀ C dx fs, o ≠ .ins C dx fs) → (∀ kvs, o ≠ .dK kvs) → (∀ ps, o ≠ .tbl ps) → H' x = some o
theorem KpL.lst {la : Addr} {H H' : Hp} (k : KpL la H H') {a : Addr} {xs : List V} (n : a ≠ la) (e : H a = some (.lst xs)) : H' a = some (.lst xs) := k _ _ n e (fun _ _ _ z => nomatch z) (fun _ z => nomatch z) (fun _ z => nomatch z)
theorem KpL.sm {la : Addr} {H H' : Hp} {ys : List V} (k : KpL la H H') (g : H la = some (.lst ys)) : SmH H H' := fun a xs e => k _ _ (ne_of e g (by intro z; cases z)) e (fun _ _ _ z => nomatch z) (fun _ z => nomatch z) (fun _ z => nomatch z)

structure Wd (K : PySem.W.Frag) (mg : Str → Option Value) (H : Hp) (dc : Addr) (hs : List Int) (hd : Int) (p d : Int → Addr) (c : Int → Cg) : Prop where
  gd : H dc = some (.dK (dG (hs.map fun h => (h, V.ref (p h)))))
  ch : ∀ h ∈ hs, ChX K mg H (p h) h hd (c h).b (c h).y (c h).vo (c h).ag (d h) (c h).rp
  np : ∀ h ∈ hs, ∀ h' ∈ hs, h ≠ h' → p h ≠ p h'
  nd : ∀ h ∈ hs, ∀ h' ∈ hs, h ≠ h' → d h ≠ d h'
  nc : ∀ h ∈ hs, d h ≠ dc
theorem lk_fn {hs : List Int} {f : Int → Addr} {h : Int} (hh : h ∈ hs) : lkG (hs.map fun h => (h, V.ref (f h))) h = some (.ref (f h)) := by
  induction hs with
  | nil => cases hh
  | cons a hs ih =>
    show (if a = h then some (V.ref (f a)) else lkG (hs.map fun h => (h, V.ref (f h))) h) = _
    by_cases e : a = h
    · rw [if_pos e, e]
    · rw [if_neg e]
      rcases List.mem_cons.mp hh with z | z
      · exact absurd z.symm e
      · exact ih z
section
variable {H H' : Hp} {dc : Addr} {hs : List Int} {hd : Int} {p d : Int → Addr} {c : Int → Cg}
theorem Wd.kept (W : Wd K mg H dc hs hd p d c) (k : ∀ a o, H a = some o → (∀ ps, o ≠ .tbl ps) → (∀ ls, o ≠ .lst ls) → H' a = some o) : Wd K mg H' dc hs hd p d c := by
  have kt : SmH H H' := fun a xs e => k _ _ e (fun _ z => nomatch z) (fun _ z => nomatch z)
  have kk : ∀ {a kvs}, H a = some (.dK kvs) → H' a = some (.dK kvs) := fun e => k _ _ e (fun _ z => nomatch z) (fun _ z => nomatch z)
  refine ⟨kk W.gd, fun h hh => ?_, W.np, W.nd, W.nc⟩
  obtain ⟨⟨C, dx, ba, ye, av, _, e2, _⟩, ⟨mm, f2, _⟩, _⟩ := id (W.ch h hh)
  exact (W.ch h hh).up (fun o e => by rw [e2] at e; cases e; exact k _ _ e2 (fun _ z => nomatch z) (fun _ z => nomatch z)) (fun o e => by rw [f2] at e; cases e; exact kk f2) kt
theorem Wd.same (W : Wd K mg H dc hs hd p d c) (s : Same H H') : Wd K mg H' dc hs hd p d c := W.kept fun a o e _ _ => s _ _ e

theorem Wd.step (W : Wd K mg H dc hs hd p d c) {h : Int} (hh : h ∈ hs) (fr : ∀ x o, x ≠ p h → x ≠ d h → (∀ ps, o ≠ .tbl ps) → (∀ ls, o ≠ .lst ls) → H x = some o → H' x = some o) {g : Cg} {d1 : Addr} (n : ChX K mg H' (p h) h hd g.b g.y g.vo g.ag d1 g.rp) (w : d1 = d h ∨ H d1 = none) : Wd K mg H' dc hs hd p (fupd d h d1) (fupd c h g) := by
  obtain ⟨⟨C, dx, ba, ye, av, _, e2, _⟩, ⟨mm, eh, _⟩, _⟩ := id (W.ch h hh)
  have kt : SmH H H' := fun a xs e => fr _ _ (ne_of e e2 (by intro z; cases z)) (ne_of e eh (by intro z; cases z)) (fun _ z => nomatch z) (fun _ z => nomatch z) e
  have frd : ∀ {a kvs}, a ≠ d h → H a = some (.dK kvs) → H' a = some (.dK kvs) := fun n1 e => fr _ _ (ne_of e e2 (by intro z; cases z)) n1 (fun _ z => nomatch z) (fun _ z => nomatch z) e
  have dj : ∀ {a kvs}, a ≠ d h → H a = some (.dK kvs) → d1 ≠ a := fun na e z => by
    rcases w with u | u
    · exact na (z.symm.trans u)
    · rw [z, e] at u; cases u
  refine ⟨frd (W.nc h hh).symm W.gd, fun j hj => ?_, W.np, fun j hj k hk ne => ?_, fun j hj => ?_⟩
  · by_cases z : j = h
    · subst z
      rw [fupd_eq, fupd_eq]
      exact n
    · rw [fupd_ne z, fupd_ne z]
      obtain ⟨⟨C2, dx2, ba2, ye2, av2, _, f2, _⟩, ⟨m2, h2, _⟩, _⟩ := id (W.ch j hj)
      refine (W.ch j hj).up (fun o e => ?_) (fun o e => ?_) kt
      · rw [f2] at e; cases e
        exact fr _ _ (W.np j hj h hh z) (ne_of f2 eh (by intro z; cases z)) (fun _ z => nomatch z) (fun _ z => nomatch z) f2
      · rw [h2] at e; cases e
        exact frd (W.nd j hj h hh z) h2
  · by_cases z : j = h
    · rw [z, fupd_eq, fupd_ne (fun u => ne (z.trans u.symm))]
      obtain ⟨_, ⟨m2, h2, _⟩, _⟩ := id (W.ch k hk)
      exact dj (W.nd k hk h hh fun u => ne (z.trans u.symm)) h2
    · rw [fupd_ne z]
      by_cases z2 : k = h
      · rw [z2, fupd_eq]
        obtain ⟨_, ⟨m2, h2, _⟩, _⟩ := id (W.ch j hj)
        exact (dj (W.nd j hj h hh z) h2).symm
      · rw [fupd_ne z2]
        exact W.nd j hj k hk ne
  · by_cases z : j = h
    · rw [z, fupd_eq]
      exact dj (W.nc h hh).symm W.gd
    · rw [fupd_ne z]
      exact W.nc j hj
theorem Wd.kpl (W : Wd K mg H dc hs hd p d c) {h : Int} (hh : h ∈ hs) {la : Addr} (fr : ∀ x o, x ≠ p h → x ≠ d h → x ≠ la → (∀ ps, o ≠ .tbl ps) → H x = some o → H' x = some o) : KpL la H H' := fun x o nl e n1 n2 n3 => by
  obtain ⟨⟨C, dx, ba, ye, av, _, e2, _⟩, ⟨mm, f2, _⟩, _⟩ := id (W.ch h hh)
  refine fr x o (fun z => ?_) (fun z => ?_) nl n3 e
  · rw [z, e2] at e; cases e; exact n1 _ _ _ rfl
  · rw [z, f2] at e; cases e; exact n2 _ rfl
end
theorem keys_fn (hs : List Int) (f : Int → Addr) : (hs.map fun h => (h, V.ref (f h))).map (·.1) = hs := by rw [List.map_map]; exact List.map_id _
theorem sort_one {a b : List Int} (p : a.Perm b) (s1 : a.Pairwise (· ≤ ·)) (s2 : b.Pairwise (· ≤ ·)) : a = b := List.Perm.eq_of_pairwise (fun x y _ _ h1 h2 => Int.le_antisymm h1 h2) s1 s2 p
theorem at_int {xs : List Int} {i : Nat} (h : i < xs.length) : atI (xs.map V.int) (i : Int) = some (V.int xs[i]) := atI_nat (by rw [List.getElem?_map, List.getElem?_eq_getElem h]; rfl)
theorem at_int' {xs : List Int} {j : Int} (h0 : 0 ≤ j) (h : j.toNat < xs.length) : atI (xs.map V.int) j = some (V.int xs[j.toNat]) := atI_int h0 (by rw [List.getElem?_map, List.getElem?_eq_getElem h]; rfl)
theorem sum_nn : ∀ {ms : List Int}, (∀ m ∈ ms, 0 ≤ m) → 0 ≤ ms.sum
  | [], _ => Int.le_refl _
  | m :: ms, h => by
    rw [List.sum_cons]
    have := sum_nn fun x hx => h x (List.mem_cons_of_mem _ hx)
    have := h m List.mem_cons_self
    omega

def KpH (pa da la : Addr) (H H' : Hp) : Prop := ∀ x o, x ≠ pa → x ≠ da → x ≠ la → H x = some o → (∀ ps, o ≠ .tbl ps) → H' x = some o
def sp__law_propose (K : PySem.W.Frag) (mg : Str → Option Value) (P_mk : Addr) : Sp := fun vs H Q _ => ∃ (dc : Addr) (h : Int) (la xa : Addr), vs = [.ref dc, .int h, .ref la, .ref xa] ∧ ∃ hs hd p d c y0 an, ∃ xs : List Int, Wd K mg H dc hs hd p d c ∧ Gp hs hd ∧ hs.length ≤ 6 ∧ h ∈ hs ∧ H la = some (.lst y0) ∧ Pls H 1 y0 an ∧ y0.length ≤ 900 ∧ H xa = some (.lst (xs.map V.int)) ∧ xs.length = 8 ∧ TabM P_mk H ∧
  ∀ dd H' d' y1, KpH (p h) (d h) la H H' → d' = d → Wd K mg H' dc hs hd p d' (ppz hd dd h ⟨c, an⟩).c → H' la = some (.lst y1) → Pls H' 1 y1 (ppz hd dd h ⟨c, an⟩).an → TabM P_mk H' → Q .non H'
theorem sc__law_propose : FnScope ["_law_changes", "_law_hand", "_law_answered", "_law_xs", "_law_doubts", "_law_some", "_law_make"] ["_law_changes", "_law_hand", "_law_answered", "_law_xs"] (defScope s__law_propose) := ⟨rfl, rfl, rfl, by decide +kernel, rfl, by decide +kernel, by decide +kernel⟩
set_option maxHeartbeats 4000000 in
theorem ok__law_propose {f f_Change_propose C_Change : Addr} {fd fd_Change_propose : FuncData} {c_mk P_mk : Addr} (F : FunC K "_law_propose" "_law_propose" s__law_propose f fd c_mk) (hC : PySem.W.CodeHd base c_mk P_mk) (hB : BltM base mg)
    (G_Change_propose : FnOk P w K mg base CX0 7 f_Change_propose fd_Change_propose ["self", "doubts", "make"] (sp_Change_propose K mg)) (B_Change_propose : Binds K fd_Change_propose ["self", "doubts", "make"] []) (h_len : mg "len" = none) (h_range : mg "range" = none) (h_sorted : mg "sorted" = none) (h_sum : mg "sum" = none) (T_Change : TChange K C_Change) (m_Change : mg "Change" = some (.ref C_Change)) (mt_Change_propose : Meth K C_Change "propose" f_Change_propose) : FnOk P w K mg base CX0 8 f fd ["_law_changes", "_law_hand", "_law_answered", "_law_xs"] (sp__law_propose K mg P_mk) := by
  refine F.ok sc__law_propose (fun vs H Q E h => ?_) (fun A outer s H vs Q E hr h => ?_)
  · obtain ⟨dc, h, la, xa, rfl, _⟩ := h
    rfl
  obtain ⟨dc, h, la, xa, rfl, h⟩ := h
  have hu64 := hr.units
  have hu0 := hr.units0
  have hu := hu_of hr
  refine ⟨_, (pss_cons (ps_set (i := 4) sc__law_propose.nd rfl (Or.inl rfl) (pe_op op_sub (pe_op op_shl pe_int pe_int) pe_int))
      (pss_cons (ps_if (pt_cmpR op_eq (pe_op op_mod (pe_ix (ix_listK (K := K) rfl) (pv 3) pe_int (fun _ _ => rfl)) pe_int) pe_int (nomark _)) (pss_cons (ps_set (i := 5) sc__law_propose.nd rfl (Or.inr rfl) (pe_callB (call_sortedG rfl) (by rfl) h_sorted PyProof.Rows.boot_sorted (pa_cons (pv 0) pa_nil)))
      (pss_one (ps_set (i := 4) sc__law_propose.nd rfl (Or.inl rfl) (pe_callB (call_sumI rfl) (by rfl) h_sum PyProof.Rows.boot_sum (pa_cons (pe_comp ["_law_some", "_law_xs", "_law_k"] [some 5, some 3, none] rfl rfl (by kernel_rfl) (pi_range1 rfl h_range (pa_cons (pe_callB (call_lenK (K := K) rfl) (by rfl) h_len PySem.boot_len (pa_cons (pv 5) pa_nil)) pa_nil)) (fun _ _ _ _ _ nd => pg_name (i := 2) nd rfl (Or.inl rfl)) (fun _ _ _ _ _ => (pif_one (pt_cmpR op_eq (pe_op op_and (pe_op op_shr (pe_ix (ix_listK (K := K) rfl) (pv 1) pe_int (fun _ _ => rfl)) (pv 2)) pe_int) pe_int (nomark _)))) (fun _ _ _ _ _ => (pe_op op_shl pe_int (pe_ix (ix_listK (K := K) rfl) (pv 0) (pv 2) (fun _ _ => rfl))))) pa_nil))))) pss_nil)
      (pss_cons (ps_defT (c := c_mk) (Pt := P_mk) (i := 6) sc__law_propose.nd rfl (Or.inl rfl) (Or.inl rfl) rfl rfl rfl rfl rfl hC hB)
      (pss_one (ps_expr (pe_methL (MOk.cons T_Change.cl mt_Change_propose G_Change_propose B_Change_propose MOk.nil) (pe_dget hu (pv 0) (pv 1) (fun _ _ => rfl)) hr (own1 (i1 := 2) (x1 := "_law_answered") (c1 := s.heap.objs.size + 1) rfl rfl rfl rfl) (pa_cons (pv 4) (pa_cons (pv 6) pa_nil)))))))), ?_⟩
  obtain ⟨hs, hd, p, d, c, y0, an, xs, W0, G, l6, hh, gla0, pan0, ly0, gxa, lx, tb0, kk⟩ := h
  have gd0 := W0.gd
  have hxs := SqL.of (K := K) gxa
  have at3 := at_int (xs := xs) (i := 3) (by omega)
  have cp63 : CPow 1 63 := ⟨by decide, by decide, by decide⟩
  clean_wf
  refine x_cut (fun σ' H' => ∃ dd v5, σ' = [some (.ref dc), some (.int h), some (.ref la), some (.ref xa), some (.int dd), v5, none] ∧ 0 ≤ dd ∧ Same H H') ?_ fun N rest => ?_
  rotate_left
  · clean_wf
    refine ite2 (fun _ => ?_) fun _ => ?_
    · have fk : (hs.map fun h => (h, V.ref (p h))).length < 64 := by rw [List.length_map]; omega
      clean_wf
      refine ⟨dc, _, rfl, .inl gd0, fk, fun l ns hl pm so => ?_⟩
      rw [keys_fn] at pm
      obtain rfl : ns = hs := sort_one pm so (G.up.imp fun h => Int.le_of_lt h)
      have s1 := same_upd (o := .lst (ns.map V.int)) hl
      have g1 : (upd H l (.lst (ns.map V.int))) l = some (.lst (ns.map V.int)) := upd_same
      generalize upd H l (.lst (ns.map V.int)) = H1 at s1 g1 ⊢
      have sl1 := SqL.of (K := K) g1
      have hx1 := s1.seq hxs
      have at2 := at_int (xs := xs) (i := 2) (by omega)
      clean_wf
      refine ⟨_, rfl, by rw [List.length_map]; omega, by rw [List.length_map]; omega, fun D9 hD9 => ?_⟩
      refine comp_range (fun t σ A => ∃ v2 ms, σ = [some (.ref l), some (.ref xa), v2] ∧ Same H1 A ∧ A D9 = some (.lst ((ms : List Int).map V.int)) ∧ ms.length ≤ t ∧ ∀ m ∈ ms, 0 ≤ m) ⟨none, [], rfl, same_upd hD9, upd_same, Nat.le_refl _, (fun _ z => nomatch z)⟩ ?_ ?_
      · rintro t σ A ht ⟨v2, ms, rfl, sA, gA, lm, pm⟩
        rw [List.length_map] at ht
        have ht' : t < ns.length := by omega
        have slA := SqL.of (K := K) (sA _ _ g1)
        have hxA := sA.seq hx1
        have ei : (0 + (t : Int)) = ((t : Nat) : Int) := by omega
        have atn : atI (ns.map V.int) (0 + (t : Int)) = some (V.int ns[t]) := by rw [ei]; exact at_int ht'
        have rn := G.rg _ (List.getElem_mem ht')
        generalize ns[t] = hn at atn rn
        have cp : CPow 1 hn := ⟨rn.1, by omega, by decide⟩
        clean_wf
        refine ite2 (fun _ => ?_) fun _ => ?_
        · clean_wf
          refine ⟨_, gA, small1000 (by rw [List.length_map]; omega), _, ms ++ [1 * 2 ^ hn.toNat], rfl, fun b o e => ?_, by rw [upd_same, List.map_append]; rfl, by rw [List.length_append]; exact Nat.succ_le_succ lm, fun m hm => ?_⟩
          · rw [upd_ne (ne_of_none e hD9)]
            exact sA b o e
          · rcases List.mem_append.mp hm with u | u
            · exact pm m u
            · rw [List.mem_singleton.mp u, Int.one_mul]
              exact pow_nn hn
        · exact ⟨_, ms, rfl, sA, gA, by omega, pm⟩
      rintro σ A ⟨v2, ms, rfl, sA, gA, lm, pm⟩
      refine ⟨D9, _, rfl, SqL.of gA, ?_⟩
      have s0 := sum_nn pm
      exact rest _ _ ⟨_, _, rfl, s0, s1.trans sA⟩
    · exact rest _ _ ⟨_, none, rfl, by decide +kernel, .refl _⟩
  rintro σ' H0 ⟨dd, v5, rfl, d0, sH⟩
  have W := W0.same sH
  have gla := sH _ _ gla0
  have pan := pan0.up (.same sH)
  have tb := tb0.same sH
  have S := W.ch h hh
  obtain ⟨⟨C, dx, ba, ye, av, eC, hp, hb, hy, ha⟩, ⟨m2, hd', rm2, ndm2⟩, m0, m1, _⟩ := id S
  rw [m_Change] at eC
  cases eC
  obtain ⟨cl, n1, n2, n3, n4, n5, n6, n7⟩ := id T_Change
  refine x_defT tb fun f9 c9 doc ctv H2 hf9 sm2 ef ec eP => ?_
  have k2 : ∀ a o, H0 a = some o → (∀ ps, o ≠ .tbl ps) → H2 a = some o := fun a o e n => sm2 a o (TabM.ne tb e n) e
  have kt2 : SmH H0 H2 := fun a xs e => k2 _ _ e (fun _ z => nomatch z)
  have W2 : Wd K mg H2 dc hs hd p d c := W.kept fun a o e n _ => k2 a o e n
  have gla2 := k2 _ _ gla (fun _ z => nomatch z)
  have hp2 := k2 _ _ hp (fun _ z => nomatch z)
  have tb2 : TabM P_mk H2 := .inr ⟨c9, eP, ec⟩
  have gd2 := W2.gd
  have lk := lk_fn (f := p) hh
  have S2 := W2.ch h hh
  clean_wf
  refine ⟨[.ref la], rfl, lend1 rfl, fun L ld => ?_⟩
  have sL := ld.same
  have glaL := sL _ _ gla2
  have hpL := sL _ _ hp2
  refine ⟨p h, dd, f9, rfl, h, hd, _, _, _, _, d h, _, la, y0, an, S2.same sL, ⟨c9, _, doc, _, ctv, sL _ _ ef, sL _ _ ec, ld.all⟩, glaL, (pan.up kt2).up (.same sL), ly0, d0, fun r H5 y1 k5 g5 a5 S5 => ?_⟩
  have fz : ∀ c ∈ (cls1 (s.heap.objs.size + 1)).map (·.2), ∃ o φ, H5 c = some (.frz o (.ext φ)) := fun c hc => by
    obtain ⟨o, φ, e⟩ := ld.all.frz c hc
    exact ⟨o, φ, k5 _ _ (ne_of e hpL (by intro z; cases z)) (ne_of e glaL (by intro z; cases z)) e⟩
  show (unlQ _ _) _ _
  unfold unlQ
  have un : ∀ x o, H5 x = some o → (∀ o' φ, o ≠ .frz o' (.ext φ)) → unl ((cls1 (s.heap.objs.size + 1)).map (·.2)) H5 x = some o := fun x o e n => unl_tup fz e n
  have fr5 : ∀ x o, x ≠ p h → x ≠ la → H2 x = some o → unl ((cls1 (s.heap.objs.size + 1)).map (·.2)) H5 x = some o := fun x o q1 q2 e => by
    rw [unl_out fun z => by rw [ld.non x z] at e; cases e]
    exact k5 _ _ q1 q2 (sL _ _ e)
  generalize unl ((cls1 (s.heap.objs.size + 1)).map (·.2)) H5 = A5 at un fr5 ⊢
  have t5 : SmH H5 A5 := fun a xs e => un _ _ e (by intro _ _ z; cases z)
  have S5' : ChX K mg A5 (p h) h hd (prC h hd dd (c h) an.length).b (prC h hd dd (c h) an.length).y (prC h hd dd (c h) an.length).vo (prC h hd dd (c h) an.length).ag (d h) (prC h hd dd (c h) an.length).rp := by
    obtain ⟨⟨C5, dx5, ba5, ye5, av5, eC5, hp5, _⟩, ⟨m5, hd5, _⟩, _⟩ := id S5
    exact S5.up (fun o e => by rw [hp5] at e; cases e; exact un _ _ hp5 (by intro _ _ z; cases z)) (fun o e => by rw [hd5] at e; cases e; exact un _ _ hd5 (by intro _ _ z; cases z)) t5
  have frL : ∀ x o, x ≠ p h → x ≠ d h → x ≠ la → (∀ ps, o ≠ .tbl ps) → H0 x = some o → A5 x = some o := fun x o q1 _ q2 q3 e => fr5 x o q1 q2 (k2 x o e q3)
  refine kk dd A5 (fupd d h (d h)) y1 (fun x o q1 q2 q3 e q4 => frL x o q1 q2 q3 q4 (sH _ _ e)) (fupd_id d h) (W.step hh (fun x o q1 q2 q3 q4 e => frL x o q1 q2 (fun z => by rw [z, gla] at e; cases e; exact q4 _ rfl) q3 e) S5' (.inl rfl)) (un _ _ g5 (by intro _ _ z; cases z)) (a5.up t5) ?_
  exact tb2.up fun x o e z => fr5 _ _ (ne_of e hp2 (by rcases z with ⟨_, rfl⟩ | ⟨_, rfl⟩ <;> (intro w; cases w))) (ne_of e gla2 (by rcases z with ⟨_, rfl⟩ | ⟨_, rfl⟩ <;> (intro w; cases w))) e
end
end K64


namespace K64
open PySem L2
abbrev s__law_noted : Stmt := top 18
section
variable {P : Program} {w : World} {K : PySem.W.Frag} {mg : Str → Option Value} {base : Heap}

def bK (q : Int × Int) : List Key := [.inl q.1, .inl q.2]

structure Bk (H : Hp) (sd pd : Addr) (ss : List (SK × Addr)) (kvs : List (List Key × V)) (pq : List ((Int × Int) × PyData)) : Prop where
  gs : H sd = some (SdO sd ss)
  sk : ∀ x ∈ ss, SkT H x.2 x.1
  gp : H pd = some (.dT kvs)
  pl : Paired (fun e r => e.1 = bK r.1 ∧ Pl H 1 e.2 r.2) kvs pq
  nd : (kvs.map (·.1)).Nodup
theorem bK_inj {q r : Int × Int} (h : bK q = bK r) : q = r := by
  injection h with h1 h2
  injection h2 with h2 _
  exact Prod.ext (Sum.inl.inj h1) (Sum.inl.inj h2)
theorem pl_val {H : Hp} {q : Int × Int} : ∀ {kvs : List (List Key × V)} {pq : List ((Int × Int) × PyData)}, Paired (fun e r => e.1 = bK r.1 ∧ Pl H 1 e.2 r.2) kvs pq → ∀ {v}, valV kvs (bK q) = some v → ∃ d, (q, d) ∈ pq ∧ Pl H 1 v d
  | _, _, .nil, v, e => by cases e
  | _, _, .cons (a := p) (b := r) ⟨e1, e2⟩ t, v, e => by
    by_cases z : p.1 = bK q
    · rw [valV_pos z] at e
      cases e
      have : r.1 = q := bK_inj (e1.symm.trans z)
      exact ⟨r.2, by rw [← this]; exact List.mem_cons_self, e2⟩
    · rw [valV_neg z] at e
      obtain ⟨d, h1, h2⟩ := pl_val t e
      exact ⟨d, List.mem_cons_of_mem _ h1, h2⟩
theorem key_nd {kvs : List (List Key × V)} {k : List Key} {v : V} (nd : (kvs.map (·.1)).Nodup) (h : valV kvs k = none) : ((kvs ++ [(k, v)]).map (·.1)).Nodup := by
  have no : k ∉ kvs.map (·.1) := fun z => by
    have : (kvs.any fun kv => decide (kv.1 = k)) = true := by
      obtain ⟨e, he, ek⟩ := List.mem_map.mp z
      exact List.any_eq_true.mpr ⟨e, he, decide_eq_true ek⟩
    rw [valV_any, h] at this
    cases this
  rw [List.map_append]
  exact List.nodup_append.mpr ⟨nd, by simp, fun x hx y hy e => no (by have hy : y = k := List.mem_singleton.mp hy; rw [← hy, ← e]; exact hx)⟩
theorem putK_new {kvs : List (List Key × V)} {k : List Key} {v : V} (h : valV kvs k = none) : putK kvs k v = kvs ++ [(k, v)] := by
  unfold putK
  rw [valV_any, h]
  rfl
theorem Bk.up {H H' : Hp} {sd pd : Addr} {ss : List (SK × Addr)} {kvs : List (List Key × V)} {pq : List ((Int × Int) × PyData)} (x : Bk H sd pd ss kvs pq) (s : Same H H') : Bk H' sd pd ss kvs pq :=
  ⟨s _ _ x.gs, fun y hy => (x.sk y hy).up fun _ _ e => s _ _ e, s _ _ x.gp, Paired.mapP x.pl fun _ _ z => ⟨z.1, z.2.up (.same s)⟩, x.nd⟩
theorem x_ifs_cut {c : TT} {t u : TS} {D : Ends} {σ : St} {H : Hp} (J : Bool → Hp → Prop) (h2 : ∀ b H1, J b H1 → if b = true then t D σ H1 else u D σ H1) (h : ∀ N : Bool → Hp → Prop, (∀ b H1, J b H1 → N b H1) → c σ H N) : tIfS c t u D σ H := h _ h2
theorem x_sput {td ty tv : TE} {u : TS} {D : Ends} {σ : St} {H : Hp} (h : tv σ H fun v H1 => td σ H1 fun x H2 => ty σ H2 fun y H3 => ∃ d t xs k, v = .bl true ∧ x = .ref d ∧ y = .ref t ∧ H3 d = some (SdO d xs) ∧ (∀ x ∈ xs, SkT H3 x.2 x.1) ∧ SkT H3 t k ∧ xs.length < 1000 ∧ u D σ (upd H3 d (SdO d (sput xs k t)))) : tSeq (sSPut td ty tv) u D σ H := h
theorem one_bit {n : Int} (n0 : 0 ≤ n) (h : Nat) : (Builtin.bitAnd (n / 2 ^ h) 1 = 1) ↔ n.toNat.testBit h = true := by
  have d0 : 0 ≤ n / 2 ^ h := Int.ediv_nonneg n0 (two_pow_nn h)
  rw [and_nat d0 (by decide), show (1 : Int).toNat = 1 from rfl, Nat.and_one_is_mod, ← GB.idiv_bit n0 h]
  omega
mutual
theorem Pl.dep {H : Hp} : ∀ {n : Nat} {x : V} {d : PyData}, Pl H n x d → d.depth ≤ n
  | _, _, _, .non => Nat.zero_le _
  | _, _, _, .int i => Nat.zero_le _
  | _, _, _, .str i l => Nat.zero_le _
  | _, _, _, .tup _ _ h => Nat.succ_le_succ (Pls.dep h)
theorem Pls.dep {H : Hp} : ∀ {n : Nat} {xs : List V} {ds : List PyData}, Pls H n xs ds → PyData.depthAll ds ≤ n
  | _, _, _, .nil => Nat.zero_le _
  | _, _, _, .cons h t => Nat.max_le.mpr ⟨Pl.dep h, Pls.dep t⟩
end

def Kb (sd pd : Addr) (H H' : Hp) : Prop := ∀ x o, x ≠ sd → x ≠ pd → H x = some o → H' x = some o
def sp__law_noted (K : PySem.W.Frag) (mg : Str → Option Value) : Sp := fun vs H Q _ => ∃ (p : Addr) (h : Int) (sd pd : Addr), vs = [.ref p, .int h, .ref sd, .ref pd] ∧ ∃ hd b y vo ag d rp ss kvs pq, ChX K mg H p h hd b y vo ag d rp ∧ Bk H sd pd ss kvs pq ∧ ss.length ≤ 900 ∧ kvs.length ≤ 900 ∧ (y = none → ag = .none) ∧
  (∀ q dp, y = some (q, dp) → bgt (some q) b = false ∧ (∀ r ∈ pq, r.1 = q → r.2 = dp) ∧ vo.toNat.testBit h.toNat = true ∧ ∀ j : Nat, vo.toNat.testBit j = true → ((j : Int), q.1, q.2) ∈ ss.map (·.1) ∨ (j : Int) = h) ∧
  ∀ H' ss' kvs' pq', Kb sd pd H H' → Bk H' sd pd ss' kvs' pq' → ss'.length ≤ ss.length + 1 → kvs'.length ≤ kvs.length + 1 → (∀ k, k ∈ ss.map (·.1) → k ∈ ss'.map (·.1)) → (∀ q dp, y = some (q, dp) → (h, q.1, q.2) ∈ ss'.map (·.1)) → (∀ r ∈ pq', r ∈ pq ∨ y = some r) → Q (.bl true) H'
theorem sc__law_noted : FnScope ["_law_change", "_law_hand", "_law_said", "_law_plans", "_law_ballot", "_law_plan", "_law_one"] ["_law_change", "_law_hand", "_law_said", "_law_plans"] (defScope s__law_noted) := ⟨rfl, rfl, rfl, by decide +kernel, rfl, by decide +kernel, by decide +kernel⟩
set_option maxHeartbeats 4000000 in
theorem ok__law_noted {f f_Change_settled C_Change : Addr} {fd fd_Change_settled : FuncData} (F : Fun K "_law_noted" "_law_noted" s__law_noted f fd)
    (G_Change_settled : FnOk P w K mg base CX0 5 f_Change_settled fd_Change_settled ["self"] (sp_Change_settled K mg)) (B_Change_settled : Binds K fd_Change_settled ["self"] []) (h_range : mg "range" = none) (T_Change : TChange K C_Change) (m_Change : mg "Change" = some (.ref C_Change)) (mt_Change_settled : Meth K C_Change "settled" f_Change_settled) : FnOk P w K mg base CX0 6 f fd ["_law_change", "_law_hand", "_law_said", "_law_plans"] (sp__law_noted K mg) := by
  refine F.ok sc__law_noted (fun vs H Q E h => ?_) (fun cdv A outer s H vs Q E hr h => ?_)
  · obtain ⟨p, h, sd, pd, rfl, _⟩ := h
    rfl
  obtain ⟨p, h, sd, pd, rfl, h⟩ := h
  have hu64 := hr.units
  have hu0 := hr.units0
  have hu := hu_of hr
  refine ⟨_, (pss_cons (ps_if (pt_cmpR op_isN (pe_fldK (K := K) rfl (pv 0) rfl) pe_non (nomark _)) (pss_one (ps_ret (pe_and (pe_cmpR op_eq (pe_fldK (K := K) rfl (pv 0) rfl) pe_int (nomark _)) (pe_one (pe_cmpR op_isN (pe_methS0 (MOk.cons T_Change.cl mt_Change_settled G_Change_settled B_Change_settled MOk.nil) (pv 0) hr) pe_non (nomark _)))))) pss_nil)
      (pss_cons (ps_asg (pe_fldK (K := K) rfl (pv 0) rfl) (pg_tupK (K := K) (n := 2) rfl rfl (pgs_cons (pg_name (i := 4) sc__law_noted.nd rfl (Or.inl rfl)) (pgs_cons (pg_name (i := 5) sc__law_noted.nd rfl (Or.inl rfl)) pgs_nil))))
      (pss_cons (ps_dputS hu64 (pv 2) (pe_tup (pa_cons (pv 1) (pa_cons (pv 4) pa_nil))) pe_bl rfl)
      (pss_cons (ps_if (PW.pt (pw_or (pt_cmpR (op_neK (K := K) rfl hu64) (pe_bm PySem.F.plainAttrs_dict PySem.F.slot_dict_setdefault PySem.F.type_dict_setdefault (mt_dsetT hu) (pv 3) (pa_cons (pv 4) (pa_cons (pv 5) pa_nil))) (pv 5) (nomark _)) (pw_or (pt_cmpR op_isN (pe_fldK (K := K) rfl (pv 0) rfl) pe_non (nomark _)) (pw_or1 (pt_cmpR (op_gtT (K := K) rfl hu0) (pv 4) (pe_fldK (K := K) rfl (pv 0) rfl) (nomark _)))))) (pss_one (ps_ret pe_bl)) pss_nil)
      (pss_cons (ps_for PassesOwn.never rfl (pi_range1 rfl h_range (pa_cons pe_int pa_nil)) (pg_name (i := 6) sc__law_noted.nd rfl (Or.inl rfl))
      (pss_one (ps_if (PW.pt (pw_and (pt_cmpR op_eq (pe_op op_and (pe_op op_shr (pe_fldK (K := K) rfl (pv 0) rfl) (pv 6)) pe_int) pe_int (nomark _)) (pw_and1 (pt_cmpR (op_ninS hu64) (pe_tup (pa_cons (pv 6) (pa_cons (pv 4) pa_nil))) (pv 2) (by rfl))))) (pss_one (ps_ret pe_bl)) pss_nil)))
      (pss_one (ps_ret (pe_and (pe_cmpR op_eq (pe_op op_and (pe_op op_shr (pe_fldK (K := K) rfl (pv 0) rfl) (pv 1)) pe_int) pe_int (nomark _)) (pe_one (pe_cmpR op_lt (pe_fldK (K := K) rfl (pv 0) rfl) (pe_op op_shl pe_int pe_int) (nomark _))))))))))), ?_⟩
  obtain ⟨hd, b, y, vo, ag, d, rp, ss, kvs, pq, S, bk, ls, lk, yn, ys, kk⟩ := h
  obtain ⟨⟨C, dx, ba, ye, av, eC, hp, hb, hy, ha⟩, ⟨m2, hd', _⟩, m0, m1, z0, z1, sm, sv, vy⟩ := id S
  rw [m_Change] at eC
  cases eC
  obtain ⟨cl, n1, n2, n3, n4, n5, n6, n7⟩ := id T_Change
  refine x_seq ?_
  cases y with
  | none =>
    obtain rfl : ye = .non := hy
    have vz := vy rfl
    subst vz
    have az := yn rfl
    subst az
    clean_wf
    rw [show decide (V.non = V.non) = true from decide_eq_true rfl]
    clean_wf
    rw [if_pos (show decide ((0 : Int) = 0) = true from rfl)]
    clean_wf
    refine ⟨p, rfl, h, hd, b, none, 0, .none, d, rp, S, fun H1 x1 s1 p1 => ?_⟩
    cases p1
    clean_wf
    rw [show decide (V.non = V.non) = true from decide_eq_true rfl]
    exact kk H1 ss kvs pq (fun x o _ _ e => s1 _ _ e) (bk.up s1) (by omega) (by omega) (fun _ e => e) (fun _ _ z => nomatch z) (fun _ e => .inl e)
  | some y =>
    obtain ⟨q, dp⟩ := y
    obtain ⟨t, u, pv, rfl, g1, g2, g3⟩ := id hy
    obtain ⟨y1, y2, y3, y4⟩ := ys q dp rfl
    have st := SqT.of (K := K) g1
    obtain ⟨r, rfl⟩ : ∃ r, b = some r := by
      cases b with
      | none => cases y1
      | some r => exact ⟨r, rfl⟩
    obtain ⟨tb, rfl, gb⟩ := id hb
    clean_wf
    rw [ref_non]
    clean_wf
    refine x_sput ?_
    clean_wf
    intro t5 H1 ht5 s1 g5
    refine ⟨sd, t5, ss, (h, q.1, q.2), rfl, rfl, rfl, s1 _ _ bk.gs, fun x hx => (bk.sk x hx).up fun _ _ e => s1 _ _ e, ⟨u, g5, s1 _ _ g2⟩, by omega, ?_⟩
    have gs1 := s1 _ _ bk.gs
    have b2 : But sd H1 (upd H1 sd (SdO sd (sput ss (h, q.1, q.2) t5))) := .upd
    have gs2 : (upd H1 sd (SdO sd (sput ss (h, q.1, q.2) t5))) sd = some (SdO sd (sput ss (h, q.1, q.2) t5)) := upd_same
    generalize upd H1 sd (SdO sd (sput ss (h, q.1, q.2) t5)) = H2 at b2 gs2 ⊢
    have kt2 : SmH H1 H2 := fun a xs e => b2.at (ne_of e gs1 (by intro z; cases z)) e
    have k02 : SmH H H2 := fun a xs e => kt2 _ _ (s1 _ _ e)
    have npd : pd ≠ sd := ne_of bk.gp bk.gs (by intro z; cases z)
    have gp2 := b2.at npd (s1 _ _ bk.gp)
    have hp2 := b2.at (ne_of hp bk.gs (by intro z; cases z)) (s1 _ _ hp)
    have g22 : H2 u = some (.tup ((bK q).map kV)) := k02 _ _ g2
    have pl2 : Paired (fun e r => e.1 = bK r.1 ∧ Pl H2 1 e.2 r.2) kvs pq := Paired.mapP bk.pl fun _ _ z => ⟨z.1, z.2.up k02⟩
    have sk2 : ∀ x ∈ sput ss (h, q.1, q.2) t5, SkT H2 x.2 x.1 := fun x hx => by
      unfold sput at hx
      split at hx
      · exact (bk.sk x hx).up k02
      · rcases List.mem_append.mp hx with w | w
        · exact (bk.sk x w).up k02
        · rw [List.mem_singleton.mp w]
          exact ⟨u, kt2 _ _ g5, k02 _ _ g2⟩
    have inN : (h, q.1, q.2) ∈ (sput ss (h, q.1, q.2) t5).map (·.1) := by
      unfold sput
      split
      · assumption
      · rw [List.map_append]
        exact List.mem_append_right _ (List.mem_singleton.mpr rfl)
    have inO : ∀ k, k ∈ ss.map (·.1) → k ∈ (sput ss (h, q.1, q.2) t5).map (·.1) := fun k hk => by
      unfold sput
      split
      · exact hk
      · rw [List.map_append]
        exact List.mem_append_left _ hk
    have ls2 := sput_len ss (h, q.1, q.2) t5
    generalize sput ss (h, q.1, q.2) t5 = ss2 at gs2 sk2 inN inO ls2
    have k2 : Kb sd pd H H2 := fun x o n _ e => b2.at n (s1 _ _ e)
    refine x_seq ?_
    refine x_ifs_cut (fun bb A => bb = false ∧ ∃ kvs' pq', Kb sd pd H A ∧ Bk A sd pd ss2 kvs' pq' ∧ kvs'.length ≤ kvs.length + 1 ∧ ∀ r ∈ pq', r ∈ pq ∨ some (q, dp) = some r) ?_ fun N rest => ?_
    rotate_left
    · have g32 := g3.up k02
      have gb2 := k02 _ _ gb
      clean_wf
      refine ⟨.inr (.inr (.inl ⟨rfl, .inr ⟨kvs, gp2⟩⟩)), ?_⟩
      clean_wf
      refine ⟨pd, u, kvs, bK q, pv, rfl, rfl, gp2, g22, by omega, fun v hv => ?_, fun hn => ?_⟩
      · obtain ⟨d', h1, h2⟩ := pl_val pl2 hv
        obtain rfl : d' = dp := y2 _ h1 rfl
        clean_wf
        refine rNeP_refl (.inl h2.dp) (.inl g32.dp) h2.lay (Nat.le_trans h2.dep (by decide)) ?_
        refine ⟨false, rfl, ?_⟩
        rw [if_neg Bool.false_ne_true]
        clean_wf
        rw [ref_non]
        clean_wf
        refine ⟨u, tb, [q.1, q.2], [r.1, r.2], rfl, rfl, SqT.of (k02 _ _ g2), SqT.of gb2, ?_⟩
        refine ⟨_, rfl, rest _ _ ⟨y1, kvs, pq, k2, ⟨gs2, sk2, gp2, pl2, bk.nd⟩, by omega, fun _ e => .inl e⟩⟩
      · have b3 : But pd H2 (upd H2 pd (.dT (putK kvs (bK q) pv))) := .upd
        have gp3 : (upd H2 pd (.dT (putK kvs (bK q) pv))) pd = some (.dT (putK kvs (bK q) pv)) := upd_same
        rw [putK_new hn] at b3 gp3 ⊢
        generalize upd H2 pd (.dT (kvs ++ [(bK q, pv)])) = H3 at b3 gp3 ⊢
        have kt3 : SmH H2 H3 := fun a xs e => b3.at (ne_of e gp2 (by intro z; cases z)) e
        have hp3 := b3.at (ne_of hp2 gp2 (by intro z; cases z)) hp2
        have g33 := g32.up kt3
        clean_wf
        refine rNeP_refl (.inl g33.dp) (.inl g33.dp) g33.lay (Nat.le_trans g33.dep (by decide)) ?_
        refine ⟨false, rfl, ?_⟩
        rw [if_neg Bool.false_ne_true]
        clean_wf
        rw [ref_non]
        clean_wf
        refine ⟨u, tb, [q.1, q.2], [r.1, r.2], rfl, rfl, SqT.of (kt3 _ _ (k02 _ _ g2)), SqT.of (kt3 _ _ gb2), ?_⟩
        refine ⟨_, rfl, rest _ _ ⟨y1, kvs ++ [(bK q, pv)], pq ++ [(q, dp)], fun x o n1 n2 e => b3.at n2 (k2 x o n1 n2 e), ⟨b3.at npd.symm gs2, fun x hx => (sk2 x hx).up kt3, gp3, Paired.snoc (Paired.mapP pl2 fun _ _ z => ⟨z.1, z.2.up kt3⟩) ⟨rfl, g33⟩, key_nd bk.nd hn⟩, by rw [List.length_append]; exact Nat.le_refl _, fun x hx => ?_⟩⟩
        rcases List.mem_append.mp hx with w | w
        · exact .inl w
        · exact .inr (by rw [List.mem_singleton.mp w])
    rintro bb A ⟨rfl, kvs', pq', kA, bA, lA, pA⟩
    rw [if_neg Bool.false_ne_true]
    have hpA := kA _ _ (ne_of hp bk.gs (by intro z; cases z)) (ne_of hp bk.gp (by intro z; cases z)) hp
    have g2A := kA _ _ (ne_of g2 bk.gs (by intro z; cases z)) (ne_of g2 bk.gp (by intro z; cases z)) g2
    refine x_next ?_
    dsimp only
    clean_wf
    refine ⟨_, rfl, by decide, by decide, ?_⟩
    refine for_range (fun i σ B => ∃ v6, σ = [some (.ref p), some (.int h), some (.ref sd), some (.ref pd), some (.ref u), some pv, v6] ∧ Same A B) ⟨none, rfl, .refl _⟩ ?_ ?_
    · rintro i σ B hi ⟨v6, rfl, sB⟩
      have hpB := sB _ _ hpA
      have ei : (0 + (i : Int)) = ((i : Nat) : Int) := by omega
      have i0 : (0 : Int) ≤ 0 + (i : Int) := by omega
      clean_wf
      refine ite2 (fun h1 => ?_) fun h1 => ?_
      · have h1 := of_decide_eq_true h1
        rw [ei, Int.toNat_natCast] at h1
        have tb1 := (one_bit sv.1 i).mp h1
        have mem : ((i : Int), q.1, q.2) ∈ ss2.map (·.1) := by
          rcases y4 i tb1 with w | w
          · exact inO _ w
          · rw [w]; exact inN
        clean_wf
        intro t6 B2 ht6 s6 g6
        rw [ei] at g6
        have sAB := sB.trans s6
        clean_wf
        refine ⟨t6, sd, ss2, ((i : Int), q.1, q.2), rfl, rfl, sAB _ _ bA.gs, fun x hx => (bA.sk x hx).up fun _ _ e => sAB _ _ e, ⟨u, g6, sAB _ _ g2A⟩, ?_⟩
        rw [decide_eq_true mem]
        refine ⟨false, rfl, ?_⟩
        rw [if_neg Bool.false_ne_true]
        exact ⟨_, rfl, sAB⟩
      · exact ⟨_, rfl, sB⟩
    rintro σ B ⟨v6, rfl, sB⟩
    have hpB := sB _ _ hpA
    have cp63 : CPow 1 63 := ⟨by decide, by decide, by decide⟩
    have last := (one_bit sv.1 h.toNat).mpr y3
    have vlt := sv.lt z0 z1
    clean_wf
    rw [if_pos (show decide (Builtin.bitAnd (vo / 2 ^ h.toNat) 1 = 1) = true from decide_eq_true last)]
    clean_wf
    rw [show decide (vo < 1 * 2 ^ Int.toNat 63) = true from decide_eq_true (by have : (1 : Int) * 2 ^ Int.toNat 63 = 9223372036854775808 := by decide +kernel
                                                                               omega)]
    exact kk B ss2 kvs' pq' (fun x o n1 n2 e => sB _ _ (kA x o n1 n2 e)) (bA.up sB) ls2 lA inO (fun q' dp' z => by cases z; exact inN) pA
end
end K64


namespace K64
open PySem L2
abbrev s__law_kept : Stmt := top 19
section
variable {P : Program} {w : World} {K : PySem.W.Frag} {mg : Str → Option Value} {base : Heap}

def SlX (H : Hp) : List (Int × V) → List (Int × PyData × (Int × Int)) → Prop := Paired fun e r => e.1 = r.1 ∧ ∃ t u v, e.2 = .ref t ∧ H t = some (.tup [v, .ref u]) ∧ H u = some (.tup [.int r.2.2.1, .int r.2.2.2]) ∧ Pl H 1 v r.2.1
theorem SlX.up {H H' : Hp} (s : SmH H H') {m : List (Int × V)} {sl : List (Int × PyData × (Int × Int))} (h : SlX H m sl) : SlX H' m sl := Paired.mapP h fun _ _ ⟨e1, t, u, v, e2, e3, e4, e5⟩ => ⟨e1, t, u, v, e2, s _ _ e3, s _ _ e4, e5.up s⟩
theorem SlX.keys {H : Hp} : ∀ {m : List (Int × V)} {sl : List (Int × PyData × (Int × Int))}, SlX H m sl → m.map (·.1) = sl.map (·.1)
  | _, _, .nil => rfl
  | _, _, .cons ⟨e1, _⟩ q => by rw [List.map_cons, List.map_cons, e1, SlX.keys q]
theorem SlX.look {H : Hp} {k : Int} {v : V} : ∀ {m : List (Int × V)} {sl : List (Int × PyData × (Int × Int))}, SlX H m sl → lkG m k = some v → ∃ r ∈ sl, r.1 = k ∧ ∃ t u x, v = .ref t ∧ H t = some (.tup [x, .ref u]) ∧ Pl H 1 x r.2.1
  | _, _, .nil, h => nomatch h
  | e :: m, r :: sl, .cons ⟨e1, t, u, x, e2, e3, e4, e5⟩ q, h => by
    have h : (if e.1 = k then some e.2 else lkG m k) = some v := h
    by_cases z : e.1 = k
    · rw [if_pos z] at h
      cases h
      exact ⟨r, List.mem_cons_self, e1.symm.trans z, t, u, x, e2, e3, e5⟩
    · rw [if_neg z] at h
      obtain ⟨r', m', p⟩ := SlX.look q h
      exact ⟨r', List.mem_cons_of_mem _ m', p⟩
theorem pl_isnon {H : Hp} {n : Nat} {x : V} {d : PyData} (h : Pl H n x d) : (d = .none → x = .non) ∧ (d ≠ .none → x ≠ .non) := by
  cases h with
  | non => exact ⟨fun _ => rfl, fun z => absurd rfl z⟩
  | int i => exact ⟨(fun z => nomatch z), (fun _ z => nomatch z)⟩
  | str i l => exact ⟨(fun z => nomatch z), (fun _ z => nomatch z)⟩
  | tup e l h => exact ⟨(fun z => nomatch z), (fun _ z => nomatch z)⟩
theorem lkg_is (m : List (Int × V)) (k : Int) : (lkG m k).isSome = decide (k ∈ m.map (·.1)) := by
  by_cases z : k ∈ m.map (·.1)
  · obtain ⟨v, e, _⟩ := K64.lkg_of z
    rw [e, decide_eq_true z]; rfl
  · rw [L2.lkg_none z, decide_eq_false z]; rfl
theorem putg_add : ∀ {m : List (Int × V)} {k : Int} {v : V}, k ∉ m.map (·.1) → putG m k v = m ++ [(k, v)]
  | [], _, _, _ => rfl
  | p :: m, k, v, h => by
    have n : p.1 ≠ k := fun z => h (by rw [← z]; exact List.mem_cons_self)
    show (if p.1 = k then (p.1, v) :: m else p :: putG m k v) = _
    rw [if_neg n, putg_add fun z => h (List.mem_cons_of_mem _ z)]
    rfl
def sp__law_kept (K : PySem.W.Frag) (mg : Str → Option Value) : Sp := fun vs H Q _ => ∃ (p : Addr) (h : Int) (st : Addr) (bv : V), vs = [.ref p, .int h, .ref st, bv] ∧ ∃ hd b y vo ag d rp m sl b0, ChX K mg H p h hd b y vo ag d rp ∧ H st = some (.dK (dG m)) ∧ SlX H m sl ∧ (m.map (·.1)).Nodup ∧ m.length ≤ 900 ∧ BaV H bv b0 ∧ bgt b0 b = false ∧ (ag = .none → h ∉ sl.map (·.1)) ∧ (∀ r ∈ sl, r.1 = h → r.2.1 = ag) ∧ (ag ≠ .none → y ≠ none) ∧
  ∀ H' m' sl', KpP st H H' → H' st = some (.dK (dG m')) → SlX H' m' sl' → (m'.map (·.1)).Nodup → m'.length ≤ m.length + 1 → (∀ r ∈ sl', r ∈ sl ∨ (r.1 = h ∧ r.2.1 = ag ∧ ag ≠ .none ∧ yb y = some r.2.2)) → (ag ≠ .none → h ∈ sl'.map (·.1)) → (∀ r ∈ sl, r ∈ sl') → Q (.bl true) H'
theorem sc__law_kept : FnScope ["_law_change", "_law_hand", "_law_settled", "_law_before", "_law_found"] ["_law_change", "_law_hand", "_law_settled", "_law_before"] (defScope s__law_kept) := ⟨rfl, rfl, rfl, by decide +kernel, rfl, by decide +kernel, by decide +kernel⟩
set_option maxHeartbeats 4000000 in
theorem ok__law_kept {f f_Change_settled C_Change : Addr} {fd fd_Change_settled : FuncData} (F : Fun K "_law_kept" "_law_kept" s__law_kept f fd)
    (G_Change_settled : FnOk P w K mg base CX0 5 f_Change_settled fd_Change_settled ["self"] (sp_Change_settled K mg)) (B_Change_settled : Binds K fd_Change_settled ["self"] []) (T_Change : TChange K C_Change) (m_Change : mg "Change" = some (.ref C_Change)) (mt_Change_settled : Meth K C_Change "settled" f_Change_settled) : FnOk P w K mg base CX0 6 f fd ["_law_change", "_law_hand", "_law_settled", "_law_before"] (sp__law_kept K mg) := by
  refine F.ok sc__law_kept (fun vs H Q E h => ?_) (fun cdv A outer s H vs Q E hr h => ?_)
  · obtain ⟨p, h, st, bv, rfl, _⟩ := h
    rfl
  obtain ⟨p, h, st, bv, rfl, h⟩ := h
  have hu64 := hr.units
  have hu0 := hr.units0
  have hu := hu_of hr
  refine ⟨_, (pss_cons (ps_set (i := 4) sc__law_kept.nd rfl (Or.inl rfl) (pe_methS0 (MOk.cons T_Change.cl mt_Change_settled G_Change_settled B_Change_settled MOk.nil) (pv 0) hr))
      (pss_cons (ps_if (PW.pt (pw_and (pt_cmpR op_notN (pv 3) pe_non (nomark _)) (pw_and1 (PW.pt (pw_or (pt_cmpR op_isN (pe_fldK (K := K) rfl (pv 0) rfl) pe_non (nomark _)) (pw_or1 (pt_cmpR (op_ltT hu0) (pe_fldK (K := K) rfl (pv 0) rfl) (pv 3) (nomark _)))))))) (pss_one (ps_ret pe_bl)) pss_nil)
      (pss_cons (ps_if (pt_cmpR op_isN (pv 4) pe_non (nomark _)) (pss_one (ps_ret (pe_cmp (pc_dnotin hu (pv 1) (pv 2))))) pss_nil)
      (pss_cons (ps_if (pt_cmp (pc_dnotin hu (pv 1) (pv 2))) (pss_one (ps_dput hu (pv 2) (pv 1) (pe_tup (pa_cons (pv 4) (pa_cons (pe_ix (ix_tupK (K := K) rfl) (pe_fldK (K := K) rfl (pv 0) rfl) pe_int (fun _ _ => rfl)) pa_nil))) rfl)) pss_nil)
      (pss_one (ps_ret (pe_cmpR (op_eqK (K := K) rfl hu64) (pe_ix (ix_tupK (K := K) rfl) (pe_dget hu (pv 2) (pv 1) (fun _ _ => rfl)) pe_int (fun _ _ => rfl)) (pv 4) (nomark _)))))))), ?_⟩
  obtain ⟨hd, b, y, vo, ag, d, rp, m, sl, b0, S, gt, slx, ndm, lm, hb0, rise, no, same, yn, kk⟩ := h
  obtain ⟨⟨C, dx, ba, ye, av, eC, hp, hb, hy, ha⟩, ⟨m2, hd', _⟩, m0, m1, z0, z1, sm, sv, vy⟩ := id S
  rw [m_Change] at eC
  cases eC
  obtain ⟨cl, n1, n2, n3, n4, n5, n6, n7⟩ := id T_Change
  clean_wf
  refine ⟨p, rfl, h, hd, b, y, vo, ag, d, rp, S, fun H1 x1 s1 p1 => ?_⟩
  have hp1 := s1 _ _ hp
  have gt1 := s1 _ _ gt
  have S1 := S.same s1
  have slx1 := slx.up (.same s1)
  refine x_seq ?_
  refine x_ifs_cut (fun bb A => bb = false ∧ H1 = A) ?_ fun N rest => ?_
  rotate_left
  · clean_wf
    cases b0 with
    | none =>
      obtain rfl : bv = .non := hb0
      rw [show decide (V.non = V.non) = true from decide_eq_true rfl]
      clean_wf
      exact rest _ _ ⟨rfl, rfl⟩
    | some r0 =>
      obtain ⟨t0, rfl, g0⟩ := id hb0
      rw [ref_non]
      cases b with
      | none => cases rise
      | some r =>
        obtain ⟨tb, rfl, gb⟩ := id hb
        clean_wf
        rw [ref_non]
        clean_wf
        refine ⟨tb, t0, [r.1, r.2], [r0.1, r0.2], rfl, rfl, SqT.of (s1 _ _ gb), SqT.of (s1 _ _ g0), ?_⟩
        exact ⟨_, rfl, rest _ _ ⟨rise, rfl⟩⟩
  rintro bb _ ⟨rfl, rfl⟩
  rw [if_neg Bool.false_ne_true]
  refine x_next ?_
  dsimp only
  by_cases az : ag = .none
  · obtain rfl := (pl_isnon p1).1 az
    clean_wf
    rw [show decide (V.non = V.non) = true from decide_eq_true rfl]
    clean_wf
    rw [lkg_is, slx.keys, decide_eq_false (no az)]
    exact kk H1 m sl (fun x o _ e => s1 _ _ e) gt1 slx1 ndm (by omega) (fun _ e => .inl e) (fun z => absurd az z) (fun _ e => e)
  · have xn := (pl_isnon p1).2 az
    obtain ⟨q, dp, ey⟩ : ∃ q dp, y = some (q, dp) := by
      cases y with
      | none => exact absurd rfl (yn az)
      | some y => exact ⟨y.1, y.2, rfl⟩
    subst ey
    obtain ⟨t, u, pv, rfl, g1, g2, g3⟩ := id hy
    have g11 := s1 _ _ g1
    have st1 := SqT.of (K := K) g11
    have a0 : atI [V.ref u, pv] 0 = some (.ref u) := by kernel_rfl
    refine x_seq ?_
    clean_wf
    rw [decide_eq_false xn]
    clean_wf
    -- behind the look whether the hand is known
    refine x_cut (fun σ' A => σ' = [some (.ref p), some (.int h), some (.ref st), some bv, some x1] ∧ ∃ m' sl', KpP st H1 A ∧ A st = some (.dK (dG m')) ∧ SlX A m' sl' ∧ (m'.map (·.1)).Nodup ∧ m'.length ≤ m.length + 1 ∧ (∀ r ∈ sl', r ∈ sl ∨ (r.1 = h ∧ r.2.1 = ag ∧ ag ≠ .none ∧ yb (some (q, dp)) = some r.2.2)) ∧ h ∈ sl'.map (·.1) ∧ ∀ r ∈ sl, r ∈ sl') ?_ fun N rest => ?_
    rotate_left
    · clean_wf
      rw [lkg_is]
      refine ite2 (fun h1 => ?_) fun h1 => ?_
      · have nm : h ∉ m.map (·.1) := fun z => by rw [decide_eq_true z] at h1; cases h1
        clean_wf
        intro t7 H2 ht7 s2 g7
        have gt2 := s2 _ _ gt1
        have ls : m.length < sizeLine := small1000 (by omega)
        clean_wf
        intro H3 b3 g9
        rw [putg_add nm] at g9
        have kt3 : SmH H2 H3 := fun a xs e => b3.at (ne_of e gt2 (by intro z; cases z)) e
        have s12 := s1.trans s2
        refine rest _ _ ⟨rfl, m ++ [(h, .ref t7)], sl ++ [(h, ag, q)], fun x o n e => b3.at n (s2 _ _ e), g9, Paired.snoc ((slx.up (.same s12)).up kt3) ⟨rfl, t7, u, x1, rfl, kt3 _ _ g7, kt3 _ _ (s12 _ _ g2), (p1.up (.same s2)).up kt3⟩, ?_, by rw [List.length_append]; exact Nat.le_refl _, fun r hr => ?_, by rw [List.map_append]; exact List.mem_append_right _ (List.mem_singleton.mpr rfl), fun r hr => List.mem_append_left _ hr⟩
        · rw [List.map_append]
          exact List.nodup_append.mpr ⟨ndm, by simp, fun x hx y hy e => nm (by have hy : y = h := List.mem_singleton.mp hy; rw [← hy, ← e]; exact hx)⟩
        · rcases List.mem_append.mp hr with w | w
          · exact .inl w
          · rw [List.mem_singleton.mp w]
            exact .inr ⟨rfl, rfl, az, rfl⟩
      · have hm : h ∈ m.map (·.1) := by
          by_cases z : h ∈ m.map (·.1)
          · exact z
          · rw [decide_eq_false z] at h1; exact absurd rfl h1
        exact rest _ _ ⟨rfl, m, sl, fun _ _ _ e => e, gt1, slx1, ndm, by omega, fun _ e => .inl e, by rw [← slx.keys]; exact hm, fun _ e => e⟩
    rintro σ' A ⟨rfl, m', sl', kA, gA, slA, ndA, lA, pA, hA, oA⟩
    have ktA : SmH H1 A := fun a xs e => kA _ _ (ne_of e gt1 (by intro z; cases z)) e
    obtain ⟨vv, lk, _⟩ := K64.lkg_of (show h ∈ m'.map (·.1) by rw [slA.keys]; exact hA)
    obtain ⟨r, hr, er, t8, u8, x8, rfl, e8, p8⟩ := slA.look lk
    have st8 := SqT.of (K := K) e8
    have a8 : atI [x8, V.ref u8] 0 = some x8 := by kernel_rfl
    have ed : r.2.1 = ag := by
      rcases pA r hr with w | w
      · exact same r w er
      · exact w.2.1
    rw [ed] at p8
    clean_wf
    refine rEqP_refl (.inl p8.dp) (.inl (p1.up ktA).dp) p8.lay (Nat.le_trans p8.dep (by decide)) ?_
    exact kk A m' sl' (fun x o n e => kA _ _ n (s1 _ _ e)) gA slA ndA lA pA (fun _ => hA) oA
end
end K64


namespace K64
open PySem L2
abbrev s__law_deed : Stmt := top 21
section
variable {P : Program} {w : World} {K : PySem.W.Frag} {mg : Str → Option Value} {base : Heap}
theorem atI_back {α : Type} {xs : List α} {k : Int} (h0 : 0 ≤ k) (h1 : k < (xs.length : Nat)) : ∃ v ∈ xs, atI xs (-1 - k) = some v := by
  have lt : (-1 - k + xs.length).toNat < xs.length := by omega
  refine ⟨xs[(-1 - k + xs.length).toNat], List.getElem_mem lt, ?_⟩
  have e : ixN xs.length (-1 - k) = some (-1 - k + xs.length).toNat := by
    unfold ixN
    rw [if_neg (by omega), if_pos (by omega)]
  unfold atI
  rw [e]
  exact List.getElem?_eq_getElem lt

def Ml (H : Hp) (hd : Int) (hs : List Int) (c : Int → Cg) (PL : Pln) (VT : Vot) (x : V) : Prop := ∃ t g a b' y' vo' dr, x = .ref t ∧ H t = some (.tup [.int g, .ref a]) ∧ MsgX H a g b' y' vo' dr ∧ Sub vo' hd ∧ Lt hs c PL VT g b' y' vo'
theorem Ml.up {H H' : Hp} {hd : Int} {hs : List Int} {c c1 : Int → Cg} {PL PL1 : Pln} {VT VT1 : Vot} {x : V} (h : Ml H hd hs c PL VT x) (s : SmH H H') (g : Gr c c1 PL PL1 VT VT1) : Ml H' hd hs c1 PL1 VT1 x := by
  obtain ⟨t, g', a, b', y', vo', dr, e, e1, e2, e3, e4⟩ := h
  exact ⟨t, g', a, b', y', vo', dr, e, s _ _ e1, e2.up s, e3, e4.up g⟩
theorem ml_pl {H : Hp} {hd : Int} {hs : List Int} {c : Int → Cg} {PL : Pln} {VT : Vot} {x : V} (h : Ml H hd hs c PL VT x) : ∃ d, Pl H 4 x d := by
  obtain ⟨t, g', a, b', y', vo', dr, rfl, e1, e2, _⟩ := h
  exact ⟨_, .tup e1 (by show 2 ≤ 10; decide) (.cons (.int _) (.cons (msg_pl e2) .nil))⟩
theorem ml_dps {K : PySem.W.Frag} {H : Hp} {hd : Int} {hs : List Int} {c : Int → Cg} {PL : Pln} {VT : Vot} : ∀ {ys : List V}, (∀ y ∈ ys, Ml H hd hs c PL VT y) → ∃ ds, Dps K H ys ds ∧ PyData.canLayAll0 ds = true ∧ ds.length = ys.length
  | [], _ => ⟨[], .nil, rfl, rfl⟩
  | y :: ys, h => by
    obtain ⟨ds, h1, h2, h3⟩ := ml_dps (ys := ys) fun z hz => h z (List.mem_cons_of_mem _ hz)
    obtain ⟨d, hd⟩ := ml_pl (h y List.mem_cons_self)
    exact ⟨d :: ds, .cons hd.dp h1, by rw [PyData.canLayAll0.eq_2, hd.lay, h2]; rfl, by rw [List.length_cons, List.length_cons, h3]⟩
theorem x_neNil {K : PySem.W.Frag} {H : Hp} {Q : VK} {a b : Addr} {xs : List V} {ds : List PyData} (ha : SqL K H a xs) (hx : Dps K H xs ds) (hl : PyData.canLayAll0 ds = true) (hb : SqL K H b []) (q : Q (.bl (!decide (ds = []))) H) : rNeP K (.ref a) (.ref b) H Q := by
  refine ⟨.list ds, .list [], .inr ⟨_, _, _, rfl, rfl, ha, hx⟩, .inr ⟨_, _, _, rfl, rfl, hb, .nil⟩, by rw [PyData.canLay0.eq_5]; exact hl, rfl, by have : (PyData.list []).depth = 1 := rfl; omega, ?_⟩
  have e : (PyData.list ds).eqv (.list []) = decide (ds = []) := by
    cases ds with
    | nil => rfl
    | cons d ds => rw [decide_eq_false (by intro z; cases z)]; rfl
  rw [e]
  exact q

def KpD (pa da la ml : Addr) (H H' : Hp) : Prop := ∀ x o, x ≠ pa → x ≠ da → x ≠ la → x ≠ ml → H x = some o → (∀ ps, o ≠ .tbl ps) → H' x = some o

structure Dz (K : PySem.W.Frag) (mg : Str → Option Value) (Pt dc la ml : Addr) (hs : List Int) (hd : Int) (p : Int → Addr) (B : Hp) (d : Int → Addr) (z : Zt) (y' ys : List V) (PL : Pln) (VT : Vot) : Prop where
  wd : Wd K mg B dc hs hd p d z.c
  gl : B la = some (.lst y')
  pl : Pls B 1 y' z.an
  gm : B ml = some (.lst ys)
  mm : ∀ x ∈ ys, Ml B hd hs z.c PL VT x
  iv : Iv hs hd z.c PL VT
  ai : Ai PL z.an
  tb : TabM Pt B
  nl : ml ≠ la
section
variable {Pt : Addr} {B B' : Hp} {dc la ml : Addr} {hs : List Int} {hd : Int} {p d d' : Int → Addr} {z z' : Zt} {y' y1 ys : List V} {PL PL1 : Pln} {VT VT1 : Vot}
theorem Dz.same (D : Dz K mg Pt dc la ml hs hd p B d z y' ys PL VT) (s : Same B B') : Dz K mg Pt dc la ml hs hd p B' d z y' ys PL VT :=
  ⟨D.wd.same s, s _ _ D.gl, D.pl.up (.same s), s _ _ D.gm, fun x hx => (D.mm x hx).up (.same s) (.refl _ _ _), D.iv, D.ai, D.tb.same s, D.nl⟩

theorem Dz.one (D : Dz K mg Pt dc la ml hs hd p B d z y' ys PL VT) {h : Int} (hh : h ∈ hs) (fr : ∀ x o, x ≠ p h → x ≠ d h → B x = some o → B' x = some o) {g : Cg} {d1 : Addr} (n : ChX K mg B' (p h) h hd g.b g.y g.vo g.ag d1 g.rp) (w : d1 = d h ∨ B d1 = none) (x : Dd hs hd h z ⟨fupd z.c h g, z.an⟩ PL PL1 VT VT1) :
    Dz K mg Pt dc la ml hs hd p B' (fupd d h d1) ⟨fupd z.c h g, z.an⟩ y' ys PL1 VT1 := by
  obtain ⟨⟨C, dx, ba, ye, av, _, e2, _⟩, ⟨mm, f2, _⟩, _⟩ := id (D.wd.ch h hh)
  have kp : KpL la B B' := D.wd.kpl hh fun x o q1 q2 _ _ e => fr x o q1 q2 e
  have ls : ∀ {a xs}, B a = some (.lst xs) → B' a = some (.lst xs) := fun e => fr _ _ (ne_of e e2 (by intro z; cases z)) (ne_of e f2 (by intro z; cases z)) e
  refine ⟨D.wd.step hh (fun x o q1 q2 _ _ e => fr x o q1 q2 e) n w, ls D.gl, D.pl.up (kp.sm D.gl), ls D.gm, fun y hy => (D.mm y hy).up (kp.sm D.gl) x.gr, x.iv, x.ai, ?_, D.nl⟩
  exact D.tb.up fun x o e z => fr _ _ (ne_of e e2 (by rcases z with ⟨_, rfl⟩ | ⟨_, rfl⟩ <;> (intro w; cases w))) (ne_of e f2 (by rcases z with ⟨_, rfl⟩ | ⟨_, rfl⟩ <;> (intro w; cases w))) e

theorem Dz.prp (D : Dz K mg Pt dc la ml hs hd p B d z y' ys PL VT) {h dd : Int} (k : KpH (p h) (d h) la B B') (hh : h ∈ hs) (W' : Wd K mg B' dc hs hd p d (ppz hd dd h z).c) (g' : B' la = some (.lst y1)) (p' : Pls B' 1 y1 (ppz hd dd h z).an) (t' : TabM Pt B') (i' : Iv hs hd (ppz hd dd h z).c PL1 VT1) (a' : Ai PL1 (ppz hd dd h z).an) (gr : Gr z.c (ppz hd dd h z).c PL PL1 VT VT1) : Dz K mg Pt dc la ml hs hd p B' d (ppz hd dd h z) y1 ys PL1 VT1 := by
  obtain ⟨⟨C, dx, ba, ye, av, _, e2, _⟩, ⟨mm, f2, _⟩, _⟩ := id (D.wd.ch h hh)
  have kt : SmH B B' := fun a xs e => k _ _ (ne_of e e2 (by intro z; cases z)) (ne_of e f2 (by intro z; cases z)) (ne_of e D.gl (by intro z; cases z)) e (fun _ z => nomatch z)
  exact ⟨W', g', p', k _ _ (ne_of D.gm e2 (by intro z; cases z)) (ne_of D.gm f2 (by intro z; cases z)) D.nl D.gm (fun _ z => nomatch z), fun x hx => (D.mm x hx).up kt gr, i', a', t', D.nl⟩
end
def sp__law_deed (K : PySem.W.Frag) (mg : Str → Option Value) (P_mk : Addr) : Sp := fun vs H Q _ => ∃ (dc : Addr) (h : Int) (ml la xa : Addr), vs = [.ref dc, .int h, .ref ml, .ref la, .ref xa] ∧ ∃ (hs : List Int) (hd : Int) (p d : Int → Addr) (z : Zt) (y0 ys : List V) (xs : List Int) (PL : Pln) (VT : Vot), Dz K mg P_mk dc la ml hs hd p H d z y0 ys PL VT ∧ Gp hs hd ∧ hs.length ≤ 6 ∧ h ∈ hs ∧ y0.length ≤ 880 ∧ ys.length ≤ 880 ∧ H xa = some (.lst (xs.map V.int)) ∧ xs.length = 8 ∧ xa ≠ la ∧ xa ≠ ml ∧
  ∀ H' d' (z' : Zt) y1 ys1 PL1 VT1, KpD (p h) (d h) la ml H H' → Dz K mg P_mk dc la ml hs hd p H' d' z' y1 ys1 PL1 VT1 → (∀ j, j ≠ h → d' j = d j) → (d' h = d h ∨ H (d' h) = none) → y1.length ≤ y0.length + 1 → ys1.length ≤ ys.length + 1 → Dd hs hd h z z' PL PL1 VT VT1 → Q .non H'
theorem sc__law_deed : FnScope ["_law_changes", "_law_hand", "_law_mail", "_law_answered", "_law_xs", "_law_deed_here", "_law_giver", "_law_message"] ["_law_changes", "_law_hand", "_law_mail", "_law_answered", "_law_xs"] (defScope s__law_deed) := ⟨rfl, rfl, rfl, by decide +kernel, rfl, by decide +kernel, by decide +kernel⟩
set_option maxHeartbeats 8000000 in
theorem ok__law_deed {f f_Change_begin f_Change_message f_Change_receive f__law_propose C_Change : Addr} {fd fd_Change_begin fd_Change_message fd_Change_receive fd__law_propose : FuncData} {P_mk : Addr} (F : Fun K "_law_deed" "_law_deed" s__law_deed f fd)
    (G_Change_begin : FnOk P w K mg base CX0 8 f_Change_begin fd_Change_begin ["self", "more", "report"] (sp_Change_begin K mg)) (B_Change_begin : Binds K fd_Change_begin ["self", "more", "report"] [])
    (G_Change_message : FnOk P w K mg base CX0 8 f_Change_message fd_Change_message ["self", "report"] (sp_Change_message K mg)) (B_Change_message : Binds K fd_Change_message ["self", "report"] [])
    (G_Change_receive : FnOk P w K mg base CX0 8 f_Change_receive fd_Change_receive ["self", "message"] (sp_Change_receive K mg)) (B_Change_receive : Binds K fd_Change_receive ["self", "message"] [])
    (G__law_propose : FnOk P w K mg base CX0 8 f__law_propose fd__law_propose ["_law_changes", "_law_hand", "_law_answered", "_law_xs"] (sp__law_propose K mg P_mk)) (C__law_propose : Cal K mg "_law_propose" f__law_propose fd__law_propose ["_law_changes", "_law_hand", "_law_answered", "_law_xs"]) (h_len : mg "len" = none) (T_Change : TChange K C_Change) (m_Change : mg "Change" = some (.ref C_Change)) (mt_Change_begin : Meth K C_Change "begin" f_Change_begin) (mt_Change_message : Meth K C_Change "message" f_Change_message) (mt_Change_receive : Meth K C_Change "receive" f_Change_receive) : FnOk P w K mg base CX0 9 f fd ["_law_changes", "_law_hand", "_law_mail", "_law_answered", "_law_xs"] (sp__law_deed K mg P_mk) := by
  refine F.ok sc__law_deed (fun vs H Q E h => ?_) (fun cdv A outer s H vs Q E hr h => ?_)
  · obtain ⟨dc, h, ml, la, xa, rfl, _⟩ := h
    rfl
  obtain ⟨dc, h, ml, la, xa, rfl, h⟩ := h
  have hu64 := hr.units
  have hu0 := hr.units0
  have hu := hu_of hr
  refine ⟨_, (pss_cons (ps_set (i := 5) sc__law_deed.nd rfl (Or.inl rfl) (pe_op op_mod (pe_ix (ix_listK (K := K) rfl) (pv 4) pe_int (fun _ _ => rfl)) pe_int))
      (pss_one (ps_if (pt_cmpR op_eq (pv 5) pe_int (nomark _)) (pss_one (ps_expr (pe_methS (MOk.cons T_Change.cl mt_Change_begin G_Change_begin B_Change_begin MOk.nil) (pe_dget hu (pv 0) (pv 1) (fun _ _ => rfl)) hr (pa_cons (pe_op op_add pe_int (pe_op op_mod (pe_ix (ix_listK (K := K) rfl) (pv 4) pe_int (fun _ _ => rfl)) (pe_ix (ix_listK (K := K) rfl) (pe_lst (pa_cons pe_int (pa_cons pe_int (pa_cons (pe_op op_pow pe_int pe_int) pa_nil)))) (pe_op op_mod (pe_ix (ix_listK (K := K) rfl) (pv 4) pe_int (fun _ _ => rfl)) pe_int) (fun _ _ => rfl)))) (pa_cons (pe_ix (ix_listK (K := K) rfl) (pv 4) pe_int (fun _ _ => rfl)) pa_nil))))) (pss_one (ps_if (pt_cmpR op_lt (pv 5) pe_int (nomark _)) (pss_one (ps_expr (pcall G__law_propose C__law_propose hr (pa_cons (pv 0) (pa_cons (pv 1) (pa_cons (pv 3) (pa_cons (pv 4) pa_nil))))))) (pss_one (ps_if (pt_cmpR op_lt (pv 5) pe_int (nomark _)) (pss_one (ps_expr (pe_appendK (K := K) rfl (pe_bm PySem.F.plainAttrs_list PySem.F.slot_list_append PySem.F.type_list_append mt_append (pv 2) (pa_cons (pe_tup (pa_cons (pv 1) (pa_cons (pe_methS (MOk.cons T_Change.cl mt_Change_message G_Change_message B_Change_message MOk.nil) (pe_dget hu (pv 0) (pv 1) (fun _ _ => rfl)) hr (pa_cons (pe_ix (ix_listK (K := K) rfl) (pv 4) pe_int (fun _ _ => rfl)) pa_nil)) pa_nil))) pa_nil))))) (pss_one (ps_if (pt_cmpR (op_neK (K := K) rfl hu64) (pv 2) (pe_lst pa_nil) (nomark _)) (pss_cons (ps_asg (pe_ix (ix_listK (K := K) rfl) (pv 2) (pe_op op_sub (pe_un un_neg pe_int) (pe_op op_mod (pe_ix (ix_listK (K := K) rfl) (pv 4) pe_int (fun _ _ => rfl)) (pe_callB (call_lenK (K := K) rfl) (by rfl) h_len PySem.boot_len (pa_cons (pv 2) pa_nil)))) (fun _ _ => rfl)) (pg_tupK (K := K) (n := 2) rfl rfl (pgs_cons (pg_name (i := 6) sc__law_deed.nd rfl (Or.inl rfl)) (pgs_cons (pg_name (i := 7) sc__law_deed.nd rfl (Or.inl rfl)) pgs_nil))))
      (pss_one (ps_if (pt_cmpR op_ne (pv 6) (pv 1) (nomark _)) (pss_cons (ps_expr (pe_methS (MOk.cons T_Change.cl mt_Change_receive G_Change_receive B_Change_receive MOk.nil) (pe_dget hu (pv 0) (pv 1) (fun _ _ => rfl)) hr (pa_cons (pv 7) pa_nil)))
      (pss_one (ps_if (pt_cmpR op_eq (pe_op op_mod (pe_ix (ix_listK (K := K) rfl) (pv 4) pe_int (fun _ _ => rfl)) pe_int) pe_int (nomark _)) (pss_one (ps_expr (pcall G__law_propose C__law_propose hr (pa_cons (pv 0) (pa_cons (pv 1) (pa_cons (pv 3) (pa_cons (pv 4) pa_nil))))))) pss_nil))) pss_nil))) pss_nil))))))))), ?_⟩
  obtain ⟨hs, hd, p, d, z, y0, ys, xs, PL, VT, D, G, l6, hh, ly0, lys, gxa, lx, nxl, nxm, kk⟩ := h
  obtain ⟨cl, n1, n2, n3, n4, n5, n6, n7⟩ := id T_Change
  have hxs := SqL.of (K := K) gxa
  have at1 := at_int (xs := xs) (i := 1) (by omega)
  have at2 := at_int (xs := xs) (i := 2) (by omega)
  have at3 := at_int (xs := xs) (i := 3) (by omega)
  have at4 := at_int (xs := xs) (i := 4) (by omega)
  have at5 := at_int (xs := xs) (i := 5) (by omega)
  have gd := D.wd.gd
  have lk := lk_fn (f := p) hh
  have S := D.wd.ch h hh
  obtain ⟨⟨C, dx, ba, ye, av, eC, hp, hbb, hyy, _⟩, ⟨m2, hd', _⟩, m0, m1, _, _, _, sv, _⟩ := id S
  rw [m_Change] at eC
  cases eC
  have gm := D.gm
  have sm := SqL.of (K := K) gm
  have done : ∀ A, Same H A → Q .non A := fun A sA => kk A d z y0 ys PL VT (fun x o _ _ _ _ e _ => sA _ _ e) (D.same sA) (fun _ _ => rfl) (.inl rfl) (by omega) (by omega) (.refl D.iv D.ai h)
  clean_wf
  refine ite2 (fun _ => ?_) fun _ => ?_
  · clean_wf
    intro l3 B2 hl3 r2 g3
    have D2 := D.same r2
    have sl3 := SqL.of (K := K) g3
    have hx2 := r2.seq hxs
    have hp2 := r2 _ _ hp
    obtain ⟨w, hw, wp⟩ : ∃ w : Int, atI [V.int 1, V.int 3, V.int (10 ^ Int.toNat 9)] (xs[3] % 3) = some (.int w) ∧ 0 < w := by
      have h0 := Int.emod_nonneg xs[3] (show (3 : Int) ≠ 0 by decide)
      have h1 := Int.emod_lt_of_pos xs[3] (show (0 : Int) < 3 by decide)
      rcases (show xs[3] % 3 = 0 ∨ xs[3] % 3 = 1 ∨ xs[3] % 3 = 2 by omega) with e | e | e <;> rw [e]
      · exact ⟨1, by kernel_rfl, by decide⟩
      · exact ⟨3, by kernel_rfl, by decide⟩
      · exact ⟨10 ^ Int.toNat 9, by kernel_rfl, by decide +kernel⟩
    have st0 := Int.emod_nonneg xs[2] (show w ≠ 0 by omega)
    clean_wf
    refine ⟨p h, _, .int xs[4], rfl, h, hd, _, _, _, _, d h, _, _, D2.wd.ch h hh, .int _, fun B4 d4 k4 c4 f4 => ?_⟩
    have x4 : Dd hs hd h z ⟨fupd z.c h (bgn h (z.c h) (1 + xs[2] % w) (.int xs[4])), z.an⟩ PL PL VT VT := Dd.begin D2.iv D2.ai hh (by omega)
    have D4 := D2.one (g := bgn h (z.c h) (1 + xs[2] % w) (.int xs[4])) hh (fun x o q1 _ e => k4 x o q1 e) c4 (.inr f4) x4
    clean_wf
    exact kk B4 _ _ y0 ys PL VT (fun x o q1 _ _ _ e _ => k4 _ _ q1 (r2 _ _ e)) D4 (fun j n => fupd_ne n) (.inr (by rw [fupd_eq]; exact r2.free f4)) (by omega) (by omega) x4
  clean_wf
  refine ite2 (fun _ => ?_) fun _ => ?_
  · clean_wf
    refine ⟨dc, h, la, xa, rfl, hs, hd, p, d, z.c, y0, z.an, xs, D.wd, G, l6, hh, D.gl, D.pl, by omega, gxa, lx, D.tb, fun dd B3 d3 y3 k3 e3 W3 g3 a3 t3 => ?_⟩
    subst e3
    obtain ⟨PL3, VT3, x3, _⟩ := ppz_ok (z := z) G D.iv D.ai hh dd
    have D3 := D.prp (dd := dd) k3 hh W3 g3 a3 t3 x3.iv x3.ai x3.gr
    have l3 := pls_len D3.pl
    have l30 := prN_len h hd dd (z.c h) z.an
    have l31 := pls_len D.pl
    have l32 : (ppz hd dd h z).an.length = (prN h hd dd (z.c h) z.an).length := rfl
    clean_wf
    exact kk B3 d3 _ y3 ys PL3 VT3 (fun x o q1 q2 q3 _ e q5 => k3 x o q1 q2 q3 e q5) D3 (fun _ _ => rfl) (.inl rfl) (by omega) (by omega) x3
  clean_wf
  refine ite2 (fun _ => ?_) fun _ => ?_
  · clean_wf
    refine ⟨p h, .int xs[4], rfl, h, hd, _, _, _, _, d h, _, _, S, .int _, fun B3 a r3 e3 => ?_⟩
    clean_wf
    intro t5 B4 ht5 r4 g5
    have D4 := (D.same r3).same r4
    have gm4 := D4.gm
    have ls : ys.length < sizeLine := small1000 (by omega)
    clean_wf
    intro B5 b5 g6
    have kt : SmH B4 B5 := fun a xs e => b5.at (ne_of e gm4 (by intro z; cases z)) e
    have D5 : Dz K mg P_mk dc la ml hs hd p B5 d z y0 (ys ++ [.ref t5]) PL VT := ⟨D4.wd.kept fun a o e _ q => b5.at (fun u => by rw [u, gm4] at e; cases e; exact q _ rfl) e, b5.at D.nl.symm D4.gl, D4.pl.up kt, g6, fun x hx => by
      rcases List.mem_append.mp hx with u | u
      · exact (D4.mm x u).up kt (.refl _ _ _)
      · rw [List.mem_singleton.mp u]
        exact ⟨t5, h, a, _, _, _, _, rfl, kt _ _ g5, (e3.up (.same r4)).up kt, sv, D4.iv.lt hh⟩, D4.iv, D4.ai, D4.tb.up fun x o e q => b5.at (ne_of e gm4 (by rcases q with ⟨_, rfl⟩ | ⟨_, rfl⟩ <;> (intro w; cases w))) e, D.nl⟩
    exact kk B5 d z y0 _ PL VT (fun x o _ _ _ q4 e _ => b5.at q4 (r4 _ _ (r3 _ _ e))) D5 (fun _ _ => rfl) (.inl rfl) (by omega) (by rw [List.length_append]; exact Nat.le_refl _) (.refl D.iv D.ai h)
  clean_wf
  intro e0 A3 he0 r3 ge0
  have D2 := D.same r3
  have hp3 := r3 _ _ hp
  obtain ⟨ds, dp, dl, dn⟩ := ml_dps (K := K) D2.mm
  refine x_neNil (SqL.of D2.gm) dp dl (SqL.of ge0) ?_
  clean_wf
  refine ite2 (fun h3 => ?_) fun h3 => ?_
  · have ne : 0 < ys.length := by
      cases u : ys with
      | nil =>
        rw [u] at dn
        rw [List.length_eq_zero_iff.mp dn] at h3
        cases h3
      | cons y l => rw [List.length_cons]; omega
    have hx3 := r3.seq hxs
    have sm3 := SqL.of (K := K) D2.gm
    have gd3 := D2.wd.gd
    have pl : (0 : Int) < (ys.length : Nat) := by omega
    have q0 := Int.emod_nonneg xs[2] (show ((ys.length : Nat) : Int) ≠ 0 by omega)
    have q1 := Int.emod_lt_of_pos xs[2] pl
    obtain ⟨y9, hy9, aty⟩ := atI_back (xs := ys) q0 q1
    obtain ⟨t, g, a, b', y2, vo', dr, rfl, e1, e2, e3, e4⟩ := D2.mm y9 hy9
    have st := SqT.of (K := K) e1
    clean_wf
    refine ite2 (fun h2 => ?_) fun h2 => ?_
    · have ng : g ≠ h := by simpa using h2
      clean_wf
      refine ⟨p h, a, rfl, h, hd, _, _, _, _, d h, _, g, b', y2, vo', _, D2.wd.ch h hh, e2, ng, (G.rg g e4.g).1, (G.rg g e4.g).2, e3, fun B4 d4 k4 c4 w4 => ?_⟩
      obtain ⟨VT4, x4, n4⟩ := recv_ok (z := z) G D2.iv D2.ai hh e4 dr
      have D4 := D2.one (g := rcv h hd (z.c h) g b' y2 vo' dr) hh (fun x o q1 q2 e => k4 x o q1 q2 e) c4 w4 x4
      have gx4 : B4 xa = some (.lst (xs.map V.int)) := k4 _ _ (ne_of (r3 _ _ gxa) hp3 (by intro z; cases z)) (ne_of (r3 _ _ gxa) (r3 _ _ hd') (by intro z; cases z)) (r3 _ _ gxa)
      have sx4 := SqL.of (K := K) gx4
      have w4' : fupd d h d4 h = d h ∨ H (fupd d h d4 h) = none := by
        rw [fupd_eq]
        rcases w4 with u | u
        · exact .inl u
        · exact .inr (r3.free u)
      clean_wf
      refine ite2 (fun _ => ?_) fun _ => ?_
      · clean_wf
        refine ⟨dc, h, la, xa, rfl, hs, hd, p, _, _, y0, z.an, xs, D4.wd, G, l6, hh, D4.gl, D4.pl, by omega, gx4, lx, D4.tb, fun dd B5 d5 y5 k5 e5 W5 g5 a5 t5 => ?_⟩
        subst e5
        obtain ⟨PL5, VT5, x5, n5⟩ := ppz_ok G x4.iv x4.ai hh dd
        have D5 := D4.prp (dd := dd) k5 hh W5 g5 a5 t5 x5.iv x5.ai x5.gr
        have l3 := pls_len D5.pl
        have l30 := prN_len h hd dd (fupd z.c h (rcv h hd (z.c h) g b' y2 vo' dr) h) z.an
        have l31 := pls_len D.pl
        have l32 : (ppz hd dd h ⟨fupd z.c h (rcv h hd (z.c h) g b' y2 vo' dr), z.an⟩).an.length = (prN h hd dd (fupd z.c h (rcv h hd (z.c h) g b' y2 vo' dr) h) z.an).length := rfl
        clean_wf
        exact kk B5 _ _ y5 ys PL5 VT5 (fun x o q1 q2 q3 _ e q5 => k5 x o q1 (fun u => by
          rcases w4' with v | v
          · exact q2 (u.trans v)
          · rw [u, v] at e; cases e) q3 (k4 _ _ q1 q2 (r3 _ _ e)) q5) D5 (fun j n => fupd_ne n) w4' (by omega) (by omega) (x4.both n4 x5 n5)
      · exact kk B4 _ _ y0 ys PL VT4 (fun x o q1 q2 _ _ e _ => k4 _ _ q1 q2 (r3 _ _ e)) D4 (fun j n => fupd_ne n) w4' (by omega) (by omega) x4
    · exact done A3 r3
  · exact done A3 r3
end
end K64


namespace K64
open PySem L2
abbrev s__law_right : Stmt := top 22
abbrev s__law_agreed : Stmt := top 20
section
variable {P : Program} {w : World} {K : PySem.W.Frag} {mg : Str → Option Value} {base : Heap}

def Ikt (o : HO) : Prop := (∃ C dx fs, o = .ins C dx fs) ∨ (∃ kvs, o = .dK kvs) ∨ ∃ xs, o = .tup xs
theorem Wd.upS {H H' : Hp} {dc st : Addr} {hs : List Int} {hd : Int} {p d : Int → Addr} {c : Int → Cg} (W : Wd K mg H dc hs hd p d c) (n1 : dc ≠ st) (n2 : ∀ h ∈ hs, d h ≠ st) (gt : ∃ kvs, H st = some (.dK kvs)) (k : ∀ a o, a ≠ st → H a = some o → Ikt o → H' a = some o) : Wd K mg H' dc hs hd p d c := by
  obtain ⟨kt, gt⟩ := gt
  have ks : SmH H H' := fun a xs e => k _ _ (ne_of e gt (by intro z; cases z)) e (.inr (.inr ⟨_, rfl⟩))
  refine ⟨k _ _ n1 W.gd (.inr (.inl ⟨_, rfl⟩)), fun h hh => ?_, W.np, W.nd, W.nc⟩
  obtain ⟨⟨C, dx, ba, ye, av, _, e2, _⟩, ⟨mm, f2, _⟩, _⟩ := id (W.ch h hh)
  exact (W.ch h hh).up (fun o e => by rw [e2] at e; cases e; exact k _ _ (ne_of e2 gt (by intro z; cases z)) e2 (.inl ⟨_, _, _, rfl⟩)) (fun o e => by rw [f2] at e; cases e; exact k _ _ (n2 h hh) f2 (.inr (.inl ⟨_, rfl⟩))) ks
theorem ikt_ne {o : HO} (h : Ikt o) : (∀ φ, o ≠ .ext φ) ∧ ∀ kvs, o ≠ .dT kvs := by
  rcases h with ⟨_, _, _, rfl⟩ | ⟨_, rfl⟩ | ⟨_, rfl⟩ <;> exact ⟨(fun _ z => nomatch z), (fun _ z => nomatch z)⟩

structure Rt (h : Int) (b0 : Option (Int × Int)) (g : Cg) (ss : List (SK × Addr)) (pq : List ((Int × Int) × PyData)) (sl : List (Int × PyData × (Int × Int))) : Prop where
  yn : g.y = none → g.ag = .none
  ys : ∀ q dp, g.y = some (q, dp) → bgt (some q) g.b = false ∧ (∀ r ∈ pq, r.1 = q → r.2 = dp) ∧ g.vo.toNat.testBit h.toNat = true ∧ ∀ j : Nat, g.vo.toNat.testBit j = true → ((j : Int), q.1, q.2) ∈ ss.map (·.1) ∨ (j : Int) = h
  rise : bgt b0 g.b = false
  no : g.ag = .none → h ∉ sl.map (·.1)
  same : ∀ r ∈ sl, r.1 = h → r.2.1 = g.ag

structure Rt' (h : Int) (g : Cg) (ss ss' : List (SK × Addr)) (pq pq' : List ((Int × Int) × PyData)) (sl sl' : List (Int × PyData × (Int × Int))) : Prop where
  so : ∀ k, k ∈ ss.map (·.1) → k ∈ ss'.map (·.1)
  sn : ∀ q dp, g.y = some (q, dp) → (h, q.1, q.2) ∈ ss'.map (·.1)
  pn : ∀ r ∈ pq', r ∈ pq ∨ g.y = some r
  ln : ∀ r ∈ sl', r ∈ sl ∨ (r.1 = h ∧ r.2.1 = g.ag ∧ g.ag ≠ .none ∧ yb g.y = some r.2.2)
  li : g.ag ≠ .none → h ∈ sl'.map (·.1)
  lo : ∀ r ∈ sl, r ∈ sl'

structure Bt (H : Hp) (ta st sd pd : Addr) (ss : List (SK × Addr)) (kvs : List (List Key × V)) (pq : List ((Int × Int) × PyData)) (m : List (Int × V)) (sl : List (Int × PyData × (Int × Int))) : Prop where
  ta : H ta = some (.tup [.ref st, .ref sd, .ref pd])
  bk : Bk H sd pd ss kvs pq
  gt : H st = some (.dK (dG m))
  clean_wf : SlX H m sl
  nd : (m.map (·.1)).Nodup
def sp__law_right (K : PySem.W.Frag) (mg : Str → Option Value) : Sp := fun vs H Q _ => ∃ (dc : Addr) (h : Int) (ta : Addr) (bv : V), vs = [.ref dc, .int h, .ref ta, bv] ∧ ∃ (hs : List Int) (hd : Int) (p d : Int → Addr) (c : Int → Cg) (st sd pd : Addr) (ss : List (SK × Addr)) (kvs : List (List Key × V)) (pq : List ((Int × Int) × PyData)) (m : List (Int × V)) (sl : List (Int × PyData × (Int × Int))) (b0 : Option (Int × Int)), Wd K mg H dc hs hd p d c ∧ h ∈ hs ∧ dc ≠ st ∧ (∀ h ∈ hs, d h ≠ st) ∧ Bt H ta st sd pd ss kvs pq m sl ∧ ss.length ≤ 900 ∧ kvs.length ≤ 900 ∧ m.length ≤ 900 ∧ BaV H bv b0 ∧ Rt h b0 (c h) ss pq sl ∧
  ∀ H' ss' kvs' pq' m' sl', (∀ x o, x ≠ sd → x ≠ pd → x ≠ st → H x = some o → H' x = some o) → Wd K mg H' dc hs hd p d c → Bt H' ta st sd pd ss' kvs' pq' m' sl' → ss'.length ≤ ss.length + 1 → kvs'.length ≤ kvs.length + 1 → m'.length ≤ m.length + 1 → Rt' h (c h) ss ss' pq pq' sl sl' → Q (.bl true) H'
theorem sc__law_right : FnScope ["_law_changes", "_law_hand", "_law_state", "_law_before", "_law_settled", "_law_said", "_law_plans"] ["_law_changes", "_law_hand", "_law_state", "_law_before"] (defScope s__law_right) := ⟨rfl, rfl, rfl, by decide +kernel, rfl, by decide +kernel, by decide +kernel⟩
set_option maxHeartbeats 4000000 in
theorem ok__law_right {f f__law_noted f__law_kept : Addr} {fd fd__law_noted fd__law_kept : FuncData} (F : Fun K "_law_right" "_law_right" s__law_right f fd)
    (G__law_noted : FnOk P w K mg base CX0 6 f__law_noted fd__law_noted ["_law_change", "_law_hand", "_law_said", "_law_plans"] (sp__law_noted K mg)) (C__law_noted : Cal K mg "_law_noted" f__law_noted fd__law_noted ["_law_change", "_law_hand", "_law_said", "_law_plans"])
    (G__law_kept : FnOk P w K mg base CX0 6 f__law_kept fd__law_kept ["_law_change", "_law_hand", "_law_settled", "_law_before"] (sp__law_kept K mg)) (C__law_kept : Cal K mg "_law_kept" f__law_kept fd__law_kept ["_law_change", "_law_hand", "_law_settled", "_law_before"]) : FnOk P w K mg base CX0 7 f fd ["_law_changes", "_law_hand", "_law_state", "_law_before"] (sp__law_right K mg) := by
  refine F.ok sc__law_right (fun vs H Q E h => ?_) (fun cdv A outer s H vs Q E hr h => ?_)
  · obtain ⟨dc, h, ta, bv, rfl, _⟩ := h
    rfl
  obtain ⟨dc, h, ta, bv, rfl, h⟩ := h
  have hu64 := hr.units
  have hu0 := hr.units0
  have hu := hu_of hr
  refine ⟨_, (pss_cons (ps_asg (pv 2) (pg_tupK (K := K) (n := 3) rfl rfl (pgs_cons (pg_name (i := 4) sc__law_right.nd rfl (Or.inl rfl)) (pgs_cons (pg_name (i := 5) sc__law_right.nd rfl (Or.inl rfl)) (pgs_cons (pg_name (i := 6) sc__law_right.nd rfl (Or.inl rfl)) pgs_nil)))))
      (pss_cons (ps_if (pt_not (pt_callK K rfl (pcall G__law_noted C__law_noted hr (pa_cons (pe_dget hu (pv 0) (pv 1) (fun _ _ => rfl)) (pa_cons (pv 1) (pa_cons (pv 5) (pa_cons (pv 6) pa_nil))))))) (pss_one (ps_ret pe_bl)) pss_nil)
      (pss_one (ps_ret (pcall G__law_kept C__law_kept hr (pa_cons (pe_dget hu (pv 0) (pv 1) (fun _ _ => rfl)) (pa_cons (pv 1) (pa_cons (pv 4) (pa_cons (pv 3) pa_nil))))))))), ?_⟩
  obtain ⟨hs, hd, p, d, c, st, sd, pd, ss, kvs, pq, m, sl, b0, W, hh, n1, n2, B, ls, lk, lm, hb0, R, kk⟩ := h
  have gd := W.gd
  have lkp := lk_fn (f := p) hh
  have gta := B.ta
  have sta := SqT.of (K := K) gta
  have bk := B.bk
  have gt := B.gt
  have kinds : ∀ {a o}, H a = some o → (∀ φ, o ≠ .ext φ) → (∀ kvs, o ≠ .dT kvs) → a ≠ sd ∧ a ≠ pd := fun e q1 q2 => ⟨ne_of e bk.gs (q1 _), ne_of e bk.gp (q2 _)⟩
  clean_wf
  refine ⟨p h, h, sd, pd, rfl, hd, (c h).b, (c h).y, (c h).vo, (c h).ag, d h, (c h).rp, ss, kvs, pq, W.ch h hh, bk, ls, lk, R.yn, R.ys, fun H1 ss1 kvs1 pq1 k1 bk1 ls1 lk1 so sn pn => ?_⟩
  have kI : ∀ a o, H a = some o → Ikt o → H1 a = some o := fun a o e q => k1 a o (kinds e (ikt_ne q).1 (ikt_ne q).2).1 (kinds e (ikt_ne q).1 (ikt_ne q).2).2 e
  have W1 := W.upS n1 n2 ⟨_, gt⟩ fun a o _ e q => kI a o e q
  have gt1 := kI _ _ gt (.inr (.inl ⟨_, rfl⟩))
  have sm1 : SmH H H1 := fun a xs e => kI _ _ e (.inr (.inr ⟨_, rfl⟩))
  have gd1 := W1.gd
  clean_wf
  refine ⟨p h, h, st, bv, rfl, hd, (c h).b, (c h).y, (c h).vo, (c h).ag, d h, (c h).rp, m, sl, b0, W1.ch h hh, gt1, B.clean_wf.up sm1, B.nd, lm, hb0.up sm1, R.rise, R.no, R.same, fun az yz => az (R.yn yz), fun H2 m2 sl2 k2 gt2 array_mem_dec nd2 lm2 ln li lo => ?_⟩
  have sd' : sd ≠ st := ne_of bk1.gs gt1 (by intro z; cases z)
  have pd' : pd ≠ st := ne_of bk1.gp gt1 (by intro z; cases z)
  have sm2 : SmH H1 H2 := fun a xs e => k2 _ _ (ne_of e gt1 (by intro z; cases z)) e
  exact kk H2 ss1 kvs1 pq1 m2 sl2 (fun x o q1 q2 q3 e => k2 _ _ q3 (k1 x o q1 q2 e)) (W1.upS n1 n2 ⟨_, gt1⟩ fun a o q e _ => k2 a o q e) ⟨sm2 _ _ (sm1 _ _ gta), ⟨k2 _ _ sd' bk1.gs, fun x hx => (bk1.sk x hx).up sm2, k2 _ _ pd' bk1.gp, Paired.mapP bk1.pl fun _ _ z => ⟨z.1, z.2.up sm2⟩, bk1.nd⟩, gt2, array_mem_dec, nd2⟩ ls1 lk1 lm2 ⟨so, sn, pn, ln, li, lo⟩
theorem val_at {kvs : List (List Key × V)} (nd : (kvs.map (·.1)).Nodup) : ∀ {j : Nat} {k : List Key} {v : V}, kvs[j]? = some (k, v) → valV kvs k = some v := by
  induction kvs with
  | nil => intro j k v h; simp at h
  | cons e kvs ih =>
    intro j k v h
    rw [List.map_cons, List.nodup_cons] at nd
    cases j with
    | zero =>
      have h : e = (k, v) := by simpa using h
      subst h
      exact valV_pos rfl
    | succ j =>
      have h : kvs[j]? = some (k, v) := by simpa using h
      rw [valV_neg (fun z => nd.1 (by rw [z]; exact List.mem_map_of_mem (f := (·.1)) (List.mem_of_getElem? h)))]
      exact ih nd.2 h
theorem pl_ne {K : PySem.W.Frag} {H : Hp} {Q : VK} {x x' : V} {d : PyData} (h1 : Pl H 1 x d) (h2 : Pl H 1 x' d) (q : Q (.bl false) H) : rNeP K x x' H Q := rNeP_refl (.inl h1.dp) (.inl h2.dp) h1.lay (Nat.le_trans h1.dep (by decide)) q
def sp__law_agreed (K : PySem.W.Frag) : Sp := fun vs H Q _ => ∃ (st la pd : Addr), vs = [.ref st, .ref la, .ref pd] ∧ ∃ (m : List (Int × V)) (sl : List (Int × PyData × (Int × Int))) (kvs : List (List Key × V)) (pq : List ((Int × Int) × PyData)) (y0 : List V) (an : List PyData), H st = some (.dK (dG m)) ∧ SlX H m sl ∧ m.length ≤ 900 ∧ H la = some (.lst y0) ∧ Pls H 1 y0 an ∧ H pd = some (.dT kvs) ∧ Paired (fun e r => e.1 = bK r.1 ∧ Pl H 1 e.2 r.2) kvs pq ∧ kvs.length ≤ 900 ∧ (kvs.map (·.1)).Nodup ∧
  (∀ r ∈ sl, r.2.1 ∈ an ∧ (∀ r' ∈ sl, r'.2.1 = r.2.1) ∧ ∀ e ∈ pq, bgt (some e.1) (some r.2.2) = true → e.2 = r.2.1) ∧ ∀ H', Q (.bl true) H'
theorem sc__law_agreed : FnScope ["_law_settled", "_law_answered", "_law_plans", "_law_found", "_law_plan", "_law_ballot"] ["_law_settled", "_law_answered", "_law_plans"] (defScope s__law_agreed) := ⟨rfl, rfl, rfl, by decide +kernel, rfl, by decide +kernel, by decide +kernel⟩
set_option maxHeartbeats 4000000 in
theorem ok__law_agreed {f  : Addr} {fd  : FuncData} (F : Fun K "_law_agreed" "_law_agreed" s__law_agreed f fd) : FnOk P w K mg base CX0 1 f fd ["_law_settled", "_law_answered", "_law_plans"] (sp__law_agreed K) := by
  refine F.ok sc__law_agreed (fun vs H Q E h => ?_) (fun cdv A outer s H vs Q E hr h => ?_)
  · obtain ⟨st, la, pd, rfl, _⟩ := h
    rfl
  obtain ⟨st, la, pd, rfl, h⟩ := h
  have hu64 := hr.units
  have hu0 := hr.units0
  have hu := hu_of hr
  refine ⟨_, (pss_cons (ps_thaw (ps_comp (i := 3) ["_law_plan", "_law_ballot"] [none, none] sc__law_agreed.nd rfl (Or.inl rfl) rfl rfl (by kernel_rfl) (pi_vals (pv 0)) (fun _ _ _ _ _ nd => pg_tupK (K := K) (n := 2) rfl rfl (pgs_cons (pg_name (i := 0) nd rfl (Or.inl rfl)) (pgs_cons (pg_name (i := 1) nd rfl (Or.inl rfl)) pgs_nil))) (fun _ _ _ _ _ => pif_nil) (fun _ _ _ _ _ => (pv 0))))
      (pss_cons (ps_for PassesOwn.never rfl (pi_vals (pv 0)) (pg_tupK (K := K) (n := 2) rfl rfl (pgs_cons (pg_name (i := 4) sc__law_agreed.nd rfl (Or.inr rfl)) (pgs_cons (pg_name (i := 5) sc__law_agreed.nd rfl (Or.inr rfl)) pgs_nil)))
      (pss_cons (ps_if (PW.pt (pw_or (pt_cmpR (op_ninK (K := K) rfl hu64) (pv 4) (pv 1) (by rfl)) (pw_or1 (pt_cmpR (op_neK (K := K) rfl hu64) (pv 4) (pe_ix (ix_listK (K := K) rfl) (pv 3) pe_int (fun _ _ => rfl)) (nomark _))))) (pss_one (ps_ret pe_bl)) pss_nil)
      (pss_one (ps_thawT (ps_if (pt_cmpR (op_neK (K := K) rfl hu64) (pe_comp ["_law_ballot", "_law_plan", "_law_plans", "_law_one"] [some 5, some 4, some 2, none] rfl rfl (by kernel_rfl) (pi_keysT (pv 2)) (fun _ _ _ _ _ nd => pg_name (i := 3) nd rfl (Or.inl rfl)) (fun _ _ _ _ _ => (pif_one (PW.pt (pw_and (pt_cmpR (op_gtT (K := K) rfl hu0) (pv 3) (pv 0) (nomark _)) (pw_and1 (pt_cmpR (op_neK (K := K) rfl hu64) (pe_dget hu (pv 2) (pv 3) (fun _ _ => rfl)) (pv 1) (nomark _))))))) (fun _ _ _ _ _ => (pv 3))) (pe_lst pa_nil) (nomark _)) (pss_one (ps_ret pe_bl)) pss_nil)))))
      (pss_one (ps_ret pe_bl)))), ?_⟩
  obtain ⟨m, sl, kvs, pq, y0, an, gt, sx0, lm, gla, pan, gp, plx, lk, ndk, al, kk⟩ := h
  refine x_thaw (d := st) gt ?_
  clean_wf
  refine x_fz gt fun o A hA sA => ?_
  intro D hD
  have nDst : D ≠ st := fun z => by rw [z, hA] at hD; cases hD
  have lr : m.length = sl.length := Paired.length sx0
  have kt : ∀ {B : Hp}, Same A B → SmH H B := fun sB a xs z => sB _ _ (sA _ _ (ne_of z gt (by intro z; cases z)) z)
  refine comp_vals (fun i σ B => ∃ v1 v2 ys, σ = [v1, v2] ∧ Same A B ∧ B D = some (.lst ys) ∧ ys.length = i ∧ Pls B 1 ys ((sl.take i).map (·.2.1))) ⟨none, none, [], rfl, same_upd hD, upd_same, rfl, .nil⟩ ?_ ?_ ?_
  · rintro i σ B _ ⟨_, _, _, _, z, _⟩
    exact z _ _ hA
  · rintro i ky v σ B hkv ⟨v1, v2, ys, rfl, sB, hDx, ly, hys⟩
    obtain ⟨e, he, rfl, rfl⟩ := dG_get hkv
    have hi := (List.getElem?_eq_some_iff.mp he).1
    obtain ⟨r, hri, _, t, u, x, q1, q2, q3, q4⟩ := paired_at sx0 he
    have htB := kt sB _ _ q2
    have st := SqT.of (K := K) htB
    rw [q1]
    clean_wf
    have kp : SmH B (upd B D (.lst (ys ++ [x]))) := SmH.lst hDx
    refine ⟨_, hDx, small1000 (by omega), _, _, ys ++ [x], rfl, fun b o z => ?_, upd_same, by rw [List.length_append, ly]; rfl, ?_⟩
    · rw [upd_ne (ne_of_none z hD)]
      exact sB b o z
    · rw [take_get hri, List.map_append, List.map_cons, List.map_nil]
      exact pls_snoc (hys.up kp) ((q4.up (kt sB)).up kp)
  rintro σ B ⟨v1, v2, ys, rfl, sB, hDx, ly, hys⟩
  rw [dG_len] at ly
  rw [dG_len, lr, List.take_length] at hys
  clean_wf
  refine ⟨⟨o, sB _ _ hA⟩, ?_⟩
  have tS : Same H (upd B st (.dK (dG m))) := thaw_same (fun b u n e => sB _ _ (sA b u n e)) gt
  have gD1 : (upd B st (.dK (dG m))) D = some (.lst ys) := by rw [upd_ne nDst]; exact hDx
  have sm1 : SmH B (upd B st (.dK (dG m))) := fun a xs e => by rw [upd_ne (fun z => by rw [z, sB _ _ hA] at e; cases e)]; exact e
  have hys1 := hys.up sm1
  generalize upd B st (.dK (dG m)) = B1 at tS gD1 hys1 ⊢
  dsimp only
  have gt1 := tS _ _ gt
  clean_wf
  refine x_fz gt1 fun o2 A2 hA2 sA2 => ?_
  have nst : ∀ {a o}, B1 a = some o → (∀ kvs, o ≠ .dK kvs) → A2 a = some o := fun e n => sA2 _ _ (ne_of e gt1 (n _)) e
  have smA : SmH H A2 := fun a xs e => nst (tS _ _ e) (fun _ z => nomatch z)
  have gla2 := nst (tS _ _ gla) (fun _ z => nomatch z)
  have gp2 := nst (tS _ _ gp) (fun _ z => nomatch z)
  have gD2 := nst gD1 (fun _ z => nomatch z)
  have hys2 : Pls A2 1 ys (sl.map (·.2.1)) := hys1.up fun a xs e => nst e (fun _ z => nomatch z)
  refine for_vals (fun i σ E => ∃ v4 v5, σ = [some (.ref st), some (.ref la), some (.ref pd), some (.ref D), v4, v5] ∧ Same A2 E) ⟨none, none, rfl, .refl _⟩ (fun i σ E _ z => by obtain ⟨_, _, _, z⟩ := z; exact z _ _ hA2) ?_ ?_
  · rintro i ky v σ E hkv ⟨v4, v5, rfl, sE⟩
    obtain ⟨e, he, rfl, rfl⟩ := dG_get hkv
    obtain ⟨r, hri, _, t, u, x, q1, q2, q3, q4⟩ := paired_at sx0 he
    have hrm := List.mem_of_getElem? hri
    obtain ⟨a1, a2, a3⟩ := al r hrm
    have smE : SmH H E := fun a xs e => sE _ _ (smA _ _ e)
    have stt := SqT.of (K := K) (smE _ _ q2)
    have px := q4.up smE
    have panE := pan.up smE
    have glE := sE _ _ gla2
    have gDE := sE _ _ gD2
    have slD := SqL.of (K := K) gDE
    have hysE := hys2.up (.same sE)
    obtain ⟨x0, h0, p0⟩ : ∃ x0, atI ys 0 = some x0 ∧ Pl E 1 x0 r.2.1 := by
      have i0 : i < sl.length := (List.getElem?_eq_some_iff.mp hri).1
      cases eys : ys with
      | nil => rw [eys, List.length_nil] at ly; omega
      | cons x0 ys' =>
        rw [eys] at hysE
        cases sl with
        | nil => cases hrm
        | cons r0 sl' =>
          cases hysE with
          | cons g1 _ => exact ⟨x0, atI_nat (j := 0) rfl, by rw [← a2 r0 List.mem_cons_self]; exact g1⟩
    rw [q1]
    clean_wf
    refine x_ninP (SqL.of glE) panE.dp px.dp panE.lay px.lay (Nat.le_trans px.dep (by decide)) a1 ?_
    clean_wf
    refine pl_ne px p0 ?_
    refine ⟨false, rfl, ?_⟩
    rw [if_neg Bool.false_ne_true]
    have gpE := sE _ _ gp2
    refine x_thawT (d := pd) gpE ?_
    clean_wf
    refine x_fzTT gpE fun o3 A3 hA3 sA3 => ?_
    intro D3 hD3
    have plE : Paired (fun e r => e.1 = bK r.1 ∧ Pl E 1 e.2 r.2) kvs pq := Paired.mapP plx fun _ _ z => ⟨z.1, z.2.up smE⟩
    have sm3 : SmH E A3 := fun a xs e => sA3 _ _ (ne_of e gpE (by intro z; cases z)) e
    refine comp_keysT (kvs := kvs) (fun j σ F => ∃ w, σ = [some (.ref u), some x, some (.ref pd), w] ∧ Same A3 F ∧ F D3 = some (.lst [])) ⟨none, rfl, same_upd hD3, upd_same⟩ ?_ ?_ ?_
    · rintro j σ F _ ⟨_, _, z, _⟩
      exact z _ _ hA3
    · rintro j k v b σ F hk ⟨w, rfl, sF, gF⟩ gb
      obtain ⟨e2, he2, ek, pe⟩ := paired_at plE hk
      have ek : k = bK e2.1 := ek
      subst ek
      have sbF : SqT K F b ([e2.1.1, e2.1.2].map V.int) := SqT.of gb
      have suF : SqT K F u ([r.2.2.1, r.2.2.2].map V.int) := SqT.of (sF _ _ (sm3 _ _ (smE _ _ q3)))
      clean_wf
      refine ⟨b, u, [e2.1.1, e2.1.2], [r.2.2.1, r.2.2.2], rfl, rfl, sbF, suF, ?_⟩
      clean_wf
      refine ite2 (fun h1 => ?_) fun h1 => ?_
      · have ed := a3 e2 (List.mem_of_getElem? he2) h1
        have hv : valV kvs (bK e2.1) = some v := val_at ndk hk
        have pdF : Rd F pd (.dT kvs) := .inr ⟨o3, sF _ _ hA3⟩
        clean_wf
        refine ⟨pd, v, rfl, .inr ⟨kvs, bK e2.1, b, pdF, rfl, gb, hv.symm⟩, ?_⟩
        clean_wf
        have pv : Pl F 1 v r.2.1 := by rw [← ed]; exact (pe.up sm3).up (.same sF)
        refine pl_ne pv ((px.up sm3).up (.same sF)) ?_
        refine ⟨false, rfl, ?_⟩
        rw [if_neg Bool.false_ne_true]
        exact ⟨_, rfl, sF, gF⟩
      · exact ⟨_, rfl, sF, gF⟩
    rintro σ F ⟨w, rfl, sF, gF⟩
    clean_wf
    intro e9 F9 he9 s9 g9
    refine rNeP_refl (d := .list []) (.inr ⟨D3, [], [], rfl, rfl, SqL.of (s9 _ _ gF), .nil⟩) (.inr ⟨e9, [], [], rfl, rfl, SqL.of g9, .nil⟩) rfl (by decide) ?_
    refine ⟨false, rfl, ?_⟩
    rw [if_neg Bool.false_ne_true]
    refine ⟨⟨o3, s9 _ _ (sF _ _ hA3)⟩, ?_⟩
    have tE : Same E (upd F9 pd (.dT kvs)) := fun b u e => by
      by_cases z : b = pd
      · rw [z] at e ⊢
        rw [gpE] at e
        cases e
        exact upd_same
      · rw [upd_ne z]
        exact s9 _ _ (sF _ _ (sA3 _ _ z e))
    exact ⟨_, _, rfl, sE.trans tE⟩
  rintro σ E ⟨v4, v5, rfl, sE⟩
  clean_wf
  exact kk E
end
end K64


namespace K64
open PySem L2
abbrev s__law_cell_at : Stmt := top 14
abbrev s__law_stream : Stmt := top 15
abbrev s__law_hands : Stmt := top 16
section
variable {P : Program} {w : World} {K : PySem.W.Frag} {mg : Str → Option Value} {base : Heap}
def sp__law_cell_at (K : PySem.W.Frag) : Sp := fun vs H Q _ => ∃ (a : Addr) (k : Int), vs = [.ref a, .int k] ∧ ∃ ns : List Int, SqL K H a (ns.map V.int) ∧ 0 ≤ k ∧ ∀ c : Int, Q (.int c) H
theorem sc__law_cell_at : FnScope ["_law_script", "_law_k"] ["_law_script", "_law_k"] (defScope s__law_cell_at) := ⟨rfl, rfl, rfl, by decide +kernel, rfl, by decide +kernel, by decide +kernel⟩
theorem ok__law_cell_at {f  : Addr} {fd  : FuncData} (F : Fun K "_law_cell_at" "_law_cell_at" s__law_cell_at f fd) (h_len : mg "len" = none) : FnOk P w K mg base CX0 1 f fd ["_law_script", "_law_k"] (sp__law_cell_at K) := by
  refine F.ok sc__law_cell_at (fun vs H Q E h => ?_) (fun cdv A outer s H vs Q E hr h => ?_)
  · obtain ⟨a, k, rfl, _⟩ := h
    rfl
  obtain ⟨a, k, rfl, h⟩ := h
  have hu64 := hr.units
  have hu0 := hr.units0
  have hu := hu_of hr
  refine ⟨_, (pss_cons (ps_if (pt_cmpR op_lt (pv 1) (pe_callB (call_lenK (K := K) rfl) (by rfl) h_len PySem.boot_len (pa_cons (pv 0) pa_nil)) (nomark _)) (pss_one (ps_ret (pe_ix (ix_listK (K := K) rfl) (pv 0) (pv 1) (fun _ _ => rfl)))) pss_nil)
      (pss_one (ps_ret pe_int))), ?_⟩
  obtain ⟨ns, hS, h0, q⟩ := h
  clean_wf
  refine ite2 (fun h1 => ?_) fun h1 => ?_
  · have h1 : k < ((ns.map V.int).length : Nat) := of_decide_eq_true h1
    rw [List.length_map] at h1
    have hx : k.toNat < ns.length := by omega
    have hat : atI (ns.map V.int) k = some (V.int ns[k.toNat]) := atI_int h0 (by rw [List.getElem?_map, List.getElem?_eq_getElem hx]; rfl)
    clean_wf
    exact q _
  · clean_wf
    exact q _
theorem cut1 (ns : List Int) : cutV (ns.map V.int) (some 1) none = (ns.drop 1).map V.int := by
  unfold cutV
  show ((ns.map V.int).drop (HT.sIx (ns.map V.int).length 0 (some 1))).take _ = _
  have e1 : HT.sIx (ns.map V.int).length 0 (some 1) = min 1 (ns.map V.int).length := by
    show (if (1 : Int) < 0 then ((1 : Int) + ((ns.map V.int).length : Nat)).toNat else min (1 : Int).toNat (ns.map V.int).length) = _
    rw [if_neg (by decide)]
    rfl
  have e2 : HT.sIx (ns.map V.int).length (ns.map V.int).length none = (ns.map V.int).length := rfl
  rw [e1, e2, List.map_drop]
  cases ns with
  | nil => rfl
  | cons x ns =>
    rw [List.map_cons, List.length_cons, show min 1 ((ns.map V.int).length + 1) = 1 by omega, List.drop_one, List.tail_cons]
    exact List.take_of_length_le (by omega)

def Mx (x : Int) : Prop := 0 ≤ x ∧ x < 10000000000
theorem pow10 : (10 : Int) ^ (10 : Int).toNat = 10000000000 := by decide
theorem pow10p : (0 : Int) < (10 : Int) ^ (10 : Int).toNat := by rw [pow10]; decide
def sp__law_stream (K : PySem.W.Frag) : Sp := fun vs H Q _ => ∃ (c n : Int), vs = [.int c, .int n] ∧ 0 ≤ n ∧ n ≤ 100 ∧ ∀ H' l (xs : List Int), Same H H' → H l = none → H' l = some (.lst (xs.map V.int)) → xs.length = n.toNat → (∀ x ∈ xs, Mx x) → Q (.ref l) H'
theorem sc__law_stream : FnScope ["_law_cell", "_law_amount", "_law_found", "_law_rest", "_law_k", "_law_number"] ["_law_cell", "_law_amount"] (defScope s__law_stream) := ⟨rfl, rfl, rfl, by decide +kernel, rfl, by decide +kernel, by decide +kernel⟩
set_option maxHeartbeats 1000000 in
theorem ok__law_stream {f  : Addr} {fd  : FuncData} (F : Fun K "_law_stream" "_law_stream" s__law_stream f fd) (h_range : mg "range" = none) : FnOk P w K mg base CX0 1 f fd ["_law_cell", "_law_amount"] (sp__law_stream K) := by
  refine F.ok sc__law_stream (fun vs H Q E h => ?_) (fun cdv A outer s H vs Q E hr h => ?_)
  · obtain ⟨c, n, rfl, _⟩ := h
    rfl
  obtain ⟨c, n, rfl, h⟩ := h
  have hu64 := hr.units
  have hu0 := hr.units0
  have hu := hu_of hr
  refine ⟨_, (pss_cons (ps_set (i := 2) sc__law_stream.nd rfl (Or.inl rfl) (pe_lst pa_nil))
      (pss_cons (ps_set (i := 3) sc__law_stream.nd rfl (Or.inl rfl) (pe_op op_fdiv (pv 0) pe_int))
      (pss_cons (ps_if (pt_cmpR op_eq (pe_op op_mod (pv 0) pe_int) pe_int (nomark _)) (pss_cons (ps_for PassesOwn.never rfl (pi_range1 rfl h_range (pa_cons (pv 1) pa_nil)) (pg_name (i := 4) sc__law_stream.nd rfl (Or.inl rfl))
      (pss_cons (ps_expr (pe_appendK (K := K) rfl (pe_bm PySem.F.plainAttrs_list PySem.F.slot_list_append PySem.F.type_list_append mt_append (pv 2) (pa_cons (pe_op op_mod (pv 3) (pe_op op_pow pe_int pe_int)) pa_nil))))
      (pss_one (ps_set (i := 3) sc__law_stream.nd rfl (Or.inl rfl) (pe_op op_fdivB (pv 3) (pe_op op_pow pe_int pe_int))))))
      (pss_one (ps_ret (pv 2)))) pss_nil)
      (pss_cons (ps_set (i := 5) sc__law_stream.nd rfl (Or.inl rfl) (pe_op op_add (pe_op op_mod (pv 3) pe_int) pe_int))
      (pss_cons (ps_for PassesOwn.never rfl (pi_range1 rfl h_range (pa_cons (pe_op op_add (pv 1) pe_int) pa_nil)) (pg_name (i := 4) sc__law_stream.nd rfl (Or.inl rfl))
      (pss_cons (ps_set (i := 5) sc__law_stream.nd rfl (Or.inl rfl) (pe_op op_mod (pe_op op_add (pe_op op_add (pe_op op_mul (pv 5) (pv 5)) (pe_op op_mul pe_int (pv 5))) (pv 4)) pe_int))
      (pss_one (ps_expr (pe_appendK (K := K) rfl (pe_bm PySem.F.plainAttrs_list PySem.F.slot_list_append PySem.F.type_list_append mt_append (pv 2) (pa_cons (pe_op op_mod (pe_op op_mul (pv 5) (pe_op op_add (pe_op op_fdiv (pv 5) pe_int) pe_int)) pe_int) pa_nil)))))))
      (pss_one (ps_ret (pe_slice (sl_listK (K := K) rfl) (pv 2) (po_some pe_int) po_none)))))))), ?_⟩
  obtain ⟨h0, h1, k⟩ := h
  have p10 := pow10p
  clean_wf
  intro l H1 hl s1 g1
  clean_wf
  refine x_cut (fun σ' H2 => σ' = [some (.int c), some (.int n), some (.ref l), some (.int (c / 2)), none, none] ∧ Same H H2 ∧ H2 l = some (.lst [])) ?_ fun N rest => ?_
  · rintro σ' H2 ⟨rfl, s2, g2⟩
    clean_wf
    refine ⟨_, rfl, by omega, by omega, ?_⟩
    have c0 := Int.emod_nonneg (c / 2) (show (2147483647 : Int) ≠ 0 by decide)
    have c1 := Int.emod_lt_of_pos (c / 2) (show (0 : Int) < 2147483647 by decide)
    refine for_range (fun i σ H' => ∃ v num xs, σ = [some (.int c), some (.int n), some (.ref l), some (.int (c / 2)), v, some (.int num)] ∧ Same H H' ∧ H' l = some (.lst ((xs : List Int).map V.int)) ∧ xs.length = i ∧ (∀ x ∈ xs, Mx x) ∧ 0 ≤ num ∧ num < 4294967296)
      ⟨none, _, [], rfl, s2, g2, rfl, (fun _ z => nomatch z), by omega, by omega⟩ ?_ ?_
    · rintro i σ H' hi ⟨v, num, xs, rfl, sm, hl', lx, hm, n0, n1⟩
      have m1 : CMul num num := .inl ⟨by omega, by omega⟩
      have m2 : CMul 48271 num := .inl ⟨by decide, by decide⟩
      have le : (xs.map V.int).length ≤ 1000 := by rw [List.length_map]; omega
      have ls := small1000 le
      have z0 := Int.emod_nonneg (num * num + 48271 * num + (0 + (i : Int))) (show (2147483647 : Int) ≠ 0 by decide)
      have z1 := Int.emod_lt_of_pos (num * num + 48271 * num + (0 + (i : Int))) (show (0 : Int) < 2147483647 by decide)
      have m3 : ∀ y, CMul ((num * num + 48271 * num + (0 + (i : Int))) % 2147483647) y := fun y => .inl ⟨by omega, by omega⟩
      have m4 := m3 ((num * num + 48271 * num + (0 + (i : Int))) % 2147483647 / 613 + 40692)
      clean_wf
      intro H2 b2 g2
      generalize (num * num + 48271 * num + (0 + (i : Int))) % 2147483647 = w at z0 z1 m4 g2 ⊢
      have y0 := Int.emod_nonneg (w * (w / 613 + 40692)) (show (2147483399 : Int) ≠ 0 by decide)
      have y1 := Int.emod_lt_of_pos (w * (w / 613 + 40692)) (show (0 : Int) < 2147483399 by decide)
      refine ⟨_, _, xs ++ [w * (w / 613 + 40692) % 2147483399], rfl, b2.same sm hl, by rw [g2, List.map_append]; rfl, by rw [List.length_append, lx]; rfl, fun x hx => ?_, z0, by omega⟩
      rcases List.mem_append.mp hx with z | z
      · exact hm x z
      · rw [List.mem_singleton.mp z]
        exact ⟨y0, by omega⟩
    rintro σ H' ⟨v, num, xs, rfl, sm, hl', lx, hm, n0, n1⟩
    clean_wf
    intro q H2 hq s2 g2
    rw [cut1] at g2
    refine k H2 q (xs.drop 1) (sm.trans s2) (sm.free hq) g2 (by rw [List.length_drop, lx]; omega) fun x hx => hm x (List.mem_of_mem_drop hx)
  clean_wf
  refine ite2 (fun _ => ?_) fun _ => ?_
  · clean_wf
    refine ⟨_, rfl, by omega, by omega, ?_⟩
    refine for_range (fun i σ H' => ∃ v r xs, σ = [some (.int c), some (.int n), some (.ref l), some (.int r), v, none] ∧ Same H H' ∧ H' l = some (.lst ((xs : List Int).map V.int)) ∧ xs.length = i ∧ (∀ x ∈ xs, Mx x))
      ⟨none, _, [], rfl, s1, g1, rfl, (fun _ z => nomatch z)⟩ ?_ ?_
    · rintro i σ H' hi ⟨v, r, xs, rfl, sm, hl', lx, hm⟩
      have le : (xs.map V.int).length ≤ 1000 := by rw [List.length_map]; omega
      have ls := small1000 le
      have cd : ∀ z, CDivB z (10 ^ (10 : Int).toNat) := fun z => ⟨pow10p, by rw [pow10]; decide⟩
      have cd1 := cd r
      clean_wf
      intro H2 b2 g2
      clean_wf
      refine ⟨_, _, xs ++ [r % 10 ^ (10 : Int).toNat], rfl, b2.same sm hl, by rw [g2, List.map_append]; rfl, by rw [List.length_append, lx]; rfl, fun x hx => ?_⟩
      rcases List.mem_append.mp hx with z | z
      · exact hm x z
      · rw [List.mem_singleton.mp z, pow10]
        exact ⟨Int.emod_nonneg _ (by decide), Int.emod_lt_of_pos _ (by decide)⟩
    rintro σ H' ⟨v, r, xs, rfl, sm, hl', lx, hm⟩
    clean_wf
    exact k H' l xs sm hl hl' (by omega) hm
  · exact rest _ _ ⟨rfl, s1, g1⟩
theorem any_int (ns : List Int) (h : Int) : ((ns.map PyData.int).any fun z => z.eqv (.int h)) = decide (h ∈ ns) := by
  rw [List.any_map, Bool.eq_iff_iff, List.any_eq_true, decide_eq_true_iff]
  constructor
  · rintro ⟨x, hx, e⟩
    have : x = h := by
      have e' : (x == h) = true := e
      exact eq_of_beq e'
    exact this ▸ hx
  · intro hh
    exact ⟨h, hh, beq_self_eq_true (a := h)⟩
theorem dps_ints {K : PySem.W.Frag} {H : Hp} : ∀ ns : List Int, Dps K H (ns.map V.int) (ns.map PyData.int)
  | [] => .nil
  | n :: ns => .cons (.int n) (dps_ints ns)
theorem lay_ints : ∀ ns : List Int, PyData.canLayAll0 (ns.map PyData.int) = true
  | [] => rfl
  | n :: ns => by rw [List.map_cons, PyData.canLayAll0.eq_2, lay_ints ns]; rfl
theorem x_ninI {K : PySem.W.Frag} {H : Hp} {Q : VK} {a : Addr} {ns : List Int} {h : Int} (ha : SqL K H a (ns.map V.int)) (q : Q (.bl (!decide (h ∈ ns))) H) : rInP K true (.int h) (.ref a) H Q :=
  ⟨a, _, _, _, rfl, .inl ha, dps_ints ns, .int h, lay_ints ns, rfl, by show 0 ≤ 60; decide, by rw [any_int]; exact q⟩
theorem range_hs {n : Nat} (h : n ≤ 63) : Hs ((List.range n).map fun (i : Nat) => (i : Int)) := by
  refine ⟨?_, fun x hx => ?_⟩
  · rw [List.pairwise_map]
    exact List.pairwise_lt_range.imp fun h => by omega
  · obtain ⟨i, hi, rfl⟩ := List.mem_map.mp hx
    have := List.mem_range.mp hi
    omega
theorem sorted_hs {ms ns : List Int} (pm : ms.Perm ns) (so : ms.Pairwise (· ≤ ·)) (nd : ns.Nodup) (rg : ∀ x ∈ ns, 0 ≤ x ∧ x < 63) : Hs ms := by
  refine ⟨?_, fun x hx => rg x (pm.mem_iff.mp hx)⟩
  have n2 := pm.nodup_iff.mpr nd
  exact so.and n2 |>.imp fun ⟨a, b⟩ => by omega
def sp__law_hands (K : PySem.W.Frag) : Sp := fun vs H Q _ => ∃ (c : Int), vs = [.int c] ∧ ∀ H' l (hs : List Int), Same H H' → H l = none → H' l = some (.lst (hs.map V.int)) → Hs hs → hs ≠ [] → hs.length ≤ 6 → Q (.ref l) H'
theorem sc__law_hands : FnScope ["_law_cell", "_law_amount", "_law_found", "_law_number"] ["_law_cell"] (defScope s__law_hands) := ⟨rfl, rfl, rfl, by decide +kernel, rfl, by decide +kernel, by decide +kernel⟩
set_option maxHeartbeats 1000000 in
theorem ok__law_hands {f f__law_stream : Addr} {fd fd__law_stream : FuncData} (F : Fun K "_law_hands" "_law_hands" s__law_hands f fd)
    (G__law_stream : FnOk P w K mg base CX0 1 f__law_stream fd__law_stream ["_law_cell", "_law_amount"] (sp__law_stream K)) (C__law_stream : Cal K mg "_law_stream" f__law_stream fd__law_stream ["_law_cell", "_law_amount"]) (h_list : mg "list" = none) (h_range : mg "range" = none) (h_sorted : mg "sorted" = none) : FnOk P w K mg base CX0 2 f fd ["_law_cell"] (sp__law_hands K) := by
  refine F.ok sc__law_hands (fun vs H Q E h => ?_) (fun cdv A outer s H vs Q E hr h => ?_)
  · obtain ⟨c, rfl, _⟩ := h
    rfl
  obtain ⟨c, rfl, h⟩ := h
  have hu64 := hr.units
  have hu0 := hr.units0
  have hu := hu_of hr
  refine ⟨_, (pss_cons (ps_set (i := 1) sc__law_hands.nd rfl (Or.inl rfl) (pe_ix (ix_listK (K := K) rfl) (pe_lst (pa_cons pe_int (pa_cons pe_int (pa_cons pe_int (pa_cons pe_int (pa_cons pe_int (pa_cons pe_int pa_nil))))))) (pe_op op_mod (pv 0) pe_int) (fun _ _ => rfl)))
      (pss_cons (ps_if (pt_cmpR op_eq (pe_op op_mod (pe_op op_fdiv (pv 0) pe_int) pe_int) pe_int (nomark _)) (pss_one (ps_ret (pe_callTy (call_listR rfl) (by rfl) h_list PyProof.Rows.boot_list (pa_cons (pe_callTy call_rangeT (by rfl) h_range PyProof.Rows.boot_range (pa_cons (pv 1) pa_nil)) pa_nil)))) pss_nil)
      (pss_cons (ps_set (i := 2) sc__law_hands.nd rfl (Or.inl rfl) (pe_lst pa_nil))
      (pss_cons (ps_for PassesOwn.never rfl (pi_listK (K := K) rfl (pcall G__law_stream C__law_stream hr (pa_cons (pv 0) (pa_cons (pv 1) pa_nil)))) (pg_name (i := 3) sc__law_hands.nd rfl (Or.inl rfl))
      (pss_one (ps_if (pt_cmpR (op_ninK (K := K) rfl hu64) (pe_op op_mod (pv 3) pe_int) (pv 2) (by rfl)) (pss_one (ps_expr (pe_appendK (K := K) rfl (pe_bm PySem.F.plainAttrs_list PySem.F.slot_list_append PySem.F.type_list_append mt_append (pv 2) (pa_cons (pe_op op_mod (pv 3) pe_int) pa_nil))))) pss_nil)))
      (pss_one (ps_ret (pe_callB call_sortedL (by rfl) h_sorted PyProof.Rows.boot_sorted (pa_cons (pv 2) pa_nil)))))))), ?_⟩
  clean_wf
  intro l0 H1 hl0 s1 g1
  have sl0 := SqL.of (K := K) g1
  obtain ⟨z, hz, z1, z6⟩ : ∃ z : Int, atI [V.int 3, V.int 2, V.int 5, V.int 4, V.int 3, V.int 1] (c % 6) = some (.int z) ∧ 1 ≤ z ∧ z ≤ 6 := by
    have h0 := Int.emod_nonneg c (show (6 : Int) ≠ 0 by decide)
    have h1 := Int.emod_lt_of_pos c (show (0 : Int) < 6 by decide)
    rcases (show c % 6 = 0 ∨ c % 6 = 1 ∨ c % 6 = 2 ∨ c % 6 = 3 ∨ c % 6 = 4 ∨ c % 6 = 5 by omega) with e | e | e | e | e | e <;> rw [e]
    · exact ⟨3, by kernel_rfl, by decide, by decide⟩
    · exact ⟨2, by kernel_rfl, by decide, by decide⟩
    · exact ⟨5, by kernel_rfl, by decide, by decide⟩
    · exact ⟨4, by kernel_rfl, by decide, by decide⟩
    · exact ⟨3, by kernel_rfl, by decide, by decide⟩
    · exact ⟨1, by kernel_rfl, by decide, by decide⟩
  clean_wf
  refine ite2 (fun _ => ?_) fun _ => ?_
  · clean_wf
    refine ⟨_, rfl, fun r hr => ?_⟩
    clean_wf
    have ez : z = ((z.toNat : Nat) : Int) := by omega
    refine ⟨r, z.toNat, rfl, by rw [upd_same, ← ez], by omega, fun l hl => ?_⟩
    exact h _ l _ (s1.trans ((same_upd hr).trans (same_upd hl))) (s1.free ((same_upd hr).free hl)) upd_same (range_hs (by omega)) (by
      intro z
      have := congrArg List.length z
      rw [List.length_map, List.length_range, List.length_nil] at this
      omega) (by rw [List.length_map, List.length_range]; omega)
  · clean_wf
    intro l H1' hl' s1' g1'
    have hl : H l = none := s1.free hl'
    clean_wf
    refine ⟨c, _, rfl, by omega, by omega, fun H2 q xs s2 hq g2 lx hm => ?_⟩
    have nlq : q ≠ l := fun z => by rw [z] at hq; rw [hq] at g1'; cases g1'
    have g12 := s2 _ _ g1'
    clean_wf
    refine for_list (xs := xs.map V.int) (fun i σ H' => ∃ v ns, σ = [some (.int c), some (.int z), some (.ref l), v] ∧ Same H H' ∧ H' q = some (.lst (xs.map V.int)) ∧ H' l = some (.lst ((ns : List Int).map V.int)) ∧ ns.Nodup ∧ (∀ x ∈ ns, 0 ≤ x ∧ x < 63) ∧ ns.length ≤ i ∧ (0 < i → ns ≠ []))
      ⟨none, [], rfl, (s1.trans s1').trans s2, g2, g12, .nil, (fun _ z => nomatch z), Nat.le_refl _, fun z => absurd z (Nat.lt_irrefl _)⟩ (fun i σ H' _ z => by obtain ⟨_, _, _, _, z, _⟩ := z; exact SqL.of z) ?_ ?_
    · rintro i x σ H' hx ⟨v, ns, rfl, sm, hq', hl', nd, rg, ln, ne⟩
      obtain ⟨n, hn, rfl⟩ := int_get hx
      have hi := (List.getElem?_eq_some_iff.mp hn).1
      have b0 := Int.emod_nonneg n (show (63 : Int) ≠ 0 by decide)
      have b1 := Int.emod_lt_of_pos n (show (0 : Int) < 63 by decide)
      have le : (ns.map V.int).length ≤ 1000 := by rw [List.length_map]; omega
      have ls := small1000 le
      clean_wf
      refine x_ninI (SqL.of hl') ?_
      clean_wf
      refine ite2 (fun h1 => ?_) fun h1 => ?_
      · have h1 : n % 63 ∉ ns := by
          intro z
          rw [decide_eq_true z] at h1
          cases h1
        clean_wf
        intro H3 b3 g3
        refine ⟨_, ns ++ [n % 63], rfl, b3.same sm hl, b3.at nlq hq', by rw [g3, List.map_append]; rfl, ?_, fun x hx => ?_, by rw [List.length_append]; exact Nat.succ_le_succ ln, fun _ z => by simp at z⟩
        · rw [List.nodup_append]
          refine ⟨nd, by simp, fun a ha b hb => ?_⟩
          rw [List.mem_singleton.mp hb]
          intro z
          exact h1 (z ▸ ha)
        · rcases List.mem_append.mp hx with z | z
          · exact rg x z
          · rw [List.mem_singleton.mp z]
            exact ⟨b0, b1⟩
      · have h1 : n % 63 ∈ ns := by
          by_cases z : n % 63 ∈ ns
          · exact z
          · rw [decide_eq_false z] at h1
            exact absurd rfl h1
        exact ⟨_, ns, rfl, sm, hq', hl', nd, rg, by omega, fun _ z => by rw [z] at h1; cases h1⟩
    rintro σ H' ⟨v, ns, rfl, sm, hq', hl', nd, rg, ln, ne⟩
    rw [List.length_map, lx] at ln ne
    clean_wf
    refine ⟨l, ns, rfl, SqL.of hl', by omega, fun p ms hp pm so => ?_⟩
    exact h _ p ms (sm.trans (same_upd hp)) (sm.free hp) upd_same (sorted_hs pm so nd rg) (fun z => ne (by omega) (by rw [z] at pm; exact pm.symm.eq_nil)) (by rw [pm.length_eq]; omega)
theorem bit_sub {n : Int} {h : Int} (n0 : 0 ≤ n) (hh : h ∈ GB.hl n) (h0 : 0 ≤ h) : Sub (2 ^ h.toNat) n := by
  have eh : h = ((h.toNat : Nat) : Int) := by omega
  rw [eh] at hh
  obtain ⟨_, tb⟩ := GB.hl_mem.mp hh
  have p0 : (0 : Int) ≤ 2 ^ h.toNat := two_pow_nn _
  refine ⟨p0, ?_⟩
  have e : (2 : Int) ^ h.toNat = ((2 ^ h.toNat : Nat) : Int) := (Int.natCast_pow 2 h.toNat).symm
  rw [and_nat p0 n0, e, Int.toNat_natCast]
  congr 1
  refine Nat.eq_of_testBit_eq fun i => ?_
  rw [Nat.testBit_and, Nat.testBit_two_pow]
  by_cases z : h.toNat = i
  · rw [← z, tb, decide_eq_true rfl]; rfl
  · rw [decide_eq_false z]; rfl
theorem fn_add {hs : List Int} {f : Int → Addr} {h : Int} {a : Addr} (nh : h ∉ hs) : putG (hs.map fun j => (j, V.ref (f j))) h (.ref a) = (hs ++ [h]).map fun j => (j, V.ref (fupd f h a j)) := by
  have e1 : (hs.map fun j => (j, V.ref (fupd f h a j))) = hs.map fun j => (j, V.ref (f j)) := List.map_congr_left fun j hj => by rw [fupd_ne (show j ≠ h from fun z => nh (z ▸ hj))]
  rw [putg_add (by rw [keys_fn]; exact nh), List.map_append, e1]
  show _ = _ ++ [(h, V.ref (fupd f h a h))]
  rw [fupd_eq]
def c0 : Cg := ⟨none, none, 0, .none, []⟩
abbrev Wd0 (K : PySem.W.Frag) (mg : Str → Option Value) (H : Hp) (dc : Addr) (hs : List Int) (hd : Int) (p d : Int → Addr) : Prop := Wd K mg H dc hs hd p d fun _ => c0

theorem Wd0.more {H H2 H3 : Hp} {dc : Addr} {hs : List Int} {n h : Int} {p d : Int → Addr} {p1 d1 : Addr} (c : Wd0 K mg H dc hs n p d) (nh : h ∉ hs) (s : Same H H2) (f1 : H p1 = none) (f2 : H d1 = none) (ob : ∃ C dx, mg "Change" = some (.ref C) ∧ H2 p1 = some (.ins C dx (chf (.int h) (.int n) .non .non (.int 0) (.ref d1) .non)))
    (g1 : H2 d1 = some (.dK [])) (b3 : But dc H2 H3) (g3 : H3 dc = some (.dK (dG (putG (hs.map fun h => (h, V.ref (p h))) h (.ref p1))))) (r0 : 0 ≤ h) (r1 : h < 63) (z0 : 0 ≤ n) (z1 : n < 9223372036854775808) (sb : Sub (2 ^ h.toNat) n) : Wd0 K mg H3 dc (hs ++ [h]) n (fupd p h p1) (fupd d h d1) := by
  obtain ⟨C, dx, e1, e2⟩ := ob
  have nj : ∀ j ∈ hs, j ≠ h := fun j hj z => nh (z ▸ hj)
  have up2 : ∀ x o, x ≠ dc → H2 x = some o → H3 x = some o := fun x o n1 e => b3.at n1 e
  have up : ∀ x o, x ≠ dc → H x = some o → H3 x = some o := fun x o n1 e => up2 x o n1 (s _ _ e)
  have of : ∀ {x o}, H x = some o → p1 ≠ x ∧ d1 ≠ x := fun {x o} e => ⟨(fun z => by rw [← z, f1] at e; cases e), (fun z => by rw [← z, f2] at e; cases e)⟩
  have gd := c.gd
  have kt : SmH H H3 := fun a xs e => up _ _ (ne_of e gd (by intro z; cases z)) e
  have mem : ∀ j ∈ hs ++ [h], j ∈ hs ∧ j ≠ h ∨ j = h := fun j hj => by
    rcases List.mem_append.mp hj with z | z
    · exact .inl ⟨z, nj j z⟩
    · exact .inr (List.mem_singleton.mp z)
  have pj : ∀ j ∈ hs, ∃ o, H (p j) = some o := fun j hj => by
    obtain ⟨⟨C2, dx2, ba2, ye2, av2, _, e2, _⟩, _⟩ := id (c.ch j hj)
    exact ⟨_, e2⟩
  have dj : ∀ j ∈ hs, ∃ o, H (d j) = some o := fun j hj => by
    obtain ⟨_, ⟨m2, f2, _⟩, _⟩ := id (c.ch j hj)
    exact ⟨_, f2⟩
  refine ⟨by rw [g3, fn_add nh], fun j hj => ?_, fun j hj k hk ne => ?_, fun j hj k hk ne => ?_, fun j hj => ?_⟩
  · rcases mem j hj with ⟨z, nz⟩ | z
    · rw [fupd_ne nz, fupd_ne nz]
      obtain ⟨⟨C2, dx2, ba2, ye2, av2, _, w2, _⟩, ⟨m2, u2, _⟩, _⟩ := id (c.ch j z)
      exact (c.ch j z).up (fun o e => by rw [w2] at e; cases e; exact up _ _ (ne_of w2 gd (by intro z; cases z)) w2) (fun o e => by rw [u2] at e; cases e; exact up _ _ (c.nc j z) u2) kt
    · rw [z, fupd_eq, fupd_eq]
      exact ⟨⟨C, dx, .non, .non, .non, e1, up2 _ _ (of gd).1 e2, rfl, rfl, .non⟩, ⟨[], up2 _ _ (of gd).2 g1, .nil, .nil⟩, r0, r1, z0, z1, sb, sub_zero z0, fun _ => rfl⟩
  · rcases mem j hj with ⟨z, nz⟩ | z <;> rcases mem k hk with ⟨w, nw⟩ | w
    · rw [fupd_ne nz, fupd_ne nw]; exact c.np j z k w ne
    · rw [w, fupd_ne nz, fupd_eq]; obtain ⟨o, e⟩ := pj j z; exact (of e).1.symm
    · rw [z, fupd_ne nw, fupd_eq]; obtain ⟨o, e⟩ := pj k w; exact (of e).1
    · exact absurd (z.trans w.symm) ne
  · rcases mem j hj with ⟨z, nz⟩ | z <;> rcases mem k hk with ⟨w, nw⟩ | w
    · rw [fupd_ne nz, fupd_ne nw]; exact c.nd j z k w ne
    · rw [w, fupd_ne nz, fupd_eq]; obtain ⟨o, e⟩ := dj j z; exact (of e).2.symm
    · rw [z, fupd_ne nw, fupd_eq]; obtain ⟨o, e⟩ := dj k w; exact (of e).2
    · exact absurd (z.trans w.symm) ne
  · rcases mem j hj with ⟨z, nz⟩ | z
    · rw [fupd_ne nz]; exact c.nc j z
    · rw [z, fupd_eq]; exact (of gd).2
theorem iv0 (hs : List Int) {hd : Int} (h0 : 0 ≤ hd) : Iv hs hd (fun _ => c0) (fun _ => none) fun _ _ => False :=
  ⟨(fun _ _ _ z => nomatch z), (fun _ _ _ _ z => nomatch z), fun _ _ => rfl, (fun _ _ _ z => nomatch z), fun _ _ => .nil, (fun _ _ z => nomatch z), (fun _ _ j z => by rw [show (c0.vo).toNat = 0 from rfl, Nat.zero_testBit] at z; cases z), (fun _ _ z => absurd rfl z), (fun _ _ => Int.le_refl _), (fun _ _ z => False.elim z), (fun _ _ z => nomatch z), (fun _ _ z => absurd rfl z), (fun _ _ z => by rw [show c0.vo = 0 from rfl, half_zero h0] at z; cases z), (fun _ _ z => nomatch z)⟩

structure Jv (hs : List Int) (z : Zt) (PL : Pln) (VT : Vot) (ss : List (SK × Addr)) (pq : List ((Int × Int) × PyData)) (sl : List (Int × PyData × (Int × Int))) : Prop where
  sv : ∀ j q, VT j q → (j, q.1, q.2) ∈ ss.map (·.1)
  pp : ∀ r ∈ pq, PL r.1 = some r.2
  sg : ∀ r ∈ sl, r.1 ∈ hs ∧ (z.c r.1).ag = r.2.1 ∧ r.2.1 ≠ .none ∧ ChY hs PL VT (some (r.2.2, .none)) r.2.1
  sh : ∀ h ∈ hs, (z.c h).ag ≠ .none → h ∈ sl.map (·.1)
section
variable {hs : List Int} {hd h : Int} {z z' : Zt} {PL PL1 : Pln} {VT VT1 : Vot} {ss ss' : List (SK × Addr)} {pq pq' : List ((Int × Int) × PyData)} {sl sl' : List (Int × PyData × (Int × Int))}
theorem Jv.ask (G : Gp hs hd) (J : Jv hs z PL VT ss pq sl) (x : Dd hs hd h z z' PL PL1 VT VT1) (hh : h ∈ hs) : Rt h (z.c h).b (z'.c h) ss pq sl := by
  refine ⟨fun e => ?_, fun q dp e => ⟨?_, fun r hr er => ?_, x.iv.ov h hh (by rw [e]; intro u; cases u), fun j hj => ?_⟩, x.gr.b h, fun e m => ?_, fun r hr er => ?_⟩
  · by_cases w : (z'.c h).ag = .none
    · exact w
    · obtain ⟨q, _, _, g⟩ := x.iv.ch h hh w
      rw [e] at g
      cases g
  · have := x.iv.yl h hh
    rw [e] at this
    exact this
  · have h1 := x.gr.p _ _ (J.pp r hr)
    rw [er, (x.iv.yy h hh q dp e).1] at h1
    exact (Option.some.inj h1).symm
  · obtain ⟨q', e1, v⟩ := x.iv.vv h hh j hj
    rw [e] at e1
    have e1 : q = q' := Option.some.inj e1
    subst e1
    rcases x.nw _ _ v with w | w
    · exact .inl (J.sv _ _ w)
    · exact .inr w.1
  · obtain ⟨r, hr, er⟩ := List.mem_map.mp m
    obtain ⟨_, e1, e2, _⟩ := J.sg r hr
    rw [er] at e1
    have := x.ag (by rw [e1]; exact e2)
    rw [e, e1] at this
    exact e2 this.symm
  · obtain ⟨_, e1, e2, _⟩ := J.sg r hr
    rw [er] at e1
    rw [x.ag (by rw [e1]; exact e2), e1]
theorem Jv.next (J : Jv hs z PL VT ss pq sl) (x : Dd hs hd h z z' PL PL1 VT VT1) (hh : h ∈ hs) (R : Rt' h (z'.c h) ss ss' pq pq' sl sl') : Jv hs z' PL1 VT1 ss' pq' sl' := by
  refine ⟨fun j q v => ?_, fun r hr => ?_, fun r hr => ?_, fun j hj n => ?_⟩
  · rcases x.nw j q v with w | ⟨w1, w2⟩
    · exact R.so _ (J.sv j q w)
    · cases ey : (z'.c h).y with
      | none => rw [ey] at w2; cases w2
      | some y =>
        rw [ey] at w2
        have w2 : y.1 = q := Option.some.inj w2
        rw [w1, ← w2]
        exact R.sn y.1 y.2 ey
  · rcases R.pn r hr with w | w
    · exact x.gr.p _ _ (J.pp r w)
    · exact (x.iv.yy h hh r.1 r.2 w).1
  · rcases R.ln r hr with w | ⟨w1, w2, w3, w4⟩
    · obtain ⟨h1, h2, h3, h4⟩ := J.sg r w
      refine ⟨h1, ?_, h3, h4.up x.gr⟩
      by_cases u : r.1 = h
      · rw [u] at h2 ⊢
        rw [x.ag (by rw [h2]; exact h3), h2]
      · rw [x.ot _ u]; exact h2
    · rw [w1]
      refine ⟨hh, w2.symm, by rw [w2]; exact w3, ?_⟩
      obtain ⟨q0, p0, m0, g0⟩ := x.iv.ch h hh w3
      rw [w4] at g0
      exact ⟨q0, by rw [w2]; exact p0, m0, g0⟩
  · by_cases u : j = h
    · rw [u] at n ⊢; exact R.li n
    · rw [x.ot _ u] at n
      obtain ⟨r, hr, er⟩ := List.mem_map.mp (J.sh j hj n)
      exact List.mem_map.mpr ⟨r, R.lo r hr, er⟩
theorem Jv.last (J : Jv hs z PL VT ss pq sl) (i : Iv hs hd z.c PL VT) (a : Ai PL z.an) : ∀ r ∈ sl, r.2.1 ∈ z.an ∧ (∀ r' ∈ sl, r'.2.1 = r.2.1) ∧ ∀ e ∈ pq, bgt (some e.1) (some r.2.2) = true → e.2 = r.2.1 := fun r hr => by
  obtain ⟨_, _, _, c1⟩ := J.sg r hr
  refine ⟨?_, fun r' hr' => i.agree (J.sg r' hr').2.2.2.ch c1.ch, fun e he g => i.above c1 rfl g (J.pp e he)⟩
  obtain ⟨q0, p0, _⟩ := c1
  exact a q0 _ p0
end
theorem cut_mem {xs : List V} {lo hi : Option Int} {x : V} (h : x ∈ cutV xs lo hi) : x ∈ xs := by
  unfold cutV at h
  exact List.mem_of_mem_drop (List.mem_of_mem_take h)
end
end K64


namespace K64
open PySem L2
abbrev s_law : Stmt := top 23
section
variable {P : Program} {w : World} {K : PySem.W.Frag} {mg : Str → Option Value} {base : Heap}
theorem x_consS {t : TA} {σ : St} {H : Hp} {Q : List V → Hp → Prop} (h : ∀ sd H', H sd = none → Same H H' → H' sd = some (SdO sd []) → t σ H' fun xs H2 => Q (.ref sd :: xs) H2) : tCons tDNewS t σ H Q := fun p hp => h p _ hp (same_upd hp) upd_same
theorem cd_ne (a : Addr) (q : Str) (ss : List (SK × Addr)) : CdO a q ≠ SdO a ss := by
  intro e
  have e := HO.ext.inj e
  obtain ⟨h, hs⟩ : ∃ h : Heap, h.objs.size = a := ⟨{ objs := Array.replicate a { cls := .none, data := .fields #[] } }, by simp⟩
  have g : (h.push { cls := .none, data := .fields #[.none, .str q 0] }).get? a = some { cls := .none, data := .fields #[.none, .str q 0] } := by
    rw [← hs]
    exact Heap.get?_push_size h rfl
  have c : (h.push { cls := .none, data := .fields #[.none, .str q 0] }).CodeRec (.ref a) q := ⟨a, _, _, _, rfl, g, rfl, rfl⟩
  obtain ⟨_, _, _, o', es, ep, g', _, d', _⟩ := Eq.mp (congrFun e _) c
  rw [g] at g'
  cases g'
  cases d'

def Lf (o : HO) : Prop := (∃ xs, o = .lst xs) ∨ ∃ o' u, o = .frz o' u
theorem seq_fr {K : PySem.W.Frag} {B A : Hp} {a : Addr} {xs : List V} (fr : ∀ x o, B x = some o → Lf o → A x = some o) (h : SqL K B a xs) : SqL K A a xs := by
  rcases h with (h | ⟨o, h⟩) | h
  · exact .inl (.inl (fr _ _ h (.inl ⟨_, rfl⟩)))
  · exact .inl (.inr ⟨o, fr _ _ h (.inr ⟨_, _, rfl⟩)⟩)
  · exact .inr h

structure Lw (K : PySem.W.Frag) (mg : Str → Option Value) (Pt : Addr) (B0 : Hp) (dc la ml ta st sd pd q7 : Addr) (ws hs : List Int) (hd : Int) (p : Int → Addr) (A : Hp) (l : Addr) (hl : List Int) (d : Int → Addr) (z : Zt) (y' ys : List V) (PL : Pln) (VT : Vot) (ss : List (SK × Addr)) (kvs : List (List Key × V)) (pq : List ((Int × Int) × PyData)) (m : List (Int × V)) (sl : List (Int × PyData × (Int × Int))) (N : Nat) : Prop where
  dz : Dz K mg Pt dc la ml hs hd p A d z y' ys PL VT
  bt : Bt A ta st sd pd ss kvs pq m sl
  jv : Jv hs z PL VT ss pq sl
  fr : ∀ x o, B0 x = some o → Lf o → A x = some o
  gq : A q7 = some (.lst (ws.map V.int))
  gl : A l = some (.lst (hl.map V.int))
  hn : hl ≠ []
  hu : ∀ h ∈ hl, h ∈ hs
  hp : hl.Nodup
  n1 : dc ≠ st
  n2 : ∀ h ∈ hs, d h ≠ st
  nl : l ≠ la ∧ l ≠ ml
  nq : q7 ≠ la ∧ q7 ≠ ml
  b1 : y'.length ≤ N
  b2 : ys.length ≤ N
  b3 : ss.length ≤ N
  b4 : kvs.length ≤ N
  b5 : m.length ≤ N
theorem Bt.same {H H' : Hp} {ta st sd pd : Addr} {ss : List (SK × Addr)} {kvs : List (List Key × V)} {pq : List ((Int × Int) × PyData)} {m : List (Int × V)} {sl : List (Int × PyData × (Int × Int))} (x : Bt H ta st sd pd ss kvs pq m sl) (s : Same H H') : Bt H' ta st sd pd ss kvs pq m sl := ⟨s _ _ x.ta, x.bk.up s, s _ _ x.gt, x.clean_wf.up (.same s), x.nd⟩

theorem Bt.kept {H H' : Hp} {ta st sd pd : Addr} {ss : List (SK × Addr)} {kvs : List (List Key × V)} {pq : List ((Int × Int) × PyData)} {m : List (Int × V)} {sl : List (Int × PyData × (Int × Int))} (x : Bt H ta st sd pd ss kvs pq m sl) (ks : ∀ o, H st = some o → H' st = some o) (k : ∀ a o, H a = some o → (∃ xs, o = .tup xs) ∨ (∃ φ, o = .ext φ) ∨ (∃ kvs, o = .dT kvs) → H' a = some o) : Bt H' ta st sd pd ss kvs pq m sl := by
  have sm : SmH H H' := fun a xs e => k _ _ e (.inl ⟨_, rfl⟩)
  exact ⟨sm _ _ x.ta, ⟨k _ _ x.bk.gs (.inr (.inl ⟨_, rfl⟩)), fun y hy => (x.bk.sk y hy).up sm, k _ _ x.bk.gp (.inr (.inr ⟨_, rfl⟩)), Paired.mapP x.bk.pl fun _ _ z => ⟨z.1, z.2.up sm⟩, x.bk.nd⟩, ks _ x.gt, x.clean_wf.up sm, x.nd⟩
section
variable {Pt : Addr} {B0 A A' : Hp} {dc la ml ta st sd pd q7 l : Addr} {ws hs hl : List Int} {hd : Int} {p d : Int → Addr} {z : Zt} {y' ys : List V} {PL : Pln} {VT : Vot} {ss : List (SK × Addr)} {kvs : List (List Key × V)} {pq : List ((Int × Int) × PyData)} {m : List (Int × V)} {sl : List (Int × PyData × (Int × Int))} {N M : Nat}
theorem Lw.same (L : Lw K mg Pt B0 dc la ml ta st sd pd q7 ws hs hd p A l hl d z y' ys PL VT ss kvs pq m sl N) (s : Same A A') : Lw K mg Pt B0 dc la ml ta st sd pd q7 ws hs hd p A' l hl d z y' ys PL VT ss kvs pq m sl N :=
  ⟨L.dz.same s, L.bt.same s, L.jv, fun x o e q => s _ _ (L.fr x o e q), s _ _ L.gq, s _ _ L.gl, L.hn, L.hu, L.hp, L.n1, L.n2, L.nl, L.nq, L.b1, L.b2, L.b3, L.b4, L.b5⟩
theorem Lw.le (L : Lw K mg Pt B0 dc la ml ta st sd pd q7 ws hs hd p A l hl d z y' ys PL VT ss kvs pq m sl N) (h : N ≤ M) : Lw K mg Pt B0 dc la ml ta st sd pd q7 ws hs hd p A l hl d z y' ys PL VT ss kvs pq m sl M :=
  ⟨L.dz, L.bt, L.jv, L.fr, L.gq, L.gl, L.hn, L.hu, L.hp, L.n1, L.n2, L.nl, L.nq, Nat.le_trans L.b1 h, Nat.le_trans L.b2 h, Nat.le_trans L.b3 h, Nat.le_trans L.b4 h, Nat.le_trans L.b5 h⟩

theorem Lw.writ (L : Lw K mg Pt B0 dc la ml ta st sd pd q7 ws hs hd p A l hl d z y' ys PL VT ss kvs pq m sl N) {xa : Addr} {xs0 : List V} (b : But xa A A') (gx : A xa = some (.lst xs0)) (n1 : xa ≠ la) (n2 : xa ≠ ml) (n3 : xa ≠ l) (n4 : xa ≠ q7) (fB : ∀ o, B0 xa = some o → ¬ Lf o) : Lw K mg Pt B0 dc la ml ta st sd pd q7 ws hs hd p A' l hl d z y' ys PL VT ss kvs pq m sl N := by
  have kt : SmH A A' := fun a xs e => b.at (ne_of e gx (by intro z; cases z)) e
  exact ⟨⟨L.dz.wd.kept fun a o e _ q => b.at (fun u => by rw [u, gx] at e; cases e; exact q _ rfl) e, b.at n1.symm L.dz.gl, L.dz.pl.up kt, b.at n2.symm L.dz.gm, fun y hy => (L.dz.mm y hy).up kt (.refl _ _ _), L.dz.iv, L.dz.ai, L.dz.tb.up fun x o e q => b.at (ne_of e gx (by rcases q with ⟨_, rfl⟩ | ⟨_, rfl⟩ <;> (intro w; cases w))) e, L.dz.nl⟩, L.bt.kept (fun o e => b.at (fun u => by have := L.bt.gt; rw [u, gx] at this; cases this) e) fun a o e q => b.at (fun u => by rw [u, gx] at e; cases e; rcases q with ⟨_, z⟩ | ⟨_, z⟩ | ⟨_, z⟩ <;> cases z) e, L.jv, fun y o e q => b.at (fun u => fB o (by rw [← u]; exact e) q) (L.fr y o e q), b.at n4.symm L.gq, b.at n3.symm L.gl, L.hn, L.hu, L.hp, L.n1, L.n2, L.nl, L.nq, L.b1, L.b2, L.b3, L.b4, L.b5⟩

theorem Lw.post (L : Lw K mg Pt B0 dc la ml ta st sd pd q7 ws hs hd p A l hl d z y' ys PL VT ss kvs pq m sl N) {t : Addr} (f0 : B0 ml = none) (b : But ml A A') (g : A' ml = some (.lst (ys ++ [.ref t]))) (x : Ml A hd hs z.c PL VT (.ref t)) : Lw K mg Pt B0 dc la ml ta st sd pd q7 ws hs hd p A' l hl d z y' (ys ++ [.ref t]) PL VT ss kvs pq m sl (N + 1) := by
  have gm := L.dz.gm
  have kt : SmH A A' := fun a xs e => b.at (ne_of e gm (by intro z; cases z)) e
  have D5 : Dz K mg Pt dc la ml hs hd p A' d z y' (ys ++ [.ref t]) PL VT := ⟨L.dz.wd.kept fun a o e _ q => b.at (fun u => by rw [u, gm] at e; cases e; exact q _ rfl) e, b.at L.dz.nl.symm L.dz.gl, L.dz.pl.up kt, g, fun y hy => by
    rcases List.mem_append.mp hy with u | u
    · exact (L.dz.mm y u).up kt (.refl _ _ _)
    · rw [List.mem_singleton.mp u]
      exact x.up kt (.refl _ _ _), L.dz.iv, L.dz.ai, L.dz.tb.up fun x o e q => b.at (ne_of e gm (by rcases q with ⟨_, rfl⟩ | ⟨_, rfl⟩ <;> (intro w; cases w))) e, L.dz.nl⟩
  refine ⟨D5, L.bt.kept (fun o e => b.at (fun u => by rw [u, gm] at e; have := L.bt.gt; rw [u, gm] at this; cases this) e) fun a o e q => b.at (fun u => by rw [u, gm] at e; cases e; rcases q with ⟨_, z⟩ | ⟨_, z⟩ | ⟨_, z⟩ <;> cases z) e, L.jv, fun y o e q => b.at (fun u => by rw [u, f0] at e; cases e) (L.fr y o e q), b.at L.nq.2 L.gq, b.at L.nl.2 L.gl, L.hn, L.hu, L.hp, L.n1, L.n2, L.nl, L.nq, Nat.le_succ_of_le L.b1, by rw [List.length_append]; exact Nat.succ_le_succ L.b2, Nat.le_succ_of_le L.b3, Nat.le_succ_of_le L.b4, Nat.le_succ_of_le L.b5⟩
end
theorem cut_hl {hl : List Int} {lo hi : Option Int} : ∃ ms : List Int, cutV (hl.map V.int) lo hi = ms.map V.int ∧ ms.length ≤ hl.length ∧ ∀ h ∈ ms, h ∈ hl := by
  obtain ⟨ms, e, l⟩ := cut_ints hl lo hi
  refine ⟨ms, e, l, fun h hh => ?_⟩
  have : V.int h ∈ cutV (hl.map V.int) lo hi := by rw [e]; exact List.mem_map_of_mem hh
  obtain ⟨h', m', e'⟩ := List.mem_map.mp (cut_mem this)
  cases e'
  exact m'
theorem rest_ne {hl : List Int} {one : Int} (nd : hl.Nodup) (h : 2 < hl.length) : hl.filter (fun h => decide (h ≠ one)) ≠ [] := by
  intro z
  rw [List.filter_eq_nil_iff] at z
  match hl, nd, h, z with
  | x :: y :: _, nd, _, z =>
    have hx := z x List.mem_cons_self
    have hy := z y (List.mem_cons_of_mem _ List.mem_cons_self)
    have ex : x = one := by simpa using hx
    have ey : y = one := by simpa using hy
    exact (List.nodup_cons.mp nd).1 (by rw [ex, ← ey]; exact List.mem_cons_self)
def sp_law (K : PySem.W.Frag) (P_mk : Addr) : Sp := fun vs H Q _ => ∃ (a : Addr) (ns : List Int), vs = [.ref a] ∧ SqL K H a (ns.map V.int) ∧ ns.length ≤ 63 ∧ H P_mk = some (.tbl #[]) ∧ ∀ H', Q (.bl true) H'
theorem sc_law : FnScope ["_law_script", "_law_hands_here", "_law_whole", "_law_changes", "_law_hand", "_law_mail", "_law_answered", "_law_state", "_law_cell", "_law_xs", "_law_one", "_law_some", "_law_cut", "_law_falls", "_law_before"] ["_law_script"] (defScope s_law) := ⟨rfl, rfl, rfl, by decide +kernel, rfl, by decide +kernel, by decide +kernel⟩
set_option maxHeartbeats 16000000 in
theorem ok_law {f f_Change___init__ f_Change_message f__law_deed f__law_right f__law_agreed f__law_cell_at f__law_stream f__law_hands C_Change : Addr} {fd fd_Change___init__ fd_Change_message fd__law_deed fd__law_right fd__law_agreed fd__law_cell_at fd__law_stream fd__law_hands : FuncData} {P_mk : Addr} (F : Fun K "law" "law" s_law f fd)
    (G_Change___init__ : FnOk P w K mg base CX0 8 f_Change___init__ fd_Change___init__ ["self", "me", "hands"] (sp_Change___init__ K)) (B_Change___init__ : Binds K fd_Change___init__ ["self", "me", "hands"] [])
    (G_Change_message : FnOk P w K mg base CX0 9 f_Change_message fd_Change_message ["self", "report"] (sp_Change_message K mg)) (B_Change_message : Binds K fd_Change_message ["self", "report"] [])
    (G__law_deed : FnOk P w K mg base CX0 9 f__law_deed fd__law_deed ["_law_changes", "_law_hand", "_law_mail", "_law_answered", "_law_xs"] (sp__law_deed K mg P_mk)) (C__law_deed : Cal K mg "_law_deed" f__law_deed fd__law_deed ["_law_changes", "_law_hand", "_law_mail", "_law_answered", "_law_xs"])
    (G__law_right : FnOk P w K mg base CX0 9 f__law_right fd__law_right ["_law_changes", "_law_hand", "_law_state", "_law_before"] (sp__law_right K mg)) (C__law_right : Cal K mg "_law_right" f__law_right fd__law_right ["_law_changes", "_law_hand", "_law_state", "_law_before"])
    (G__law_agreed : FnOk P w K mg base CX0 9 f__law_agreed fd__law_agreed ["_law_settled", "_law_answered", "_law_plans"] (sp__law_agreed K)) (C__law_agreed : Cal K mg "_law_agreed" f__law_agreed fd__law_agreed ["_law_settled", "_law_answered", "_law_plans"])
    (G__law_cell_at : FnOk P w K mg base CX0 9 f__law_cell_at fd__law_cell_at ["_law_script", "_law_k"] (sp__law_cell_at K)) (C__law_cell_at : Cal K mg "_law_cell_at" f__law_cell_at fd__law_cell_at ["_law_script", "_law_k"])
    (G__law_stream : FnOk P w K mg base CX0 9 f__law_stream fd__law_stream ["_law_cell", "_law_amount"] (sp__law_stream K)) (C__law_stream : Cal K mg "_law_stream" f__law_stream fd__law_stream ["_law_cell", "_law_amount"])
    (G__law_hands : FnOk P w K mg base CX0 9 f__law_hands fd__law_hands ["_law_cell"] (sp__law_hands K)) (C__law_hands : Cal K mg "_law_hands" f__law_hands fd__law_hands ["_law_cell"]) (h_len : mg "len" = none) (h_sum : mg "sum" = none) (T_Change : TChange K C_Change) (m_Change : mg "Change" = some (.ref C_Change)) (M_Change : Mk K C_Change f_Change___init__) (mt_Change_message : Meth K C_Change "message" f_Change_message) : FnOk P w K mg base CX0 10 f fd ["_law_script"] (sp_law K P_mk) := by
  refine F.ok sc_law (fun vs H Q E h => ?_) (fun cdv A outer s H vs Q E hr h => ?_)
  · obtain ⟨a, ks, rfl, _⟩ := h
    rfl
  obtain ⟨a, ks, rfl, h⟩ := h
  have hu64 := hr.units
  have hu0 := hr.units0
  have hu := hu_of hr
  refine ⟨_, (pss_cons (ps_set (i := 1) sc_law.nd rfl (Or.inl rfl) (pcall G__law_hands C__law_hands hr (pa_cons (pcall G__law_cell_at C__law_cell_at hr (pa_cons (pv 0) (pa_cons pe_int pa_nil))) pa_nil)))
      (pss_cons (ps_set (i := 2) sc_law.nd rfl (Or.inl rfl) (pe_callB (call_sumI rfl) (by rfl) h_sum PyProof.Rows.boot_sum (pa_cons (pe_comp ["_law_hand"] [none] rfl rfl (by kernel_rfl) (pi_listK (K := K) rfl (pv 1)) (fun _ _ _ _ _ nd => pg_name (i := 0) nd rfl (Or.inl rfl)) (fun _ _ _ _ _ => pif_nil) (fun _ _ _ _ _ => (pe_op op_shl pe_int (pv 0)))) pa_nil)))
      (pss_cons (ps_set (i := 3) sc_law.nd rfl (Or.inl rfl) pe_dnewK)
      (pss_cons (ps_for PassesOwn.never rfl (pi_listK (K := K) rfl (pv 1)) (pg_name (i := 4) sc_law.nd rfl (Or.inl rfl))
      (pss_one (ps_dput hu (pv 3) (pv 4) (pe_make M_Change G_Change___init__ hr rfl m_Change B_Change___init__ .nil pass0 (pa_cons (pv 4) (pa_cons (pv 2) pa_nil))) rfl)))
      (pss_cons (ps_set (i := 5) sc_law.nd rfl (Or.inl rfl) (pe_lst pa_nil))
      (pss_cons (ps_set (i := 6) sc_law.nd rfl (Or.inl rfl) (pe_lst pa_nil))
      (pss_cons (ps_set (i := 7) sc_law.nd rfl (Or.inl rfl) (pe_tup (pa_cons pe_dnewK (pa_cons pe_dnewS (pa_cons pe_dnewT pa_nil)))))
      (pss_cons (ps_for PassesOwn.never rfl (pi_listK (K := K) rfl (pe_slice (sl_listK (K := K) rfl) (pv 0) (po_some pe_int) (po_some pe_int))) (pg_name (i := 8) sc_law.nd rfl (Or.inl rfl))
      (pss_cons (ps_set (i := 9) sc_law.nd rfl (Or.inl rfl) (pcall G__law_stream C__law_stream hr (pa_cons (pv 8) (pa_cons pe_int pa_nil))))
      (pss_cons (ps_set (i := 10) sc_law.nd rfl (Or.inr rfl) (pe_ix (ix_listK (K := K) rfl) (pv 1) (pe_op op_mod (pe_ix (ix_listK (K := K) rfl) (pv 9) pe_int (fun _ _ => rfl)) (pe_callB (call_lenK (K := K) rfl) (by rfl) h_len PySem.boot_len (pa_cons (pv 1) pa_nil))) (fun _ _ => rfl)))
      (pss_cons (ps_set (i := 11) sc_law.nd rfl (Or.inl rfl) (pe_lst (pa_cons (pv 10) pa_nil)))
      (pss_cons (ps_if (pt_cmpR op_gt (pe_op op_mod (pe_ix (ix_listK (K := K) rfl) (pv 9) pe_int (fun _ _ => rfl)) pe_int) pe_int (nomark _)) (pss_cons (ps_expr (pe_appendK (K := K) rfl (pe_bm PySem.F.plainAttrs_list PySem.F.slot_list_append PySem.F.type_list_append mt_append (pv 5) (pa_cons (pe_tup (pa_cons (pv 10) (pa_cons (pe_methS (MOk.cons T_Change.cl mt_Change_message G_Change_message B_Change_message MOk.nil) (pe_dget hu (pv 3) (pv 10) (fun _ _ => rfl)) hr (pa_cons (pe_ix (ix_listK (K := K) rfl) (pv 9) pe_int (fun _ _ => rfl)) pa_nil)) pa_nil))) pa_nil))))
      (pss_cons (ps_set (i := 12) sc_law.nd rfl (Or.inl rfl) (pe_op op_mod (pe_ix (ix_listK (K := K) rfl) (pv 9) pe_int (fun _ _ => rfl)) (pe_callB (call_lenK (K := K) rfl) (by rfl) h_len PySem.boot_len (pa_cons (pv 1) pa_nil))))
      (pss_cons (ps_set (i := 11) sc_law.nd rfl (Or.inl rfl) (pe_op op_cat (pe_slice (sl_listK (K := K) rfl) (pv 1) (po_some (pv 12)) po_none) (pe_slice (sl_listK (K := K) rfl) (pv 1) po_none (po_some (pv 12)))))
      (pss_one (ps_asg pe_int (pg_sub (pv 9) pe_int set_list)))))) pss_nil)
      (pss_cons (ps_set (i := 13) sc_law.nd rfl (Or.inl rfl) (pe_cmpR op_lt (pe_op op_mod (pe_op op_fdiv (pcall G__law_cell_at C__law_cell_at hr (pa_cons (pv 0) (pa_cons pe_int pa_nil))) pe_int) pe_int) pe_int (nomark _)))
      (pss_cons (ps_if (PW.pt (pw_and (pt_nameK (K := K) rfl (pv 13)) (pw_and (pt_cmpR op_gt (pe_callB (call_lenK (K := K) rfl) (by rfl) h_len PySem.boot_len (pa_cons (pv 1) pa_nil)) pe_int (nomark _)) (pw_and1 (pt_cmpR op_eq (pe_op op_mod (pe_ix (ix_listK (K := K) rfl) (pv 9) pe_int (fun _ _ => rfl)) pe_int) pe_int (nomark _)))))) (pss_one (ps_comp (i := 1) ["_law_one", "_law_hand"] [some 10, none] sc_law.nd rfl (Or.inl rfl) rfl rfl (by kernel_rfl) (pi_listK (K := K) rfl (pv 1)) (fun _ _ _ _ _ nd => pg_name (i := 1) nd rfl (Or.inl rfl)) (fun _ _ _ _ _ => (pif_one (pt_cmpR op_ne (pv 1) (pv 0) (nomark _)))) (fun _ _ _ _ _ => (pv 1)))) pss_nil)
      (pss_one (ps_for PassesOwn.never rfl (pi_listK (K := K) rfl (pv 11)) (pg_name (i := 4) sc_law.nd rfl (Or.inl rfl))
      (pss_cons (ps_set (i := 14) sc_law.nd rfl (Or.inl rfl) (pe_fldK (K := K) rfl (pe_dget hu (pv 3) (pv 4) (fun _ _ => rfl)) rfl))
      (pss_cons (ps_expr (pcall G__law_deed C__law_deed hr (pa_cons (pv 3) (pa_cons (pv 4) (pa_cons (pv 5) (pa_cons (pv 6) (pa_cons (pv 9) pa_nil)))))))
      (pss_one (ps_if (pt_not (pt_callK K rfl (pcall G__law_right C__law_right hr (pa_cons (pv 3) (pa_cons (pv 4) (pa_cons (pv 7) (pa_cons (pv 14) pa_nil))))))) (pss_one (ps_ret pe_bl)) pss_nil)))))))))))))
      (pss_one (ps_ret (pcall G__law_agreed C__law_agreed hr (pa_cons (pe_ix (ix_tupK (K := K) rfl) (pv 7) pe_int (fun _ _ => rfl)) (pa_cons (pv 6) (pa_cons (pe_ix (ix_tupK (K := K) rfl) (pv 7) pe_int (fun _ _ => rfl)) pa_nil)))))))))))))), ?_⟩
  obtain ⟨hS, hlen, hP, k⟩ := h
  obtain ⟨cl, n1, n2, n3, n4, n5, n6, n7⟩ := id T_Change
  clean_wf
  refine ⟨a, 0, rfl, ks, hS, by decide, fun cz => ?_⟩
  clean_wf
  refine ⟨cz, rfl, fun H1 l hs s1 hl g1 hHs hne l6 => ?_⟩
  have hS1 := s1.seq hS
  have sl1 := SqL.of (K := K) g1
  have hP1 := s1 _ _ hP
  clean_wf
  intro D0 hD0
  refine comp_list (K := K) (a := l) (xs := hs.map V.int) (fun i σ H' => ∃ v, σ = [v] ∧ Same H1 H' ∧ H' D0 = some (.lst (((hs.take i).map fun h => 1 * (2 : Int) ^ h.toNat).map V.int))) ⟨none, rfl, same_upd hD0, upd_same⟩ ?_ ?_ ?_
  · rintro i σ H' _ ⟨_, _, z, _⟩
    exact SqL.of (z _ _ g1)
  · rintro i x σ H' hx ⟨v, rfl, sm, hDx⟩
    obtain ⟨h, hh, rfl⟩ := int_get hx
    have hi := (List.getElem?_eq_some_iff.mp hh).1
    have hr := hHs.rg h (List.mem_of_getElem? hh)
    have cp : CPow 1 h := ⟨hr.1, by omega, by decide⟩
    clean_wf
    refine ⟨_, hDx, ?_, _, rfl, fun b o z => ?_, ?_⟩
    · rw [List.length_map, List.length_map, List.length_take]
      exact small1000 (by omega)
    · rw [upd_ne (ne_of_none z hD0)]
      exact sm b o z
    · rw [upd_same, take_get hh, List.map_append, List.map_append]
      rfl
  rintro σ H3 ⟨v, rfl, s3, hD3⟩
  rw [List.length_map, List.take_length] at hD3
  refine ⟨D0, _, rfl, SqL.of hD3, ?_⟩
  obtain ⟨w0, w1, whl⟩ := hHs.set
  generalize (hs.map fun h => 1 * (2 : Int) ^ h.toNat).sum = n at w0 w1 whl ⊢
  have G : Gp hs n := ⟨w0, whl, hHs.up, hHs.rg⟩
  have g13 := s3 _ _ g1
  have hS3 := s3.seq hS1
  have hP3 := s3 _ _ hP1
  have nds : hs.Nodup := G.nd
  clean_wf
  intro dc H4 hdc s4 g4
  have g15 := s4 _ _ g13
  have sl5 := SqL.of (K := K) g15
  have ldc : l ≠ dc := ne_of g15 g4 (by intro z; cases z)
  clean_wf
  refine for_list (xs := hs.map V.int) (fun i σ B => ∃ v p d, σ = [some (.ref a), some (.ref l), some (.int n), some (.ref dc), v, none, none, none, none, none, none, none, none, none, none] ∧ Same H3 B ∧ B l = some (.lst (hs.map V.int)) ∧ Wd0 K mg B dc (hs.take i) n p d) ⟨none, fun _ => 0, fun _ => 0, rfl, s4, g15, ⟨g4, (fun _ z => nomatch z), (fun _ z => nomatch z), (fun _ z => nomatch z), (fun _ z => nomatch z)⟩⟩ (fun i σ B _ z => by obtain ⟨_, _, _, _, _, z, _⟩ := z; exact SqL.of z) ?_ ?_
  · rintro i x σ B hx ⟨v, p, d, rfl, sB, gl, cs⟩
    obtain ⟨h, hh, rfl⟩ := int_get hx
    have hi := (List.getElem?_eq_some_iff.mp hh).1
    have hm := List.mem_of_getElem? hh
    have hr := hHs.rg h hm
    have gdB := cs.gd
    have nh : h ∉ hs.take i := fun z => by
      obtain ⟨j, hj⟩ := List.getElem?_of_mem z
      have hj1 := (List.getElem?_eq_some_iff.mp hj).1
      rw [List.length_take] at hj1
      rw [List.getElem?_take_of_lt (by omega)] at hj
      have : j = i := (List.getElem?_inj (by omega) nds).mp (by rw [hj, hh])
      omega
    have ndm1 : (((hs.take i).map fun h => (h, V.ref (p h))).map (·.1)).Nodup := by rw [keys_fn]; exact nds.sublist (List.take_sublist _ _)
    have lnm1 : ((hs.take i).map fun h => (h, V.ref (p h))).length < sizeLine := small1000 (by rw [List.length_map, List.length_take]; omega)
    clean_wf
    intro p1 x1 B1 hp1 t1 u1
    refine ⟨p1, h, n, rfl, _, x1, T_Change, u1, fun B2 d1 k1 hd1 y1 q1 => ⟨rfl, ?_⟩⟩
    have sB2 : Same B B2 := fun b o e => k1 b o (t1 _ _ e) (fun z => by rw [z, hp1] at e; cases e)
    have hd1' : B d1 = none := t1.free hd1
    have gd2 := sB2 _ _ gdB
    clean_wf
    intro B3 b3 g3
    have mr := Wd0.more cs nh sB2 hp1 hd1' ⟨_, _, m_Change, q1⟩ y1 b3 g3 hr.1 hr.2 w0 w1 (bit_sub w0 (by rw [whl]; exact hm) hr.1)
    exact ⟨_, _, _, rfl, b3.same (sB.trans sB2) hdc, b3.at ldc (sB2 _ _ gl), by rw [take_get hh]; exact mr⟩
  rintro σ B ⟨v, p, d, rfl, sB, gl, W⟩
  rw [List.length_map, List.take_length] at W
  have hSB := sB.seq hS3
  have hPB := sB _ _ hP3
  clean_wf
  intro ml B1 hml t1 gml
  clean_wf
  intro la B2 hla t2 gla
  clean_wf
  intro st B3 hst t3 gst
  refine x_consS fun sd B4 hsd t4 gsd => ?_
  clean_wf
  intro pd hpd
  have t5 := same_upd (o := .dT []) hpd
  have gpd : (upd B4 pd (.dT [])) pd = some (.dT []) := upd_same
  generalize upd B4 pd (.dT []) = B5 at t5 gpd ⊢
  clean_wf
  intro ta B6 hta t6 gta
  have t16 := t1.trans (t2.trans (t3.trans (t4.trans (t5.trans t6))))
  have t26 := t2.trans (t3.trans (t4.trans (t5.trans t6)))
  have t36 := t3.trans (t4.trans (t5.trans t6))
  have hS6 := t16.seq hSB
  have gml6 := t26 _ _ gml
  have gla6 := t36 _ _ gla
  have nml : ml ≠ la := fun z => by rw [← z, gml] at hla; cases hla
  have f0 : B ml = none := hml
  have fla : B la = none := t1.free hla
  clean_wf
  intro q7 C hq7 sC gq7
  obtain ⟨ws, ew, lw⟩ := cut_ints ks (some 1) (some 61)
  rw [ew] at gq7
  refine ⟨_, rfl, ⟨_, SqL.of gq7⟩, ?_⟩
  have tC := t16.trans sC
  have bt0 : Bt C ta st sd pd [] [] [] [] [] := ⟨sC _ _ gta, ⟨sC _ _ (t6 _ _ (t5 _ _ gsd)), (fun _ z => nomatch z), sC _ _ (t6 _ _ gpd), .nil, .nil⟩, sC _ _ (t6 _ _ (t5 _ _ (t4 _ _ gst))), .nil, .nil⟩
  have nst : ∀ {x o}, B x = some o → x ≠ st := fun e z => by rw [z, t1.free (t2.free hst)] at e; cases e
  have L0 : Lw K mg P_mk B dc la ml ta st sd pd q7 ws hs n p C l hs d ⟨fun _ => c0, []⟩ [] [] (fun _ => none) (fun _ _ => False) [] [] [] [] [] 0 := ⟨⟨W.same tC, sC _ _ gla6, .nil, sC _ _ gml6, (fun _ z => nomatch z), iv0 hs w0, (fun _ _ z => nomatch z), .inl (tC _ _ hPB), nml⟩, bt0, ⟨fun _ _ z => False.elim z, (fun _ z => nomatch z), (fun _ z => nomatch z), fun _ _ z => absurd rfl z⟩, fun x o e _ => tC _ _ e, gq7, tC _ _ gl, hne, fun _ h => h, nds, nst W.gd, fun h hh => by
    obtain ⟨_, ⟨mm, f2, _⟩, _⟩ := id (W.ch h hh)
    exact nst f2, ⟨(fun z => by rw [z, fla] at gl; cases gl), (fun z => by rw [z, f0] at gl; cases gl)⟩, ⟨(fun z => by rw [z, gla6] at hq7; cases hq7), (fun z => by rw [z, gml6] at hq7; cases hq7)⟩, Nat.le_refl _, Nat.le_refl _, Nat.le_refl _, Nat.le_refl _, Nat.le_refl _⟩
  refine for_list (xs := ws.map V.int) (fun i σ A => ∃ l' hl v4 v8 v9 v10 v11 v12 v13 v14 d z y' ys PL VT ss kvs pq m sl, σ = [some (.ref a), some (.ref l'), some (.int n), some (.ref dc), v4, some (.ref ml), some (.ref la), some (.ref ta), v8, v9, v10, v11, v12, v13, v14] ∧ Lw K mg P_mk B dc la ml ta st sd pd q7 ws hs n p A l' hl d z y' ys PL VT ss kvs pq m sl (13 * i)) ⟨_, _, _, _, _, _, _, _, _, _, _, _, _, _, _, _, _, _, _, _, _, rfl, L0⟩ (fun i σ A _ z => by obtain ⟨_, _, _, _, _, _, _, _, _, _, _, _, _, _, _, _, _, _, _, _, _, _, z⟩ := z; exact SqL.of z.gq) ?_ ?_
  · clear L0 bt0
    rintro i x σ A hx ⟨l', hl, v4, v8, v9, v10, v11, v12, v13, v14, d, z, y', ys, PL, VT, ss, kvs, pq, m, sl, rfl, L⟩
    obtain ⟨cc, hcc, rfl⟩ := int_get hx
    have hi : i < ws.length := (List.getElem?_eq_some_iff.mp hcc).1
    clean_wf
    refine ⟨cc, 8, rfl, by decide, by decide, fun A1 xa xs r1 hxa gx lx hm => ?_⟩
    have lx : xs.length = 8 := lx
    have M1 := L.same r1
    have hxs := SqL.of (K := K) gx
    have nxl : xa ≠ la := fun z => by rw [z, L.dz.gl] at hxa; cases hxa
    have nxm : xa ≠ ml := fun z => by rw [z, L.dz.gm] at hxa; cases hxa
    have sl1 := SqL.of (K := K) M1.gl
    have lh6 : hl.length ≤ 6 := Nat.le_trans (nd_le L.hp L.hu) l6
    have lpos : 0 < hl.length := List.length_pos_iff.mpr L.hn
    have at0 := at_int (xs := xs) (i := 0) (by omega)
    have at1 := at_int (xs := xs) (i := 1) (by omega)
    have at4 := at_int (xs := xs) (i := 4) (by omega)
    have at6 := at_int (xs := xs) (i := 6) (by omega)
    have lp : (0 : Int) < ((hl.map V.int).length : Nat) := by rw [List.length_map]; omega
    obtain ⟨one, h1, atO⟩ : ∃ h ∈ hl, atI (hl.map V.int) (xs[0] % (((hl.map V.int).length : Nat) : Int)) = some (V.int h) := by
      have z0 := Int.emod_nonneg xs[0] (show (((hl.map V.int).length : Nat) : Int) ≠ 0 by omega)
      have z1 := Int.emod_lt_of_pos xs[0] lp
      have iq : (xs[0] % (((hl.map V.int).length : Nat) : Int)).toNat < hl.length := by rw [List.length_map] at *; omega
      exact ⟨_, List.getElem_mem iq, at_int' z0 iq⟩
    have h1s := L.hu one h1
    clean_wf
    intro so A2 hso r2 gso
    have M2 := M1.same r2
    have nso : so ≠ la ∧ so ≠ ml ∧ so ≠ xa := ⟨(fun z => by rw [z, M1.dz.gl] at hso; cases hso), (fun z => by rw [z, M1.dz.gm] at hso; cases hso), (fun z => by rw [z, gx] at hso; cases hso)⟩
    have hx2 := r2.seq hxs
    -- who is told
    refine x_cut (fun σ' E => ∃ v12' so', ∃ (sm xs' : List Int) (ys' : List V), σ' = [some (.ref a), some (.ref l'), some (.int n), some (.ref dc), v4, some (.ref ml), some (.ref la), some (.ref ta), some (.int cc), some (.ref xa), some (.int one), some (.ref so'), v12', v13, v14] ∧ Lw K mg P_mk B dc la ml ta st sd pd q7 ws hs n p E l' hl d z y' ys' PL VT ss kvs pq m sl (13 * i + 1) ∧ E so' = some (.lst (sm.map V.int)) ∧ (∀ h ∈ sm, h ∈ hs) ∧ sm.length ≤ 12 ∧ E xa = some (.lst (xs'.map V.int)) ∧ xs'.length = 8 ∧ so' ≠ la ∧ so' ≠ ml) ?_ fun N rest => ?_
    rotate_left
    · clean_wf
      refine ite2 (fun _ => ?_) fun _ => ?_
      · have S1 := M2.dz.wd.ch one h1s
        obtain ⟨⟨C9, dx, ba, ye, av, eC, hp2, _⟩, ⟨mm, hd2, _⟩, _, _, _, _, _, sv1, _⟩ := id S1
        rw [m_Change] at eC
        cases eC
        have gd2 := M2.dz.wd.gd
        have lk1 := lk_fn (f := p) h1s
        have gm2 := M2.dz.gm
        clean_wf
        refine ⟨p one, .int xs[4], rfl, one, n, _, _, _, _, d one, _, _, S1, .int _, fun A3 ma r3 e3 => ?_⟩
        clean_wf
        intro t5 A4 ht5 r4 g5
        have M4 := (M2.same r3).same r4
        have gm4 := M4.dz.gm
        have ls : ys.length < sizeLine := small1000 (by have := L.b2; omega)
        clean_wf
        intro A5 b5 g6
        have M5 := M4.post f0 b5 g6 ⟨t5, one, ma, _, _, _, _, rfl, g5, e3.up (.same r4), sv1, M4.dz.iv.lt h1s⟩
        have gx5 : A5 xa = some (.lst (xs.map V.int)) := b5.at nxm (r4 _ _ (r3 _ _ (r2 _ _ gx)))
        have hx5 := SqL.of (K := K) gx5
        have sl5 := SqL.of (K := K) M5.gl
        have nxl' : xa ≠ l' := fun z => by rw [z, L.gl] at hxa; cases hxa
        have nxq : xa ≠ q7 := fun z => by rw [z, L.gq] at hxa; cases hxa
        have fBx : ∀ o, B xa = some o → ¬ Lf o := fun o e q => by rw [L.fr _ _ e q] at hxa; cases hxa
        clean_wf
        intro l8 A6 hl8 r6 g8
        have M6 := M5.same r6
        have sl6 := SqL.of (K := K) M6.gl
        clean_wf
        intro l9 A7 hl9 r7 g9
        have M7 := M6.same r7
        have g87 := r7 _ _ g8
        obtain ⟨ms1, e1, k1, u1⟩ := cut_hl (hl := hl) (lo := some (xs[6] % (((hl.map V.int).length : Nat) : Int))) (hi := none)
        obtain ⟨ms2, e2, k2, u2⟩ := cut_hl (hl := hl) (lo := none) (hi := some (xs[6] % (((hl.map V.int).length : Nat) : Int)))
        rw [e1] at g87
        rw [e2] at g9
        refine ⟨l8, l9, _, _, rfl, rfl, g87, g9, by rw [List.length_map, List.length_map]; exact Nat.le_of_lt (small1000 (by omega)), fun lc hlc => ?_⟩
        have s8 := same_upd (o := .lst (ms1.map V.int ++ ms2.map V.int)) hlc
        have g88 : (upd A7 lc (.lst (ms1.map V.int ++ ms2.map V.int))) lc = some (.lst (ms1.map V.int ++ ms2.map V.int)) := upd_same
        generalize upd A7 lc (.lst (ms1.map V.int ++ ms2.map V.int)) = A8 at s8 g88 ⊢
        have M8 := M7.same s8
        have gx8 : A8 xa = some (.lst (xs.map V.int)) := s8 _ _ (r7 _ _ (r6 _ _ gx5))
        have ncl : lc ≠ la := fun z => by rw [z, M7.dz.gl] at hlc; cases hlc
        have ncm : lc ≠ ml := fun z => by rw [z, M7.dz.gm] at hlc; cases hlc
        have ncx : lc ≠ xa := fun z => by rw [z, r7 _ _ (r6 _ _ gx5)] at hlc; cases hlc
        clean_wf
        refine x_setL gx8 (j := 2) (by unfold ixN; rw [List.length_map, lx]; rfl) fun A9 b9 g10 => ?_
        have M9 := M8.writ b9 gx8 nxl nxm nxl' nxq fBx
        refine rest _ _ ⟨_, lc, ms1 ++ ms2, xs.set 2 0, _, rfl, M9, by rw [List.map_append]; exact b9.at ncx g88, fun h hh => ?_, by rw [List.length_append]; omega, by rw [g10, List.map_set], by rw [List.length_set]; exact lx, ncl, ncm⟩
        rcases List.mem_append.mp hh with w | w
        · exact L.hu h (u1 h w)
        · exact L.hu h (u2 h w)
      · exact rest _ _ ⟨_, so, [one], xs, ys, rfl, M2.le (Nat.le_succ _), gso, fun h hh => by rw [List.mem_singleton.mp hh]; exact h1s, by show 1 ≤ 12; decide, r2 _ _ gx, lx, nso.1, nso.2.1⟩
    rintro σ' E ⟨v12', so', sm, xs', ys', rfl, M, gso', hsm, lsm, gxa, lxs, nsl, nsm⟩
    have hxE := SqL.of (K := K) gxa
    have at7 := at_int (xs := xs') (i := 7) (by omega)
    clean_wf
    refine ⟨a, 0, rfl, ks, seq_fr M.fr hSB, by decide, fun c9 => ?_⟩
    have slE := SqL.of (K := K) M.gl
    clean_wf
    refine x_cut (fun σ' E' => ∃ l'' hl'', σ' = [some (.ref a), some (.ref l''), some (.int n), some (.ref dc), v4, some (.ref ml), some (.ref la), some (.ref ta), some (.int cc), some (.ref xa), some (.int one), some (.ref so'), v12', some (.bl (decide (c9 / 12 % 5 < 2))), v14] ∧ Lw K mg P_mk B dc la ml ta st sd pd q7 ws hs n p E' l'' hl'' d z y' ys' PL VT ss kvs pq m sl (13 * i + 1) ∧ Same E E') ?_ fun N rest => ?_
    rotate_left
    · have out : N [some (.ref a), some (.ref l'), some (.int n), some (.ref dc), v4, some (.ref ml), some (.ref la), some (.ref ta), some (.int cc), some (.ref xa), some (.int one), some (.ref so'), v12', some (.bl (decide (c9 / 12 % 5 < 2))), v14] E := rest _ _ ⟨l', hl, rfl, M, .refl _⟩
      clean_wf
      refine ite2 (fun _ => ?_) fun _ => ?_
      · clean_wf
        refine ite2 (fun h2 => ?_) fun _ => ?_
        · have h2 := of_decide_eq_true h2
          rw [List.length_map] at h2
          clean_wf
          refine ite2 (fun _ => ?_) fun _ => ?_
          · clean_wf
            intro D9 hD9
            refine comp_list (K := K) (a := l') (xs := hl.map V.int) (fun j σ F => ∃ v, σ = [some (.int one), v] ∧ Same E F ∧ F D9 = some (.lst (((hl.take j).filter fun h => decide (h ≠ one)).map V.int))) ⟨none, rfl, same_upd hD9, upd_same⟩ ?_ ?_ ?_
            · rintro j σ F _ ⟨_, _, z, _⟩
              exact SqL.of (z _ _ M.gl)
            · rintro j x σ F hx ⟨v, rfl, sF, gF⟩
              obtain ⟨h, hh, rfl⟩ := int_get hx
              have hj := (List.getElem?_eq_some_iff.mp hh).1
              have lf := List.length_filter_le (fun h : Int => decide (h ≠ one)) (hl.take j)
              rw [List.length_take] at lf
              have ef : (hl.take (j + 1)).filter (fun h => decide (h ≠ one)) = (hl.take j).filter (fun h => decide (h ≠ one)) ++ if decide (h ≠ one) = true then [h] else [] := by
                rw [take_get hh, List.filter_append, List.filter_cons]
                rfl
              rw [ef]
              clean_wf
              refine ite2 (fun h3 => ?_) fun h3 => ?_
              · have h3 : h ≠ one := by simpa using h3
                rw [decide_eq_true h3, if_pos rfl]
                clean_wf
                refine ⟨_, gF, small1000 (by rw [List.length_map]; omega), _, rfl, fun b o e => ?_, by rw [upd_same, List.map_append]; rfl⟩
                rw [upd_ne (ne_of_none e hD9)]
                exact sF b o e
              · have h3 : h = one := by simpa using h3
                rw [decide_eq_false (fun u => u h3), if_neg Bool.false_ne_true, List.append_nil]
                exact ⟨_, rfl, sF, gF⟩
            rintro σ F ⟨v, rfl, sF, gF⟩
            rw [List.length_map, List.take_length] at gF
            have MF := M.same sF
            refine rest _ _ ⟨D9, hl.filter fun h => decide (h ≠ one), rfl, ⟨MF.dz, MF.bt, MF.jv, MF.fr, MF.gq, gF, rest_ne M.hp (by omega), fun h hh => M.hu h (List.mem_filter.mp hh).1, M.hp.filter _, MF.n1, MF.n2, ⟨fun z => ?_, fun z => ?_⟩, MF.nq, MF.b1, MF.b2, MF.b3, MF.b4, MF.b5⟩, sF⟩
            · rw [z, M.dz.gl] at hD9; cases hD9
            · rw [z, M.dz.gm] at hD9; cases hD9
          · exact out
        · exact out
      · exact out
    rintro σ' E' ⟨l'', hl'', rfl, M', sE'⟩
    have gso2 := sE' _ _ gso'
    have gxa2 := sE' _ _ gxa
    have sso := SqL.of (K := K) gso2
    clean_wf
    refine for_list (xs := sm.map V.int) (fun j σ F => ∃ v4 v14 d z y' ys PL VT ss kvs pq m sl, σ = [some (.ref a), some (.ref l''), some (.int n), some (.ref dc), v4, some (.ref ml), some (.ref la), some (.ref ta), some (.int cc), some (.ref xa), some (.int one), some (.ref so'), v12', some (.bl (decide (c9 / 12 % 5 < 2))), v14] ∧ Lw K mg P_mk B dc la ml ta st sd pd q7 ws hs n p F l'' hl'' d z y' ys PL VT ss kvs pq m sl (13 * i + 1 + j) ∧ F so' = some (.lst (sm.map V.int)) ∧ F xa = some (.lst (xs'.map V.int))) ⟨_, _, _, _, _, _, _, _, _, _, _, _, _, rfl, M', gso2, gxa2⟩ (fun j σ F _ z => by obtain ⟨_, _, _, _, _, _, _, _, _, _, _, _, _, _, _, z, _⟩ := z; exact SqL.of z) ?_ ?_
    · clear M M' L M1 M2
      rintro j x σ F hx ⟨v4, v14, d, z, y', ys, PL, VT, ss, kvs, pq, m, sl, rfl, M, gs, gx⟩
      obtain ⟨h, hh, rfl⟩ := int_get hx
      have hhs := hsm h (List.mem_of_getElem? hh)
      have hj : j < sm.length := (List.getElem?_eq_some_iff.mp hh).1
      have gd := M.dz.wd.gd
      have lk := lk_fn (f := p) hhs
      obtain ⟨⟨C9, dx, ba, ye, av, eC, hp, hb, _⟩, ⟨mm, hd2, _⟩, _⟩ := id (M.dz.wd.ch h hhs)
      rw [m_Change] at eC
      cases eC
      obtain ⟨b1, b2, b3, b4, b5⟩ := (⟨M.b1, M.b2, M.b3, M.b4, M.b5⟩ : _ ∧ _ ∧ _ ∧ _ ∧ _)
      clean_wf
      refine ⟨dc, h, ml, la, xa, rfl, hs, n, p, d, z, y', ys, xs', PL, VT, M.dz, G, l6, hhs, by omega, by omega, gx, lxs, nxl, nxm, fun F1 d1 z1 y1 ys1 PL1 VT1 kD D1 od wd1 l1 l2 x1 => ?_⟩
      have far : ∀ {x o}, F x = some o → (∀ C dx fs, o ≠ .ins C dx fs) → (∀ kvs, o ≠ .dK kvs) → (∀ xs, o ≠ .lst xs) → (∀ ps, o ≠ .tbl ps) → F1 x = some o := fun e q1 q2 q3 q4 => kD _ _ (ne_of e hp (q1 _ _ _)) (ne_of e hd2 (q2 _)) (ne_of e M.dz.gl (q3 _)) (ne_of e M.dz.gm (q3 _)) e q4
      have lst : ∀ {x xs}, x ≠ la → x ≠ ml → F x = some (.lst xs) → F1 x = some (.lst xs) := fun q1 q2 e => kD _ _ (ne_of e hp (by intro z; cases z)) (ne_of e hd2 (by intro z; cases z)) q1 q2 e (fun _ z => nomatch z)
      have kst : ∀ o, F st = some o → F1 st = some o := fun o e => by
        rw [M.bt.gt] at e
        cases e
        exact kD _ _ (ne_of M.bt.gt hp (by intro z; cases z)) (M.n2 h hhs).symm (ne_of M.bt.gt M.dz.gl (by intro z; cases z)) (ne_of M.bt.gt M.dz.gm (by intro z; cases z)) M.bt.gt (fun _ z => nomatch z)
      have bt1 := M.bt.kept kst fun a o e q => far e (by rcases q with ⟨_, rfl⟩ | ⟨_, rfl⟩ | ⟨_, rfl⟩ <;> exact fun _ _ _ z => nomatch z) (by rcases q with ⟨_, rfl⟩ | ⟨_, rfl⟩ | ⟨_, rfl⟩ <;> exact fun _ z => nomatch z) (by rcases q with ⟨_, rfl⟩ | ⟨_, rfl⟩ | ⟨_, rfl⟩ <;> exact fun _ z => nomatch z) (by rcases q with ⟨_, rfl⟩ | ⟨_, rfl⟩ | ⟨_, rfl⟩ <;> exact fun _ z => nomatch z)
      have smF : SmH F F1 := fun a xs e => far e (fun _ _ _ z => nomatch z) (fun _ z => nomatch z) (fun _ z => nomatch z) (fun _ z => nomatch z)
      have n2' : ∀ j ∈ hs, d1 j ≠ st := fun j hj => by
        by_cases u : j = h
        · rw [u]
          rcases wd1 with w | w
          · rw [w]; exact M.n2 h hhs
          · intro v
            rw [v, M.bt.gt] at w
            cases w
        · rw [od j u]; exact M.n2 j hj
      have gd1 := D1.wd.gd
      clean_wf
      refine ⟨dc, h, ta, ba, rfl, hs, n, p, d1, z1.c, st, sd, pd, ss, kvs, pq, m, sl, (z.c h).b, D1.wd, hhs, M.n1, n2', bt1, by omega, by omega, by omega, hb.up smF, M.jv.ask G x1 hhs, fun F2 ss' kvs' pq' m' sl' k2 W2 bt2 l3 l4 l5 R => ?_⟩
      have ls2 : ∀ {x xs}, F1 x = some (.lst xs) → F2 x = some (.lst xs) := fun e => k2 _ _ (ne_of e bt1.bk.gs (by intro z; cases z)) (ne_of e bt1.bk.gp (by intro z; cases z)) (ne_of e bt1.gt (by intro z; cases z)) e
      have sm2 : SmH F1 F2 := fun a xs e => k2 _ _ (ne_of e bt1.bk.gs (by intro z; cases z)) (ne_of e bt1.bk.gp (by intro z; cases z)) (ne_of e bt1.gt (by intro z; cases z)) e
      have tb2 : TabM P_mk F2 := by
        rcases D1.tb with t | ⟨c, t, u⟩
        · exact .inl (k2 _ _ (ne_of t bt1.bk.gs (by intro z; cases z)) (ne_of t bt1.bk.gp (by intro z; cases z)) (ne_of t bt1.gt (by intro z; cases z)) t)
        · refine .inr ⟨c, k2 _ _ (ne_of t bt1.bk.gs (by intro z; cases z)) (ne_of t bt1.bk.gp (by intro z; cases z)) (ne_of t bt1.gt (by intro z; cases z)) t, k2 _ _ (fun v => ?_) (ne_of u bt1.bk.gp (by intro z; cases z)) (ne_of u bt1.gt (by intro z; cases z)) u⟩
          have gs := bt1.bk.gs
          rw [← v] at gs
          exact cd_ne _ _ _ (Option.some.inj (u.symm.trans gs))
      have D2 : Dz K mg P_mk dc la ml hs n p F2 d1 z1 y1 ys1 PL1 VT1 := ⟨W2, ls2 D1.gl, D1.pl.up sm2, ls2 D1.gm, fun y hy => (D1.mm y hy).up sm2 (.refl _ _ _), D1.iv, D1.ai, tb2, D1.nl⟩
      have nla : ∀ {x o}, B x = some o → x ≠ la ∧ x ≠ ml := fun e => ⟨(fun z => by rw [z, fla] at e; cases e), (fun z => by rw [z, f0] at e; cases e)⟩
      clean_wf
      refine ⟨_, _, d1, z1, y1, ys1, PL1, VT1, ss', kvs', pq', m', sl', rfl, ⟨D2, bt2, M.jv.next x1 hhs R, fun x o e q => ?_, ls2 (lst M.nq.1 M.nq.2 M.gq), ls2 (lst M.nl.1 M.nl.2 M.gl), M.hn, M.hu, M.hp, M.n1, n2', M.nl, M.nq, by omega, by omega, by omega, by omega, by omega⟩, ls2 (lst nsl nsm gs), ls2 (lst nxl nxm gx)⟩
      have eF := M.fr x o e q
      rcases q with ⟨xs, rfl⟩ | ⟨o', u, rfl⟩
      · exact ls2 (lst (nla e).1 (nla e).2 eF)
      · have e1 := far eF (fun _ _ _ z => nomatch z) (fun _ z => nomatch z) (fun _ z => nomatch z) (fun _ z => nomatch z)
        exact k2 _ _ (ne_of e1 bt1.bk.gs (by intro z; cases z)) (ne_of e1 bt1.bk.gp (by intro z; cases z)) (ne_of e1 bt1.gt (by intro z; cases z)) e1
    rintro σ F ⟨v4, v14, d, z, y', ys, PL, VT, ss, kvs, pq, m, sl, rfl, M, gs, gx⟩
    rw [List.length_map] at M
    exact ⟨_, _, _, _, _, _, _, _, _, _, _, _, _, _, _, _, _, _, _, _, _, rfl, M.le (by omega)⟩
  rintro σ A ⟨l', hl, v4, v8, v9, v10, v11, v12, v13, v14, d, z, y', ys, PL, VT, ss, kvs, pq, m, sl, rfl, L⟩
  have L := L
  rw [List.length_map] at L
  have sta := SqT.of (K := K) L.bt.ta
  clean_wf
  refine ⟨st, la, pd, rfl, m, sl, kvs, pq, y', z.an, L.bt.gt, L.bt.clean_wf, by have := L.b5; omega, L.dz.gl, L.dz.pl, L.bt.bk.gp, L.bt.bk.pl, by have := L.b4; omega, L.bt.bk.nd, L.jv.last L.dz.iv L.dz.ai, fun H' => k H'⟩
end
end K64


namespace K64
open PySem L2
set_option maxHeartbeats 8000000 in
theorem all_mk {l : W.OpenLaw} {w : World} {K : W.Frag} {h : Heap} {mg : Str → Option Value} {fa f_0 f_1 f_2 f_3 f_4 f_5 f_6 f_7 f_8 f_9 f_10 f_11 f_12 f_13 f_14 f_15 f_16 f_17 f_18 f_19 f_20 f_21 f_22 f_23 f_24 f_25 f_26 f_27 f_28 f_29 f_30 f_31 C_Change c_mk P_mk : Addr} (X : K.In h) (G : h.Ns mainGlobals mg) (hfa : mg "law" = some (.ref fa))
    {oc_0 kV_0 dc_0 pm_0 cd_0 ct_0 : Value} {od_0 an_0 : Option Addr} {sl_0 : Array (Option Value)} {oc_1 kV_1 dc_1 pm_1 cd_1 ct_1 : Value} {od_1 an_1 : Option Addr} {sl_1 : Array (Option Value)} {oc_2 kV_2 dc_2 pm_2 cd_2 ct_2 : Value} {od_2 an_2 : Option Addr} {sl_2 : Array (Option Value)} {oc_3 kV_3 dc_3 pm_3 cd_3 ct_3 : Value} {od_3 an_3 : Option Addr} {sl_3 : Array (Option Value)} {oc_4 kV_4 dc_4 pm_4 cd_4 ct_4 : Value} {od_4 an_4 : Option Addr} {sl_4 : Array (Option Value)} {oc_5 kV_5 dc_5 pm_5 cd_5 ct_5 : Value} {od_5 an_5 : Option Addr} {sl_5 : Array (Option Value)} {oc_6 kV_6 dc_6 pm_6 cd_6 ct_6 : Value} {od_6 an_6 : Option Addr} {sl_6 : Array (Option Value)} {oc_7 kV_7 dc_7 pm_7 cd_7 ct_7 : Value} {od_7 an_7 : Option Addr} {sl_7 : Array (Option Value)} {oc_8 kV_8 dc_8 pm_8 cd_8 ct_8 : Value} {od_8 an_8 : Option Addr} {sl_8 : Array (Option Value)} {oc_9 kV_9 dc_9 pm_9 cd_9 ct_9 : Value} {od_9 an_9 : Option Addr} {sl_9 : Array (Option Value)} {oc_10 kV_10 dc_10 pm_10 cd_10 ct_10 : Value} {od_10 an_10 : Option Addr} {sl_10 : Array (Option Value)} {oc_11 kV_11 dc_11 pm_11 cd_11 ct_11 : Value} {od_11 an_11 : Option Addr} {sl_11 : Array (Option Value)} {oc_12 kV_12 dc_12 pm_12 cd_12 ct_12 : Value} {od_12 an_12 : Option Addr} {sl_12 : Array (Option Value)} {oc_13 kV_13 dc_13 pm_13 cd_13 ct_13 : Value} {od_13 an_13 : Option Addr} {sl_13 : Array (Option Value)} {oc_14 kV_14 dc_14 pm_14 cd_14 ct_14 : Value} {od_14 an_14 : Option Addr} {sl_14 : Array (Option Value)} {oc_15 kV_15 dc_15 pm_15 cd_15 ct_15 : Value} {od_15 an_15 : Option Addr} {sl_15 : Array (Option Value)} {oc_16 kV_16 dc_16 pm_16 cd_16 ct_16 : Value} {od_16 an_16 : Option Addr} {sl_16 : Array (Option Value)} {oc_17 kV_17 dc_17 pm_17 cd_17 ct_17 : Value} {od_17 an_17 : Option Addr} {sl_17 : Array (Option Value)} {oc_18 kV_18 dc_18 pm_18 cd_18 ct_18 : Value} {od_18 an_18 : Option Addr} {sl_18 : Array (Option Value)} {oc_19 kV_19 dc_19 pm_19 cd_19 ct_19 : Value} {od_19 an_19 : Option Addr} {sl_19 : Array (Option Value)} {oc_20 kV_20 dc_20 pm_20 cd_20 ct_20 : Value} {od_20 an_20 : Option Addr} {sl_20 : Array (Option Value)} {oc_21 kV_21 dc_21 pm_21 cd_21 ct_21 : Value} {od_21 an_21 : Option Addr} {sl_21 : Array (Option Value)} {oc_22 kV_22 dc_22 pm_22 ct_22 : Value} {od_22 an_22 : Option Addr} {sl_22 : Array (Option Value)} {oc_23 kV_23 dc_23 pm_23 cd_23 ct_23 : Value} {od_23 an_23 : Option Addr} {sl_23 : Array (Option Value)} {oc_24 kV_24 dc_24 pm_24 cd_24 ct_24 : Value} {od_24 an_24 : Option Addr} {sl_24 : Array (Option Value)} {oc_25 kV_25 dc_25 pm_25 cd_25 ct_25 : Value} {od_25 an_25 : Option Addr} {sl_25 : Array (Option Value)} {oc_26 kV_26 dc_26 pm_26 cd_26 ct_26 : Value} {od_26 an_26 : Option Addr} {sl_26 : Array (Option Value)} {oc_27 kV_27 dc_27 pm_27 cd_27 ct_27 : Value} {od_27 an_27 : Option Addr} {sl_27 : Array (Option Value)} {oc_28 kV_28 dc_28 pm_28 cd_28 ct_28 : Value} {od_28 an_28 : Option Addr} {sl_28 : Array (Option Value)} {oc_29 kV_29 dc_29 pm_29 cd_29 ct_29 : Value} {od_29 an_29 : Option Addr} {sl_29 : Array (Option Value)} {oc_30 kV_30 dc_30 pm_30 cd_30 ct_30 : Value} {od_30 an_30 : Option Addr} {sl_30 : Array (Option Value)} {oc_31 kV_31 dc_31 pm_31 cd_31 ct_31 : Value} {od_31 an_31 : Option Addr} {sl_31 : Array (Option Value)}
    (a_0 : W.nsIn K mainGlobals "bit_of" = some (some (.ref f_0)))
    (a_1 : W.nsIn K mainGlobals "has" = some (some (.ref f_1)))
    (a_2 : W.nsIn K mainGlobals "hands_of" = some (some (.ref f_2)))
    (a_3 : W.nsIn K mainGlobals "own_copy" = some (some (.ref f_3)))
    (a_4 : W.nsIn K mainGlobals "is_greater" = some (some (.ref f_4)))
    (a_5 : W.nsIn K mainGlobals "ballot_of" = some (some (.ref f_5)))
    (a_6 : W.nsIn K mainGlobals "greatest_yes" = some (some (.ref f_6)))
    (a_7 : W.nsIn K mainGlobals "many" = some (some (.ref f_7)))
    (a_8 : W.nsIn K mainGlobals "more_than_half" = some (some (.ref f_8)))
    (a_9 : W.nsIn K mainGlobals "set_of" = some (some (.ref f_9)))
    (a_22 : W.nsIn K mainGlobals "_law_propose" = some (some (.ref f_22)))
    (a_23 : W.nsIn K mainGlobals "_law_noted" = some (some (.ref f_23)))
    (a_24 : W.nsIn K mainGlobals "_law_kept" = some (some (.ref f_24)))
    (a_25 : W.nsIn K mainGlobals "_law_deed" = some (some (.ref f_25)))
    (a_26 : W.nsIn K mainGlobals "_law_right" = some (some (.ref f_26)))
    (a_27 : W.nsIn K mainGlobals "_law_agreed" = some (some (.ref f_27)))
    (a_28 : W.nsIn K mainGlobals "_law_cell_at" = some (some (.ref f_28)))
    (a_29 : W.nsIn K mainGlobals "_law_stream" = some (some (.ref f_29)))
    (a_30 : W.nsIn K mainGlobals "_law_hands" = some (some (.ref f_30)))
    (a_31 : W.nsIn K mainGlobals "law" = some (some (.ref f_31)))
    (a_Change : W.nsIn K mainGlobals "Change" = some (some (.ref C_Change)))
    (z_dict : W.nsIn K mainGlobals "dict" = some none)
    (z_isinstance : W.nsIn K mainGlobals "isinstance" = some none)
    (z_len : W.nsIn K mainGlobals "len" = some none)
    (z_list : W.nsIn K mainGlobals "list" = some none)
    (z_range : W.nsIn K mainGlobals "range" = some none)
    (z_sorted : W.nsIn K mainGlobals "sorted" = some none)
    (z_sum : W.nsIn K mainGlobals "sum" = some none)
    (z_tuple : W.nsIn K mainGlobals "tuple" = some none)
    (at_Change___init__ : W.findIn K (.ref C_Change) "__init__" = some (some (.ref f_10)))
    (at_Change_begin : W.findIn K (.ref C_Change) "begin" = some (some (.ref f_11)))
    (at_Change_gathers : W.findIn K (.ref C_Change) "gathers" = some (some (.ref f_15)))
    (at_Change_has_enough : W.findIn K (.ref C_Change) "has_enough" = some (some (.ref f_19)))
    (at_Change_made_by : W.findIn K (.ref C_Change) "made_by" = some (some (.ref f_20)))
    (at_Change_message : W.findIn K (.ref C_Change) "message" = some (some (.ref f_12)))
    (at_Change_propose : W.findIn K (.ref C_Change) "propose" = some (some (.ref f_21)))
    (at_Change_receive : W.findIn K (.ref C_Change) "receive" = some (some (.ref f_18)))
    (at_Change_see_ballot : W.findIn K (.ref C_Change) "see_ballot" = some (some (.ref f_13)))
    (at_Change_see_votes : W.findIn K (.ref C_Change) "see_votes" = some (some (.ref f_16)))
    (at_Change_see_yes : W.findIn K (.ref C_Change) "see_yes" = some (some (.ref f_14)))
    (at_Change_settled : W.findIn K (.ref C_Change) "settled" = some (some (.ref f_17)))
    (l_0 : K.lookup f_0 = some ⟨oc_0, od_0, .func (W.fnOf "bit_of" "bit_of" (defArgs s_bit_of) (defBody s_bit_of) (defScope s_bit_of) .none kV_0 dc_0 pm_0 an_0 cd_0 ct_0), sl_0⟩)
    (c_0 : W.codeIn K cd_0 "bit_of" = true)
    (k_0 : W.keepIn K (.ref f_0) = true)
    (l_1 : K.lookup f_1 = some ⟨oc_1, od_1, .func (W.fnOf "has" "has" (defArgs s_has) (defBody s_has) (defScope s_has) .none kV_1 dc_1 pm_1 an_1 cd_1 ct_1), sl_1⟩)
    (c_1 : W.codeIn K cd_1 "has" = true)
    (k_1 : W.keepIn K (.ref f_1) = true)
    (l_2 : K.lookup f_2 = some ⟨oc_2, od_2, .func (W.fnOf "hands_of" "hands_of" (defArgs s_hands_of) (defBody s_hands_of) (defScope s_hands_of) .none kV_2 dc_2 pm_2 an_2 cd_2 ct_2), sl_2⟩)
    (c_2 : W.codeIn K cd_2 "hands_of" = true)
    (k_2 : W.keepIn K (.ref f_2) = true)
    (l_3 : K.lookup f_3 = some ⟨oc_3, od_3, .func (W.fnOf "own_copy" "own_copy" (defArgs s_own_copy) (defBody s_own_copy) (defScope s_own_copy) .none kV_3 dc_3 pm_3 an_3 cd_3 ct_3), sl_3⟩)
    (c_3 : W.codeIn K cd_3 "own_copy" = true)
    (k_3 : W.keepIn K (.ref f_3) = true)
    (l_4 : K.lookup f_4 = some ⟨oc_4, od_4, .func (W.fnOf "is_greater" "is_greater" (defArgs s_is_greater) (defBody s_is_greater) (defScope s_is_greater) .none kV_4 dc_4 pm_4 an_4 cd_4 ct_4), sl_4⟩)
    (c_4 : W.codeIn K cd_4 "is_greater" = true)
    (k_4 : W.keepIn K (.ref f_4) = true)
    (l_5 : K.lookup f_5 = some ⟨oc_5, od_5, .func (W.fnOf "ballot_of" "ballot_of" (defArgs s_ballot_of) (defBody s_ballot_of) (defScope s_ballot_of) .none kV_5 dc_5 pm_5 an_5 cd_5 ct_5), sl_5⟩)
    (c_5 : W.codeIn K cd_5 "ballot_of" = true)
    (k_5 : W.keepIn K (.ref f_5) = true)
    (l_6 : K.lookup f_6 = some ⟨oc_6, od_6, .func (W.fnOf "greatest_yes" "greatest_yes" (defArgs s_greatest_yes) (defBody s_greatest_yes) (defScope s_greatest_yes) .none kV_6 dc_6 pm_6 an_6 cd_6 ct_6), sl_6⟩)
    (c_6 : W.codeIn K cd_6 "greatest_yes" = true)
    (k_6 : W.keepIn K (.ref f_6) = true)
    (l_7 : K.lookup f_7 = some ⟨oc_7, od_7, .func (W.fnOf "many" "many" (defArgs s_many) (defBody s_many) (defScope s_many) .none kV_7 dc_7 pm_7 an_7 cd_7 ct_7), sl_7⟩)
    (c_7 : W.codeIn K cd_7 "many" = true)
    (k_7 : W.keepIn K (.ref f_7) = true)
    (l_8 : K.lookup f_8 = some ⟨oc_8, od_8, .func (W.fnOf "more_than_half" "more_than_half" (defArgs s_more_than_half) (defBody s_more_than_half) (defScope s_more_than_half) .none kV_8 dc_8 pm_8 an_8 cd_8 ct_8), sl_8⟩)
    (c_8 : W.codeIn K cd_8 "more_than_half" = true)
    (k_8 : W.keepIn K (.ref f_8) = true)
    (l_9 : K.lookup f_9 = some ⟨oc_9, od_9, .func (W.fnOf "set_of" "set_of" (defArgs s_set_of) (defBody s_set_of) (defScope s_set_of) .none kV_9 dc_9 pm_9 an_9 cd_9 ct_9), sl_9⟩)
    (c_9 : W.codeIn K cd_9 "set_of" = true)
    (k_9 : W.keepIn K (.ref f_9) = true)
    (l_10 : K.lookup f_10 = some ⟨oc_10, od_10, .func (W.fnOf "__init__" "Change.__init__" (defArgs s_Change___init__) (defBody s_Change___init__) (defScope s_Change___init__) .none kV_10 dc_10 pm_10 an_10 cd_10 ct_10), sl_10⟩)
    (c_10 : W.codeIn K cd_10 "Change.__init__" = true)
    (k_10 : W.keepIn K (.ref f_10) = true)
    (l_11 : K.lookup f_11 = some ⟨oc_11, od_11, .func (W.fnOf "begin" "Change.begin" (defArgs s_Change_begin) (defBody s_Change_begin) (defScope s_Change_begin) .none kV_11 dc_11 pm_11 an_11 cd_11 ct_11), sl_11⟩)
    (c_11 : W.codeIn K cd_11 "Change.begin" = true)
    (k_11 : W.keepIn K (.ref f_11) = true)
    (l_12 : K.lookup f_12 = some ⟨oc_12, od_12, .func (W.fnOf "message" "Change.message" (defArgs s_Change_message) (defBody s_Change_message) (defScope s_Change_message) .none kV_12 dc_12 pm_12 an_12 cd_12 ct_12), sl_12⟩)
    (c_12 : W.codeIn K cd_12 "Change.message" = true)
    (k_12 : W.keepIn K (.ref f_12) = true)
    (l_13 : K.lookup f_13 = some ⟨oc_13, od_13, .func (W.fnOf "see_ballot" "Change.see_ballot" (defArgs s_Change_see_ballot) (defBody s_Change_see_ballot) (defScope s_Change_see_ballot) .none kV_13 dc_13 pm_13 an_13 cd_13 ct_13), sl_13⟩)
    (c_13 : W.codeIn K cd_13 "Change.see_ballot" = true)
    (k_13 : W.keepIn K (.ref f_13) = true)
    (l_14 : K.lookup f_14 = some ⟨oc_14, od_14, .func (W.fnOf "see_yes" "Change.see_yes" (defArgs s_Change_see_yes) (defBody s_Change_see_yes) (defScope s_Change_see_yes) .none kV_14 dc_14 pm_14 an_14 cd_14 ct_14), sl_14⟩)
    (c_14 : W.codeIn K cd_14 "Change.see_yes" = true)
    (k_14 : W.keepIn K (.ref f_14) = true)
    (l_15 : K.lookup f_15 = some ⟨oc_15, od_15, .func (W.fnOf "gathers" "Change.gathers" (defArgs s_Change_gathers) (defBody s_Change_gathers) (defScope s_Change_gathers) .none kV_15 dc_15 pm_15 an_15 cd_15 ct_15), sl_15⟩)
    (c_15 : W.codeIn K cd_15 "Change.gathers" = true)
    (k_15 : W.keepIn K (.ref f_15) = true)
    (l_16 : K.lookup f_16 = some ⟨oc_16, od_16, .func (W.fnOf "see_votes" "Change.see_votes" (defArgs s_Change_see_votes) (defBody s_Change_see_votes) (defScope s_Change_see_votes) .none kV_16 dc_16 pm_16 an_16 cd_16 ct_16), sl_16⟩)
    (c_16 : W.codeIn K cd_16 "Change.see_votes" = true)
    (k_16 : W.keepIn K (.ref f_16) = true)
    (l_17 : K.lookup f_17 = some ⟨oc_17, od_17, .func (W.fnOf "settled" "Change.settled" (defArgs s_Change_settled) (defBody s_Change_settled) (defScope s_Change_settled) .none kV_17 dc_17 pm_17 an_17 cd_17 ct_17), sl_17⟩)
    (c_17 : W.codeIn K cd_17 "Change.settled" = true)
    (k_17 : W.keepIn K (.ref f_17) = true)
    (l_18 : K.lookup f_18 = some ⟨oc_18, od_18, .func (W.fnOf "receive" "Change.receive" (defArgs s_Change_receive) (defBody s_Change_receive) (defScope s_Change_receive) .none kV_18 dc_18 pm_18 an_18 cd_18 ct_18), sl_18⟩)
    (c_18 : W.codeIn K cd_18 "Change.receive" = true)
    (k_18 : W.keepIn K (.ref f_18) = true)
    (l_19 : K.lookup f_19 = some ⟨oc_19, od_19, .func (W.fnOf "has_enough" "Change.has_enough" (defArgs s_Change_has_enough) (defBody s_Change_has_enough) (defScope s_Change_has_enough) .none kV_19 dc_19 pm_19 an_19 cd_19 ct_19), sl_19⟩)
    (c_19 : W.codeIn K cd_19 "Change.has_enough" = true)
    (k_19 : W.keepIn K (.ref f_19) = true)
    (l_20 : K.lookup f_20 = some ⟨oc_20, od_20, .func (W.fnOf "made_by" "Change.made_by" (defArgs s_Change_made_by) (defBody s_Change_made_by) (defScope s_Change_made_by) .none kV_20 dc_20 pm_20 an_20 cd_20 ct_20), sl_20⟩)
    (c_20 : W.codeIn K cd_20 "Change.made_by" = true)
    (k_20 : W.keepIn K (.ref f_20) = true)
    (l_21 : K.lookup f_21 = some ⟨oc_21, od_21, .func (W.fnOf "propose" "Change.propose" (defArgs s_Change_propose) (defBody s_Change_propose) (defScope s_Change_propose) .none kV_21 dc_21 pm_21 an_21 cd_21 ct_21), sl_21⟩)
    (c_21 : W.codeIn K cd_21 "Change.propose" = true)
    (k_21 : W.keepIn K (.ref f_21) = true)
    (l_22 : K.lookup f_22 = some ⟨oc_22, od_22, .func (W.fnOf "_law_propose" "_law_propose" (defArgs s__law_propose) (defBody s__law_propose) (defScope s__law_propose) .none kV_22 dc_22 pm_22 an_22 (.ref c_mk) ct_22), sl_22⟩)
    (c_22 : W.codeIn K (.ref c_mk) "_law_propose" = true)
    (hcd : W.codeHdIn K c_mk P_mk = true)
    (k_22 : W.keepIn K (.ref f_22) = true)
    (l_23 : K.lookup f_23 = some ⟨oc_23, od_23, .func (W.fnOf "_law_noted" "_law_noted" (defArgs s__law_noted) (defBody s__law_noted) (defScope s__law_noted) .none kV_23 dc_23 pm_23 an_23 cd_23 ct_23), sl_23⟩)
    (c_23 : W.codeIn K cd_23 "_law_noted" = true)
    (k_23 : W.keepIn K (.ref f_23) = true)
    (l_24 : K.lookup f_24 = some ⟨oc_24, od_24, .func (W.fnOf "_law_kept" "_law_kept" (defArgs s__law_kept) (defBody s__law_kept) (defScope s__law_kept) .none kV_24 dc_24 pm_24 an_24 cd_24 ct_24), sl_24⟩)
    (c_24 : W.codeIn K cd_24 "_law_kept" = true)
    (k_24 : W.keepIn K (.ref f_24) = true)
    (l_25 : K.lookup f_25 = some ⟨oc_25, od_25, .func (W.fnOf "_law_deed" "_law_deed" (defArgs s__law_deed) (defBody s__law_deed) (defScope s__law_deed) .none kV_25 dc_25 pm_25 an_25 cd_25 ct_25), sl_25⟩)
    (c_25 : W.codeIn K cd_25 "_law_deed" = true)
    (k_25 : W.keepIn K (.ref f_25) = true)
    (l_26 : K.lookup f_26 = some ⟨oc_26, od_26, .func (W.fnOf "_law_right" "_law_right" (defArgs s__law_right) (defBody s__law_right) (defScope s__law_right) .none kV_26 dc_26 pm_26 an_26 cd_26 ct_26), sl_26⟩)
    (c_26 : W.codeIn K cd_26 "_law_right" = true)
    (k_26 : W.keepIn K (.ref f_26) = true)
    (l_27 : K.lookup f_27 = some ⟨oc_27, od_27, .func (W.fnOf "_law_agreed" "_law_agreed" (defArgs s__law_agreed) (defBody s__law_agreed) (defScope s__law_agreed) .none kV_27 dc_27 pm_27 an_27 cd_27 ct_27), sl_27⟩)
    (c_27 : W.codeIn K cd_27 "_law_agreed" = true)
    (k_27 : W.keepIn K (.ref f_27) = true)
    (l_28 : K.lookup f_28 = some ⟨oc_28, od_28, .func (W.fnOf "_law_cell_at" "_law_cell_at" (defArgs s__law_cell_at) (defBody s__law_cell_at) (defScope s__law_cell_at) .none kV_28 dc_28 pm_28 an_28 cd_28 ct_28), sl_28⟩)
    (c_28 : W.codeIn K cd_28 "_law_cell_at" = true)
    (k_28 : W.keepIn K (.ref f_28) = true)
    (l_29 : K.lookup f_29 = some ⟨oc_29, od_29, .func (W.fnOf "_law_stream" "_law_stream" (defArgs s__law_stream) (defBody s__law_stream) (defScope s__law_stream) .none kV_29 dc_29 pm_29 an_29 cd_29 ct_29), sl_29⟩)
    (c_29 : W.codeIn K cd_29 "_law_stream" = true)
    (k_29 : W.keepIn K (.ref f_29) = true)
    (l_30 : K.lookup f_30 = some ⟨oc_30, od_30, .func (W.fnOf "_law_hands" "_law_hands" (defArgs s__law_hands) (defBody s__law_hands) (defScope s__law_hands) .none kV_30 dc_30 pm_30 an_30 cd_30 ct_30), sl_30⟩)
    (c_30 : W.codeIn K cd_30 "_law_hands" = true)
    (k_30 : W.keepIn K (.ref f_30) = true)
    (l_31 : K.lookup f_31 = some ⟨oc_31, od_31, .func (W.fnOf "law" "law" (defArgs s_law) (defBody s_law) (defScope s_law) .none kV_31 dc_31 pm_31 an_31 cd_31 ct_31), sl_31⟩)
    (c_31 : W.codeIn K cd_31 "law" = true)
    (k_31 : W.keepIn K (.ref f_31) = true)
    (i_10 : W.isFn K (.ref f_10) = true)
    (i_11 : W.isFn K (.ref f_11) = true)
    (i_15 : W.isFn K (.ref f_15) = true)
    (i_19 : W.isFn K (.ref f_19) = true)
    (i_20 : W.isFn K (.ref f_20) = true)
    (i_12 : W.isFn K (.ref f_12) = true)
    (i_21 : W.isFn K (.ref f_21) = true)
    (i_18 : W.isFn K (.ref f_18) = true)
    (i_13 : W.isFn K (.ref f_13) = true)
    (i_16 : W.isFn K (.ref f_16) = true)
    (i_14 : W.isFn K (.ref f_14) = true)
    (i_17 : W.isFn K (.ref f_17) = true)
    (pg_Change : W.plainGet K C_Change Str.empty = true)
    (hd_Change : W.hasDictIn K C_Change = true)
    (po_Change : W.plainOver K C_Change = true)
    (sa_Change : W.findIn K (.ref C_Change) "__setattr__" = some (some (.builtin "object.__setattr__")))
    (n_Change_me : W.findIn K (.ref C_Change) "me" = some none)
    (n_Change_hands : W.findIn K (.ref C_Change) "hands" = some none)
    (n_Change_ballot : W.findIn K (.ref C_Change) "ballot" = some none)
    (n_Change_yes : W.findIn K (.ref C_Change) "yes" = some none)
    (n_Change_votes : W.findIn K (.ref C_Change) "votes" = some none)
    (n_Change_reports : W.findIn K (.ref C_Change) "reports" = some none)
    (n_Change_agreed : W.findIn K (.ref C_Change) "agreed" = some none)
    (mk_Change : W.makesIn K C_Change = true)
    (kc_Change : W.keepIn K (.ref C_Change) = true)
    : ∃ fd : FuncData, (∀ (s : Shared) (v : Value), BindsTo s fd ⟨[v], []⟩ [("_law_script", v)]) ∧ ∀ base : Heap, K.In base → base.Ns mainGlobals mg → BltM base mg → FnOk l.prog w K mg base CX0 10 fa fd ["_law_script"] (sp_law K P_mk) := by
  have e := hfa.symm.trans (W.mg_of X G a_31)
  cases e
  have F_0 := fun_mk (st := s_bit_of) l_0 c_0 k_0
  have CA_0 : Cal K mg "bit_of" f_0 _ ["hand"] := ⟨W.mg_of X G a_0, k_0, F_0.binds (ps := ["hand"]) fun _ _ _ _ _ _ us hl => match us, hl with | [_], _ => rfl⟩
  have F_1 := fun_mk (st := s_has) l_1 c_1 k_1
  have CA_1 : Cal K mg "has" f_1 _ ["hands", "hand"] := ⟨W.mg_of X G a_1, k_1, F_1.binds (ps := ["hands", "hand"]) fun _ _ _ _ _ _ us hl => match us, hl with | [_, _], _ => rfl⟩
  have F_2 := fun_mk (st := s_hands_of) l_2 c_2 k_2
  have CA_2 : Cal K mg "hands_of" f_2 _ ["hands"] := ⟨W.mg_of X G a_2, k_2, F_2.binds (ps := ["hands"]) fun _ _ _ _ _ _ us hl => match us, hl with | [_], _ => rfl⟩
  have F_3 := fun_mk (st := s_own_copy) l_3 c_3 k_3
  have CA_3 : Cal K mg "own_copy" f_3 _ ["value"] := ⟨W.mg_of X G a_3, k_3, F_3.binds (ps := ["value"]) fun _ _ _ _ _ _ us hl => match us, hl with | [_], _ => rfl⟩
  have F_4 := fun_mk (st := s_is_greater) l_4 c_4 k_4
  have CA_4 : Cal K mg "is_greater" f_4 _ ["one", "other"] := ⟨W.mg_of X G a_4, k_4, F_4.binds (ps := ["one", "other"]) fun _ _ _ _ _ _ us hl => match us, hl with | [_, _], _ => rfl⟩
  have F_5 := fun_mk (st := s_ballot_of) l_5 c_5 k_5
  have CA_5 : Cal K mg "ballot_of" f_5 _ ["yes"] := ⟨W.mg_of X G a_5, k_5, F_5.binds (ps := ["yes"]) fun _ _ _ _ _ _ us hl => match us, hl with | [_], _ => rfl⟩
  have F_6 := fun_mk (st := s_greatest_yes) l_6 c_6 k_6
  have CA_6 : Cal K mg "greatest_yes" f_6 _ ["some"] := ⟨W.mg_of X G a_6, k_6, F_6.binds (ps := ["some"]) fun _ _ _ _ _ _ us hl => match us, hl with | [_], _ => rfl⟩
  have F_7 := fun_mk (st := s_many) l_7 c_7 k_7
  have CA_7 : Cal K mg "many" f_7 _ ["hands"] := ⟨W.mg_of X G a_7, k_7, F_7.binds (ps := ["hands"]) fun _ _ _ _ _ _ us hl => match us, hl with | [_], _ => rfl⟩
  have F_8 := fun_mk (st := s_more_than_half) l_8 c_8 k_8
  have CA_8 : Cal K mg "more_than_half" f_8 _ ["some", "hands"] := ⟨W.mg_of X G a_8, k_8, F_8.binds (ps := ["some", "hands"]) fun _ _ _ _ _ _ us hl => match us, hl with | [_, _], _ => rfl⟩
  have F_9 := fun_mk (st := s_set_of) l_9 c_9 k_9
  have CA_9 : Cal K mg "set_of" f_9 _ ["some"] := ⟨W.mg_of X G a_9, k_9, F_9.binds (ps := ["some"]) fun _ _ _ _ _ _ us hl => match us, hl with | [_], _ => rfl⟩
  have F_10 := fun_mk (st := s_Change___init__) l_10 c_10 k_10
  have B_10 : Binds K _ ["self", "me", "hands"] [] := F_10.binds (ps := ["self", "me", "hands"]) fun _ _ _ _ _ _ us hl => match us, hl with | [_, _, _], _ => rfl
  have F_11 := fun_mk (st := s_Change_begin) l_11 c_11 k_11
  have B_11 : Binds K _ ["self", "more", "report"] [] := F_11.binds (ps := ["self", "more", "report"]) fun _ _ _ _ _ _ us hl => match us, hl with | [_, _, _], _ => rfl
  have F_12 := fun_mk (st := s_Change_message) l_12 c_12 k_12
  have B_12 : Binds K _ ["self", "report"] [] := F_12.binds (ps := ["self", "report"]) fun _ _ _ _ _ _ us hl => match us, hl with | [_, _], _ => rfl
  have F_13 := fun_mk (st := s_Change_see_ballot) l_13 c_13 k_13
  have B_13 : Binds K _ ["self", "ballot"] [] := F_13.binds (ps := ["self", "ballot"]) fun _ _ _ _ _ _ us hl => match us, hl with | [_, _], _ => rfl
  have F_14 := fun_mk (st := s_Change_see_yes) l_14 c_14 k_14
  have B_14 : Binds K _ ["self", "yes", "votes"] [] := F_14.binds (ps := ["self", "yes", "votes"]) fun _ _ _ _ _ _ us hl => match us, hl with | [_, _, _], _ => rfl
  have F_15 := fun_mk (st := s_Change_gathers) l_15 c_15 k_15
  have B_15 : Binds K _ ["self"] [] := F_15.binds (ps := ["self"]) fun _ _ _ _ _ _ us hl => match us, hl with | [_], _ => rfl
  have F_16 := fun_mk (st := s_Change_see_votes) l_16 c_16 k_16
  have B_16 : Binds K _ ["self"] [] := F_16.binds (ps := ["self"]) fun _ _ _ _ _ _ us hl => match us, hl with | [_], _ => rfl
  have F_17 := fun_mk (st := s_Change_settled) l_17 c_17 k_17
  have B_17 : Binds K _ ["self"] [] := F_17.binds (ps := ["self"]) fun _ _ _ _ _ _ us hl => match us, hl with | [_], _ => rfl
  have F_18 := fun_mk (st := s_Change_receive) l_18 c_18 k_18
  have B_18 : Binds K _ ["self", "message"] [] := F_18.binds (ps := ["self", "message"]) fun _ _ _ _ _ _ us hl => match us, hl with | [_, _], _ => rfl
  have F_19 := fun_mk (st := s_Change_has_enough) l_19 c_19 k_19
  have B_19 : Binds K _ ["self", "doubts"] [] := F_19.binds (ps := ["self", "doubts"]) fun _ _ _ _ _ _ us hl => match us, hl with | [_, _], _ => rfl
  have F_20 := fun_mk (st := s_Change_made_by) l_20 c_20 k_20
  have B_20 : Binds K _ ["self", "make"] [] := F_20.binds (ps := ["self", "make"]) fun _ _ _ _ _ _ us hl => match us, hl with | [_, _], _ => rfl
  have F_21 := fun_mk (st := s_Change_propose) l_21 c_21 k_21
  have B_21 : Binds K _ ["self", "doubts", "make"] [] := F_21.binds (ps := ["self", "doubts", "make"]) fun _ _ _ _ _ _ us hl => match us, hl with | [_, _, _], _ => rfl
  have F_22 := fun_mk (st := s__law_propose) l_22 c_22 k_22
  have FC_22 : FunC K "_law_propose" "_law_propose" s__law_propose _ _ c_mk := ⟨⟨_, _, _, _, _, _, _, _, rfl, l_22, c_22⟩⟩
  have CA_22 : Cal K mg "_law_propose" f_22 _ ["_law_changes", "_law_hand", "_law_answered", "_law_xs"] := ⟨W.mg_of X G a_22, k_22, F_22.binds (ps := ["_law_changes", "_law_hand", "_law_answered", "_law_xs"]) fun _ _ _ _ _ _ us hl => match us, hl with | [_, _, _, _], _ => rfl⟩
  have F_23 := fun_mk (st := s__law_noted) l_23 c_23 k_23
  have CA_23 : Cal K mg "_law_noted" f_23 _ ["_law_change", "_law_hand", "_law_said", "_law_plans"] := ⟨W.mg_of X G a_23, k_23, F_23.binds (ps := ["_law_change", "_law_hand", "_law_said", "_law_plans"]) fun _ _ _ _ _ _ us hl => match us, hl with | [_, _, _, _], _ => rfl⟩
  have F_24 := fun_mk (st := s__law_kept) l_24 c_24 k_24
  have CA_24 : Cal K mg "_law_kept" f_24 _ ["_law_change", "_law_hand", "_law_settled", "_law_before"] := ⟨W.mg_of X G a_24, k_24, F_24.binds (ps := ["_law_change", "_law_hand", "_law_settled", "_law_before"]) fun _ _ _ _ _ _ us hl => match us, hl with | [_, _, _, _], _ => rfl⟩
  have F_25 := fun_mk (st := s__law_deed) l_25 c_25 k_25
  have CA_25 : Cal K mg "_law_deed" f_25 _ ["_law_changes", "_law_hand", "_law_mail", "_law_answered", "_law_xs"] := ⟨W.mg_of X G a_25, k_25, F_25.binds (ps := ["_law_changes", "_law_hand", "_law_mail", "_law_answered", "_law_xs"]) fun _ _ _ _ _ _ us hl => match us, hl with | [_, _, _, _, _], _ => rfl⟩
  have F_26 := fun_mk (st := s__law_right) l_26 c_26 k_26
  have CA_26 : Cal K mg "_law_right" f_26 _ ["_law_changes", "_law_hand", "_law_state", "_law_before"] := ⟨W.mg_of X G a_26, k_26, F_26.binds (ps := ["_law_changes", "_law_hand", "_law_state", "_law_before"]) fun _ _ _ _ _ _ us hl => match us, hl with | [_, _, _, _], _ => rfl⟩
  have F_27 := fun_mk (st := s__law_agreed) l_27 c_27 k_27
  have CA_27 : Cal K mg "_law_agreed" f_27 _ ["_law_settled", "_law_answered", "_law_plans"] := ⟨W.mg_of X G a_27, k_27, F_27.binds (ps := ["_law_settled", "_law_answered", "_law_plans"]) fun _ _ _ _ _ _ us hl => match us, hl with | [_, _, _], _ => rfl⟩
  have F_28 := fun_mk (st := s__law_cell_at) l_28 c_28 k_28
  have CA_28 : Cal K mg "_law_cell_at" f_28 _ ["_law_script", "_law_k"] := ⟨W.mg_of X G a_28, k_28, F_28.binds (ps := ["_law_script", "_law_k"]) fun _ _ _ _ _ _ us hl => match us, hl with | [_, _], _ => rfl⟩
  have F_29 := fun_mk (st := s__law_stream) l_29 c_29 k_29
  have CA_29 : Cal K mg "_law_stream" f_29 _ ["_law_cell", "_law_amount"] := ⟨W.mg_of X G a_29, k_29, F_29.binds (ps := ["_law_cell", "_law_amount"]) fun _ _ _ _ _ _ us hl => match us, hl with | [_, _], _ => rfl⟩
  have F_30 := fun_mk (st := s__law_hands) l_30 c_30 k_30
  have CA_30 : Cal K mg "_law_hands" f_30 _ ["_law_cell"] := ⟨W.mg_of X G a_30, k_30, F_30.binds (ps := ["_law_cell"]) fun _ _ _ _ _ _ us hl => match us, hl with | [_], _ => rfl⟩
  have F_31 := fun_mk (st := s_law) l_31 c_31 k_31
  have m_Change := W.mg_of X G a_Change
  have T_Change : TChange K C_Change := ⟨⟨pg_Change, hd_Change, po_Change, sa_Change⟩, n_Change_me, n_Change_hands, n_Change_ballot, n_Change_yes, n_Change_votes, n_Change_reports, n_Change_agreed⟩
  have mt_Change_begin : Meth K C_Change "begin" f_11 := ⟨at_Change_begin, i_11, k_11⟩
  have mt_Change_gathers : Meth K C_Change "gathers" f_15 := ⟨at_Change_gathers, i_15, k_15⟩
  have mt_Change_has_enough : Meth K C_Change "has_enough" f_19 := ⟨at_Change_has_enough, i_19, k_19⟩
  have mt_Change_made_by : Meth K C_Change "made_by" f_20 := ⟨at_Change_made_by, i_20, k_20⟩
  have mt_Change_message : Meth K C_Change "message" f_12 := ⟨at_Change_message, i_12, k_12⟩
  have mt_Change_propose : Meth K C_Change "propose" f_21 := ⟨at_Change_propose, i_21, k_21⟩
  have mt_Change_receive : Meth K C_Change "receive" f_18 := ⟨at_Change_receive, i_18, k_18⟩
  have mt_Change_see_ballot : Meth K C_Change "see_ballot" f_13 := ⟨at_Change_see_ballot, i_13, k_13⟩
  have mt_Change_see_votes : Meth K C_Change "see_votes" f_16 := ⟨at_Change_see_votes, i_16, k_16⟩
  have mt_Change_see_yes : Meth K C_Change "see_yes" f_14 := ⟨at_Change_see_yes, i_14, k_14⟩
  have mt_Change_settled : Meth K C_Change "settled" f_17 := ⟨at_Change_settled, i_17, k_17⟩
  have M_Change : Mk K C_Change f_10 := ⟨mk_Change, at_Change___init__, i_10, kc_Change⟩
  have Z_dict : mg "dict" = none := W.mg_none_of X G z_dict
  have Z_isinstance : mg "isinstance" = none := W.mg_none_of X G z_isinstance
  have Z_len : mg "len" = none := W.mg_none_of X G z_len
  have Z_list : mg "list" = none := W.mg_none_of X G z_list
  have Z_range : mg "range" = none := W.mg_none_of X G z_range
  have Z_sorted : mg "sorted" = none := W.mg_none_of X G z_sorted
  have Z_sum : mg "sum" = none := W.mg_none_of X G z_sum
  have Z_tuple : mg "tuple" = none := W.mg_none_of X G z_tuple
  refine ⟨W.fnOf "law" "law" (defArgs s_law) (defBody s_law) (defScope s_law) .none kV_31 dc_31 pm_31 an_31 cd_31 ct_31, fun s v => .of_eq rfl, fun base kb _ hB => ?_⟩
  have hC := W.codeHd_of_K kb hcd
  have G_step := step_ok (P := l.prog) (w := w) (K := K) (mg := mg) (base := base) Z_len
  have G_0 : FnOk l.prog w K mg base CX0 1 f_0 _ ["hand"] (sp_bit_of K) := ok_bit_of F_0
  have G_1 : FnOk l.prog w K mg base CX0 2 f_1 _ ["hands", "hand"] (sp_has K) := ok_has F_1 (G_0.mono (by decide)) CA_0
  have G_2 : FnOk l.prog w K mg base CX0 3 f_2 _ ["hands"] (sp_hands_of K) := ok_hands_of F_2 (G_1.mono (by decide)) CA_1 Z_range
  have G_3 : FnOk l.prog w K mg base CX0 4 f_3 _ ["value"] (sp_own_copy K) := ok_own_copy F_3 CA_3 Z_dict Z_isinstance Z_list Z_tuple
  have G_4 : FnOk l.prog w K mg base CX0 1 f_4 _ ["one", "other"] (sp_is_greater K) := ok_is_greater F_4
  have G_5 : FnOk l.prog w K mg base CX0 1 f_5 _ ["yes"] (sp_ballot_of K) := ok_ballot_of F_5
  have G_6 : FnOk l.prog w K mg base CX0 2 f_6 _ ["some"] (sp_greatest_yes K) := ok_greatest_yes F_6 (G_4.mono (by decide)) CA_4 (G_5.mono (by decide)) CA_5
  have G_7 : FnOk l.prog w K mg base CX0 4 f_7 _ ["hands"] (sp_many K) := ok_many F_7 (G_2.mono (by decide)) CA_2 Z_len
  have G_8 : FnOk l.prog w K mg base CX0 5 f_8 _ ["some", "hands"] (sp_more_than_half K) := ok_more_than_half F_8 (G_7.mono (by decide)) CA_7
  have G_9 : FnOk l.prog w K mg base CX0 2 f_9 _ ["some"] (sp_set_of K) := ok_set_of F_9 (G_0.mono (by decide)) CA_0
  have G_10 : FnOk l.prog w K mg base CX0 1 f_10 _ ["self", "me", "hands"] (sp_Change___init__ K) := ok_Change___init__ F_10
  have G_11 : FnOk l.prog w K mg base CX0 5 f_11 _ ["self", "more", "report"] (sp_Change_begin K mg) := ok_Change_begin F_11 (G_3.mono (by decide)) CA_3 T_Change m_Change
  have G_12 : FnOk l.prog w K mg base CX0 5 f_12 _ ["self", "report"] (sp_Change_message K mg) := ok_Change_message F_12 (G_3.mono (by decide)) CA_3 T_Change m_Change
  have G_13 : FnOk l.prog w K mg base CX0 2 f_13 _ ["self", "ballot"] (sp_Change_see_ballot K mg) := ok_Change_see_ballot F_13 (G_4.mono (by decide)) CA_4 T_Change m_Change
  have G_14 : FnOk l.prog w K mg base CX0 2 f_14 _ ["self", "yes", "votes"] (sp_Change_see_yes K mg) := ok_Change_see_yes F_14 (G_0.mono (by decide)) CA_0 (G_4.mono (by decide)) CA_4 (G_5.mono (by decide)) CA_5 T_Change m_Change
  have G_15 : FnOk l.prog w K mg base CX0 2 f_15 _ ["self"] (sp_Change_gathers K mg) := ok_Change_gathers F_15 (G_5.mono (by decide)) CA_5 T_Change m_Change
  have G_16 : FnOk l.prog w K mg base CX0 6 f_16 _ ["self"] (sp_Change_see_votes K mg) := ok_Change_see_votes F_16 (G_8.mono (by decide)) CA_8 T_Change m_Change
  have G_17 : FnOk l.prog w K mg base CX0 5 f_17 _ ["self"] (sp_Change_settled K mg) := ok_Change_settled F_17 (G_3.mono (by decide)) CA_3 T_Change m_Change
  have G_18 : FnOk l.prog w K mg base CX0 7 f_18 _ ["self", "message"] (sp_Change_receive K mg) := ok_Change_receive F_18 (G_3.mono (by decide)) CA_3 (G_13.mono (by decide)) B_13 (G_14.mono (by decide)) B_14 (G_15.mono (by decide)) B_15 (G_16.mono (by decide)) B_16 T_Change m_Change mt_Change_gathers mt_Change_see_ballot mt_Change_see_votes mt_Change_see_yes
  have G_19 : FnOk l.prog w K mg base CX0 6 f_19 _ ["self", "doubts"] (sp_Change_has_enough K mg) := ok_Change_has_enough F_19 (G_8.mono (by decide)) CA_8 (G_9.mono (by decide)) CA_9 Z_list T_Change m_Change
  have G_20 : FnOk l.prog w K mg base CX0 5 f_20 _ ["self", "make"] (sp_Change_made_by K mg) := ok_Change_made_by F_20 G_step (G_3.mono (by decide)) CA_3 Z_sorted T_Change m_Change
  have G_21 : FnOk l.prog w K mg base CX0 7 f_21 _ ["self", "doubts", "make"] (sp_Change_propose K mg) := ok_Change_propose F_21 (G_0.mono (by decide)) CA_0 (G_6.mono (by decide)) CA_6 (G_15.mono (by decide)) B_15 (G_16.mono (by decide)) B_16 (G_19.mono (by decide)) B_19 (G_20.mono (by decide)) B_20 T_Change m_Change mt_Change_gathers mt_Change_has_enough mt_Change_made_by mt_Change_see_votes
  have G_22 : FnOk l.prog w K mg base CX0 8 f_22 _ ["_law_changes", "_law_hand", "_law_answered", "_law_xs"] (sp__law_propose K mg P_mk) := ok__law_propose FC_22 hC hB (G_21.mono (by decide)) B_21 Z_len Z_range Z_sorted Z_sum T_Change m_Change mt_Change_propose
  have G_23 : FnOk l.prog w K mg base CX0 6 f_23 _ ["_law_change", "_law_hand", "_law_said", "_law_plans"] (sp__law_noted K mg) := ok__law_noted F_23 (G_17.mono (by decide)) B_17 Z_range T_Change m_Change mt_Change_settled
  have G_24 : FnOk l.prog w K mg base CX0 6 f_24 _ ["_law_change", "_law_hand", "_law_settled", "_law_before"] (sp__law_kept K mg) := ok__law_kept F_24 (G_17.mono (by decide)) B_17 T_Change m_Change mt_Change_settled
  have G_25 : FnOk l.prog w K mg base CX0 9 f_25 _ ["_law_changes", "_law_hand", "_law_mail", "_law_answered", "_law_xs"] (sp__law_deed K mg P_mk) := ok__law_deed F_25 (G_11.mono (by decide)) B_11 (G_12.mono (by decide)) B_12 (G_18.mono (by decide)) B_18 (G_22.mono (by decide)) CA_22 Z_len T_Change m_Change mt_Change_begin mt_Change_message mt_Change_receive
  have G_26 : FnOk l.prog w K mg base CX0 7 f_26 _ ["_law_changes", "_law_hand", "_law_state", "_law_before"] (sp__law_right K mg) := ok__law_right F_26 (G_23.mono (by decide)) CA_23 (G_24.mono (by decide)) CA_24
  have G_27 : FnOk l.prog w K mg base CX0 1 f_27 _ ["_law_settled", "_law_answered", "_law_plans"] (sp__law_agreed K) := ok__law_agreed F_27
  have G_28 : FnOk l.prog w K mg base CX0 1 f_28 _ ["_law_script", "_law_k"] (sp__law_cell_at K) := ok__law_cell_at F_28 Z_len
  have G_29 : FnOk l.prog w K mg base CX0 1 f_29 _ ["_law_cell", "_law_amount"] (sp__law_stream K) := ok__law_stream F_29 Z_range
  have G_30 : FnOk l.prog w K mg base CX0 2 f_30 _ ["_law_cell"] (sp__law_hands K) := ok__law_hands F_30 (G_29.mono (by decide)) CA_29 Z_list Z_range Z_sorted
  exact ok_law F_31 (G_10.mono (by decide)) B_10 (G_12.mono (by decide)) B_12 (G_25.mono (by decide)) CA_25 (G_26.mono (by decide)) CA_26 (G_27.mono (by decide)) CA_27 (G_28.mono (by decide)) CA_28 (G_29.mono (by decide)) CA_29 (G_30.mono (by decide)) CA_30 Z_len Z_sum T_Change m_Change M_Change mt_Change_message
theorem walk {l : PySem.W.OpenLaw} {q : Program} {loose : List Str} {XP : (Str → Option Value) → Heap → Prop} {YP : World → Heap → Prop} {d : DefRec} {K : Params → PySem.W.Frag} {c P : Addr} (hn : l.most = some 63) (hdf : d.params.defaults = [])
    (hY : ∀ (w : World) (h : Heap), YP w h → (K w.params).In h ∧ ∀ t ∈ [P], h.get? t = some (PySem.W.tabObj #[])) (hK : ∀ w : World, PySem.W.codeHdIn (K w.params) c P = true ∧ (K w.params).lookup P = none)
    (F : ∀ (w : World) (mg : Str → Option Value) (fa : Addr) (h : Heap), (K w.params).In h → h.Ns mainGlobals mg → mg d.name = some (.ref fa) →
      ∃ fd : FuncData, (∀ (s : Shared) (u : Value), BindsTo s fd ⟨[u], []⟩ [("_law_script", u)]) ∧ ∀ base : Heap, (K w.params).In base → base.Ns mainGlobals mg → BltM base mg → FnOk l.prog w (K w.params) mg base CX0 10 fa fd ["_law_script"] (sp_law (K w.params) P)) :
    PySem.W.WalkO q loose XP YP l.row.toRowW d [] (fun f vs => PySem.call f vs) :=
  L2.walk_ofT (n := 63) (k := 10) (x := "_law_script") (tabs := [(c, P)]) (sp := fun w => sp_law (K w.params) P) hn (by decide) hdf ⟨rfl, by decide, by decide⟩ hY (fun w q hq => by rw [List.mem_singleton.mp hq]; exact hK w) F (fun _ _ a ns hl hO hS => ⟨a, ns, rfl, hS, hl, hO.2 P (by simp), fun _ => rfl⟩) fun _ _ _ _ z => z
end K64
open PySem PySem.W PyProof.Rows
set_option maxRecDepth 100000 in
set_option maxHeartbeats 0 in
theorem PySem.Challenge.cw_groupcall_k64_whole_one_plan_holds : PySem.Challenge.rw_groupcall_k64_whole_one_plan.Holds := by
  w_on; o_law; k_head; (case hw => w_witness2)
  k_fill
  refine K64.walk (l := PySem.Challenge.rw_groupcall_k64_whole_one_plan) (c := 199) (P := 197) rfl rfl (fun w h Y => ⟨PySem.W.km_in_of Y, PySem.W.km_tabs_of Y⟩) ?H ?F
  case H =>
    intro w
    refine ⟨?_, ?_⟩
    · first | k_is | kernel_rfl | rfl
    · first | k_is | kernel_rfl | rfl
  case F =>
    intro w mg fa h KX G hmg
    refine' K64.all_mk (P_mk := 197) KX G hmg ?a_0 ?a_1 ?a_2 ?a_3 ?a_4 ?a_5 ?a_6 ?a_7 ?a_8 ?a_9 ?a_22 ?a_23 ?a_24 ?a_25 ?a_26 ?a_27 ?a_28 ?a_29 ?a_30 ?a_31 ?a_Change ?z_dict ?z_isinstance ?z_len ?z_list ?z_range ?z_sorted ?z_sum ?z_tuple ?at_Change___init__ ?at_Change_begin ?at_Change_gathers ?at_Change_has_enough ?at_Change_made_by ?at_Change_message ?at_Change_propose ?at_Change_receive ?at_Change_see_ballot ?at_Change_see_votes ?at_Change_see_yes ?at_Change_settled ?l_0 ?c_0 ?k_0 ?l_1 ?c_1 ?k_1 ?l_2 ?c_2 ?k_2 ?l_3 ?c_3 ?k_3 ?l_4 ?c_4 ?k_4 ?l_5 ?c_5 ?k_5 ?l_6 ?c_6 ?k_6 ?l_7 ?c_7 ?k_7 ?l_8 ?c_8 ?k_8 ?l_9 ?c_9 ?k_9 ?l_10 ?c_10 ?k_10 ?l_11 ?c_11 ?k_11 ?l_12 ?c_12 ?k_12 ?l_13 ?c_13 ?k_13 ?l_14 ?c_14 ?k_14 ?l_15 ?c_15 ?k_15 ?l_16 ?c_16 ?k_16 ?l_17 ?c_17 ?k_17 ?l_18 ?c_18 ?k_18 ?l_19 ?c_19 ?k_19 ?l_20 ?c_20 ?k_20 ?l_21 ?c_21 ?k_21 ?l_22 ?c_22 ?hcd ?k_22 ?l_23 ?c_23 ?k_23 ?l_24 ?c_24 ?k_24 ?l_25 ?c_25 ?k_25 ?l_26 ?c_26 ?k_26 ?l_27 ?c_27 ?k_27 ?l_28 ?c_28 ?k_28 ?l_29 ?c_29 ?k_29 ?l_30 ?c_30 ?k_30 ?l_31 ?c_31 ?k_31 ?i_10 ?i_11 ?i_15 ?i_19 ?i_20 ?i_12 ?i_21 ?i_18 ?i_13 ?i_16 ?i_14 ?i_17 ?pg_Change ?hd_Change ?po_Change ?sa_Change ?n_Change_me ?n_Change_hands ?n_Change_ballot ?n_Change_yes ?n_Change_votes ?n_Change_reports ?n_Change_agreed ?mk_Change ?kc_Change
    (case a_0 => first | k_is | rfl | decide)
    (case a_1 => first | k_is | rfl | decide)
    (case a_2 => first | k_is | rfl | decide)
    (case a_3 => first | k_is | rfl | decide)
    (case a_4 => first | k_is | rfl | decide)
    (case a_5 => first | k_is | rfl | decide)
    (case a_6 => first | k_is | rfl | decide)
    (case a_7 => first | k_is | rfl | decide)
    (case a_8 => first | k_is | rfl | decide)
    (case a_9 => first | k_is | rfl | decide)
    (case a_22 => first | k_is | rfl | decide)
    (case a_23 => first | k_is | rfl | decide)
    (case a_24 => first | k_is | rfl | decide)
    (case a_25 => first | k_is | rfl | decide)
    (case a_26 => first | k_is | rfl | decide)
    (case a_27 => first | k_is | rfl | decide)
    (case a_28 => first | k_is | rfl | decide)
    (case a_29 => first | k_is | rfl | decide)
    (case a_30 => first | k_is | rfl | decide)
    (case a_31 => first | k_is | rfl | decide)
    (case a_Change => first | k_is | rfl | decide)
    (case z_dict => first | k_is | rfl | decide)
    (case z_isinstance => first | k_is | rfl | decide)
    (case z_len => first | k_is | rfl | decide)
    (case z_list => first | k_is | rfl | decide)
    (case z_range => first | k_is | rfl | decide)
    (case z_sorted => first | k_is | rfl | decide)
    (case z_sum => first | k_is | rfl | decide)
    (case z_tuple => first | k_is | rfl | decide)
    (case at_Change___init__ => first | k_is | rfl | decide)
    (case at_Change_begin => first | k_is | rfl | decide)
    (case at_Change_gathers => first | k_is | rfl | decide)
    (case at_Change_has_enough => first | k_is | rfl | decide)
    (case at_Change_made_by => first | k_is | rfl | decide)
    (case at_Change_message => first | k_is | rfl | decide)
    (case at_Change_propose => first | k_is | rfl | decide)
    (case at_Change_receive => first | k_is | rfl | decide)
    (case at_Change_see_ballot => first | k_is | rfl | decide)
    (case at_Change_see_votes => first | k_is | rfl | decide)
    (case at_Change_see_yes => first | k_is | rfl | decide)
    (case at_Change_settled => first | k_is | rfl | decide)
    (case l_0 => first | k_is | rfl | decide)
    (case c_0 => first | k_is | rfl | decide)
    (case k_0 => first | k_is | rfl | decide)
    (case l_1 => first | k_is | rfl | decide)
    (case c_1 => first | k_is | rfl | decide)
    (case k_1 => first | k_is | rfl | decide)
    (case l_2 => first | k_is | rfl | decide)
    (case c_2 => first | k_is | rfl | decide)
    (case k_2 => first | k_is | rfl | decide)
    (case l_3 => first | k_is | rfl | decide)
    (case c_3 => first | k_is | rfl | decide)
    (case k_3 => first | k_is | rfl | decide)
    (case l_4 => first | k_is | rfl | decide)
    (case c_4 => first | k_is | rfl | decide)
    (case k_4 => first | k_is | rfl | decide)
    (case l_5 => first | k_is | rfl | decide)
    (case c_5 => first | k_is | rfl | decide)
    (case k_5 => first | k_is | rfl | decide)
    (case l_6 => first | k_is | rfl | decide)
    (case c_6 => first | k_is | rfl | decide)
    (case k_6 => first | k_is | rfl | decide)
    (case l_7 => first | k_is | rfl | decide)
    (case c_7 => first | k_is | rfl | decide)
    (case k_7 => first | k_is | rfl | decide)
    (case l_8 => first | k_is | rfl | decide)
    (case c_8 => first | k_is | rfl | decide)
    (case k_8 => first | k_is | rfl | decide)
    (case l_9 => first | k_is | rfl | decide)
    (case c_9 => first | k_is | rfl | decide)
    (case k_9 => first | k_is | rfl | decide)
    (case l_10 => first | k_is | rfl | decide)
    (case c_10 => first | k_is | rfl | decide)
    (case k_10 => first | k_is | rfl | decide)
    (case l_11 => first | k_is | rfl | decide)
    (case c_11 => first | k_is | rfl | decide)
    (case k_11 => first | k_is | rfl | decide)
    (case l_12 => first | k_is | rfl | decide)
    (case c_12 => first | k_is | rfl | decide)
    (case k_12 => first | k_is | rfl | decide)
    (case l_13 => first | k_is | rfl | decide)
    (case c_13 => first | k_is | rfl | decide)
    (case k_13 => first | k_is | rfl | decide)
    (case l_14 => first | k_is | rfl | decide)
    (case c_14 => first | k_is | rfl | decide)
    (case k_14 => first | k_is | rfl | decide)
    (case l_15 => first | k_is | rfl | decide)
    (case c_15 => first | k_is | rfl | decide)
    (case k_15 => first | k_is | rfl | decide)
    (case l_16 => first | k_is | rfl | decide)
    (case c_16 => first | k_is | rfl | decide)
    (case k_16 => first | k_is | rfl | decide)
    (case l_17 => first | k_is | rfl | decide)
    (case c_17 => first | k_is | rfl | decide)
    (case k_17 => first | k_is | rfl | decide)
    (case l_18 => first | k_is | rfl | decide)
    (case c_18 => first | k_is | rfl | decide)
    (case k_18 => first | k_is | rfl | decide)
    (case l_19 => first | k_is | rfl | decide)
    (case c_19 => first | k_is | rfl | decide)
    (case k_19 => first | k_is | rfl | decide)
    (case l_20 => first | k_is | rfl | decide)
    (case c_20 => first | k_is | rfl | decide)
    (case k_20 => first | k_is | rfl | decide)
    (case l_21 => first | k_is | rfl | decide)
    (case c_21 => first | k_is | rfl | decide)
    (case k_21 => first | k_is | rfl | decide)
    (case l_22 => first | k_is | rfl | decide)
    (case c_22 => first | k_is | rfl | decide)
    (case hcd => first | k_is | kernel_rfl | rfl | decide)
    (case k_22 => first | k_is | rfl | decide)
    (case l_23 => first | k_is | rfl | decide)
    (case c_23 => first | k_is | rfl | decide)
    (case k_23 => first | k_is | rfl | decide)
    (case l_24 => first | k_is | rfl | decide)
    (case c_24 => first | k_is | rfl | decide)
    (case k_24 => first | k_is | rfl | decide)
    (case l_25 => first | k_is | rfl | decide)
    (case c_25 => first | k_is | rfl | decide)
    (case k_25 => first | k_is | rfl | decide)
    (case l_26 => first | k_is | rfl | decide)
    (case c_26 => first | k_is | rfl | decide)
    (case k_26 => first | k_is | rfl | decide)
    (case l_27 => first | k_is | rfl | decide)
    (case c_27 => first | k_is | rfl | decide)
    (case k_27 => first | k_is | rfl | decide)
    (case l_28 => first | k_is | rfl | decide)
    (case c_28 => first | k_is | rfl | decide)
    (case k_28 => first | k_is | rfl | decide)
    (case l_29 => first | k_is | rfl | decide)
    (case c_29 => first | k_is | rfl | decide)
    (case k_29 => first | k_is | rfl | decide)
    (case l_30 => first | k_is | rfl | decide)
    (case c_30 => first | k_is | rfl | decide)
    (case k_30 => first | k_is | rfl | decide)
    (case l_31 => first | k_is | rfl | decide)
    (case c_31 => first | k_is | rfl | decide)
    (case k_31 => first | k_is | rfl | decide)
    (case i_10 => first | k_is | rfl | decide)
    (case i_11 => first | k_is | rfl | decide)
    (case i_15 => first | k_is | rfl | decide)
    (case i_19 => first | k_is | rfl | decide)
    (case i_20 => first | k_is | rfl | decide)
    (case i_12 => first | k_is | rfl | decide)
    (case i_21 => first | k_is | rfl | decide)
    (case i_18 => first | k_is | rfl | decide)
    (case i_13 => first | k_is | rfl | decide)
    (case i_16 => first | k_is | rfl | decide)
    (case i_14 => first | k_is | rfl | decide)
    (case i_17 => first | k_is | rfl | decide)
    (case pg_Change => first | k_is | rfl | decide)
    (case hd_Change => first | k_is | rfl | decide)
    (case po_Change => first | k_is | rfl | decide)
    (case sa_Change => first | k_is | rfl | decide)
    (case n_Change_me => first | k_is | rfl | decide)
    (case n_Change_hands => first | k_is | rfl | decide)
    (case n_Change_ballot => first | k_is | rfl | decide)
    (case n_Change_yes => first | k_is | rfl | decide)
    (case n_Change_votes => first | k_is | rfl | decide)
    (case n_Change_reports => first | k_is | rfl | decide)
    (case n_Change_agreed => first | k_is | rfl | decide)
    (case mk_Change => first | k_is | rfl | decide)
    (case kc_Change => first | k_is | rfl | decide)

