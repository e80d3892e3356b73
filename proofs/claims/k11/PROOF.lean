import PyProof.Rows.All
import Wide.All
import OpenK.AllK
import Wide.FinOn
import Lean
import PyProof.EqAt
import PyProof.EqKinds
import PyProof.TupleCall
import PyProof.AttrMissHeap
import KE.KSortTup
import KE.KDictList
import KE.KNest
import KE.KNestM
import OpenK.KRaise
import KE.KIsAll
import KE.KMatchCls
import PyProof.ExcAttrAll.ValueError
import PyProof.Rows.Range3
import PySem.Challenge.RW_groupcall_k11_calls_made
set_option Elab.async false
set_option linter.all false
set_option maxRecDepth 100000

namespace L2
open PySem PySem.Spec PyProof.Rows


abbrev Key := Sum Int Str
def keyIs : Key → Value → Bool
  | .inl k, v => Value.isInt k v
  | .inr x, v => Value.isStrOf x v
def keyH (w : World) : Key → Int
  | .inl k => hashInt k
  | .inr x => hashStr w x
theorem keyIs_shape : ∀ {k : Key} {v : Value}, keyIs k v = true → (∃ i t, k = Sum.inl i ∧ v = Value.int i t) ∨ (∃ x t, k = Sum.inr x ∧ v = Value.str x t)
  | .inl i, v, h => by
    obtain ⟨t, e⟩ := Value.isInt_shape (k := i) (v := v) h
    exact .inl ⟨i, t, rfl, e⟩
  | .inr x, v, h => by
    obtain ⟨t, e⟩ := Value.isStrOf_shape (x := x) (v := v) h
    exact .inr ⟨x, t, rfl, e⟩
theorem key_ll (a b : Int) : decide ((Sum.inl a : Key) = Sum.inl b) = (a == b) := by
  by_cases e : a = b
  · subst e; simp
  · have h : ¬ (Sum.inl a : Key) = Sum.inl b := fun q => e (Sum.inl.inj q)
    rw [decide_eq_false h]
    exact (beq_eq_false_iff_ne.mpr e).symm
theorem key_rr (a b : Str) : decide ((Sum.inr a : Key) = Sum.inr b) = decide (a = b) := by
  by_cases e : a = b
  · subst e; simp
  · have h : ¬ (Sum.inr a : Key) = Sum.inr b := fun q => e (Sum.inr.inj q)
    rw [decide_eq_false h, decide_eq_false e]
theorem key_lr (a : Int) (b : Str) : decide ((Sum.inl a : Key) = Sum.inr b) = false := decide_eq_false (fun q => nomatch q)
theorem key_rl (a : Str) (b : Int) : decide ((Sum.inr a : Key) = Sum.inl b) = false := decide_eq_false (fun q => nomatch q)

def mixKind (prog : Program) (w : World) : PySem.KeyKind prog w Key where
  is := keyIs
  hash := keyH w
  inj := fun v a b ha hb => by
    rcases keyIs_shape ha with ⟨i, t, rfl, rfl⟩ | ⟨x, t, rfl, rfl⟩
    · rcases keyIs_shape hb with ⟨j, u, rfl, e⟩ | ⟨y, u, rfl, e⟩
      · injection e with e1 _; rw [e1]
      · exact nomatch e
    · rcases keyIs_shape hb with ⟨j, u, rfl, e⟩ | ⟨y, u, rfl, e⟩
      · exact nomatch e
      · injection e with e1 _; rw [e1]
  byValue := fun k v h => by
    rcases keyIs_shape h with ⟨i, t, rfl, rfl⟩ | ⟨x, t, rfl, rfl⟩ <;> rfl
  pyHash := fun hv h => by
    rcases keyIs_shape hv with ⟨i, t, rfl, rfl⟩ | ⟨x, t, rfl, rfl⟩
    · exact wpAny_pyHash_int h
    · exact wpAny_pyHash_str h
  eqBool := fun hu hv h => by
    rcases keyIs_shape hu with ⟨i, t, rfl, rfl⟩ | ⟨x, t, rfl, rfl⟩
    · rcases keyIs_shape hv with ⟨j, u, rfl, rfl⟩ | ⟨y, u, rfl, rfl⟩
      · rw [key_ll] at h; exact wpAny_eqBool_int h
      · rw [key_lr] at h; exact SeqAt.EqAt.int_str i t y u _ _ _ _ h
    · rcases keyIs_shape hv with ⟨j, u, rfl, rfl⟩ | ⟨y, u, rfl, rfl⟩
      · rw [key_rl] at h; exact SeqAt.EqAt.str_int x t j u _ _ _ _ h
      · rw [key_rr] at h; exact wpAny_eqBool_str h
  «strs» := fun k x t v h => by
    rcases keyIs_shape h with ⟨i, u, rfl, e⟩ | ⟨y, u, rfl, e⟩
    · exact nomatch e
    · injection e with e1 _
      subst e1
      cases v <;> rfl

end L2

namespace L2
open PySem PySem.Spec PyProof.Rows


inductive V where
  | non | bl (b : Bool) | int (i : Int) | str (x : Str) | byt (b : Array UInt8) | flt (b : UInt64) | ref (a : Addr) | ty (n : String)
  deriving DecidableEq

def RelV : V → Value → Prop
  | .non, u => u = Value.none
  | .bl b, u => u = Value.bool b
  | .int i, u => ∃ t, u = Value.int i t
  | .str x, u => ∃ t, u = Value.str x t
  | .byt b, u => ∃ t, u = Value.bytes b t
  | .flt b, u => ∃ t, u = Value.float b t
  | .ref a, u => u = Value.ref a
  | .ty n, u => u = Value.type n

abbrev Vals : List V → List Value → Prop := Paired RelV
theorem Vals.length {xs : List V} {us : List Value} (r : Vals xs us) : xs.length = us.length := Paired.length r
theorem Vals.get : ∀ {xs : List V} {us : List Value} {i : Nat} {x : V}, Vals xs us → xs[i]? = some x → ∃ u, us[i]? = some u ∧ RelV x u
  | _, _, _, _, .nil, e => by simp at e
  | _, _, 0, _, .cons r _, e => by simp at e; subst e; exact ⟨_, rfl, r⟩
  | _, _, i + 1, x, .cons _ t, e => by
    obtain ⟨u, h1, h2⟩ := Vals.get (i := i) (x := x) t (by simpa using e)
    exact ⟨u, by simpa using h1, h2⟩
theorem Vals.append : ∀ {xs ys : List V} {us ws : List Value}, Vals xs us → Vals ys ws → Vals (xs ++ ys) (us ++ ws)
  | _, _, _, _, .nil, s => s
  | _, _, _, _, .cons r t, s => .cons r (Vals.append t s)
theorem Vals.take : ∀ {xs : List V} {us : List Value} (n : Nat), Vals xs us → Vals (xs.take n) (us.take n)
  | _, _, 0, _ => .nil
  | _, _, _ + 1, .nil => .nil
  | _, _, n + 1, .cons r t => .cons r (Vals.take n t)
theorem Vals.drop : ∀ {xs : List V} {us : List Value} (n : Nat), Vals xs us → Vals (xs.drop n) (us.drop n)
  | _, _, 0, r => r
  | _, _, _ + 1, .nil => .nil
  | _, _, n + 1, .cons _ t => Vals.drop n t
def RelO : Option V → Option Value → Prop
  | some v, some u => RelV v u
  | none, none => True
  | _, _ => False
def KV {κ : Type} : List (κ × V) → List (κ × Value) → Prop := Paired fun (p : κ × V) (q : κ × Value) => p.1 = q.1 ∧ RelV p.2 q.2


def kV : Key → V
  | .inl i => .int i
  | .inr x => .str x


inductive HO where
  
  | lst (xs : List V)
  
  | tup (xs : List V)
  
  | dK (kvs : List (Key × V)) | dT (kvs : List (List Key × V))
  
  | set (S : Int → Bool) (n : Nat)
  
  | ins (C dx : Addr) (fs : List (Str × V))
  
  | own (x : Addr)
  
  | xd (fs : List (Str × V))
  
  | met (f x : Addr)
  
  | rng (lo hi : Int)
  
  | frz (o : Obj) (u : HO)
  
  | tbl (ps : Array Value)
  
  | ext (φ : Heap → Prop)

abbrev Hp := Addr → Option HO
def upd (H : Hp) (a : Addr) (o : HO) : Hp := fun b => if b = a then some o else H b
theorem upd_same {H : Hp} {a : Addr} {o : HO} : upd H a o a = some o := by unfold upd; rw [if_pos rfl]
theorem upd_ne {H : Hp} {a b : Addr} {o : HO} (h : b ≠ a) : upd H a o b = H b := by unfold upd; rw [if_neg h]
theorem ne_of {H : Hp} {a b : Addr} {o u : HO} (h : H a = some o) (h' : H b = some u) (d : o ≠ u) : a ≠ b := by
  intro e; subst e; rw [h] at h'; exact d (Option.some.inj h')
theorem ne_of_none {H : Hp} {a b : Addr} {o : HO} (h : H a = some o) (h' : H b = none) : a ≠ b := by
  intro e; subst e; rw [h] at h'; cases h'


def IsTpl (h : Heap) (a : Addr) (items : Array Value) : Prop := ∃ o, h.get? a = some o ∧ o.cls = .type "tuple" ∧ ∃ n, o.data = .seq items n ∧ o.dict = none ∧ o.slots = #[]
theorem IsTpl.tup {h : Heap} {a : Addr} {items : Array Value} (x : IsTpl h a items) : IsTup h a items := let ⟨o, e, c, n, d, _⟩ := x; ⟨o, e, c, n, d⟩
theorem IsTpl.lt {h : Heap} {a : Addr} {items : Array Value} (x : IsTpl h a items) : a < h.objs.size := x.tup.lt
theorem IsTpl.new (h : Heap) (items : Array Value) : IsTpl (h.push { cls := .type "tuple", data := .seq items }) h.objs.size items := ⟨_, Heap.get?_push_size _ rfl, rfl, _, rfl, rfl, rfl⟩
section
variable (P : Program) (w : World)
def ObjOk (H : Hp) (h : Heap) (a : Addr) : HO → Prop
  | .lst xs => xs.length ≤ sizeLine ∧ ∃ (its : List Value) (n : Nat), Vals xs its ∧ h.get? a = some { cls := .type "list", data := .seq its.toArray n }
  | .tup xs => xs.length ≤ sizeLine ∧ ∃ its : List Value, Vals xs its ∧ IsTpl h a its.toArray
  | .dK kvs => kvs.length ≤ sizeLine ∧ (a == sysModules) = false ∧ ∃ vs, KV kvs vs ∧ h.DictOf (mixKind P w) a vs
  | .dT kvs => kvs.length ≤ sizeLine ∧ (a == sysModules) = false ∧ ∃ xs : List (List Key × Addr × Value),
      Paired (fun (p : List Key × V) (q : List Key × Addr × Value) => p.1 = q.1 ∧ H q.2.1 = some (.tup (p.1.map kV)) ∧ RelV p.2 q.2.2) kvs xs ∧
      ∃ o es ep, h.get? a = some o ∧ o.ExactDict ∧ o.data = .dict es ep ∧ es.toList = xs.map (entryOfKey (tupleKind (mixKind P w))) ∧ (xs.map (·.1)).Nodup
  | .set S n => h.SetOf (intKind P w) a S n
  | .ins C dx fs => H dx = some (.own a) ∧ fs.length ≤ 1000 ∧ dx ≠ a ∧ h.get? a = some (PySem.W.instObj C dx) ∧
      ∃ mA, h.Ns1 dx mA ∧ (∀ f, RelO (fs.lookup f) (mA f)) ∧ PySem.Within mA (fs.map (·.1))
  | .own _ => ∃ o, h.get? a = some o
  | .xd fs => ∃ mA, h.Ns1 a mA ∧ ∀ f, RelO (fs.lookup f) (mA f)
  | .rng lo hi => ∃ t u v, h.get? a = some { cls := .type "range", data := .fields #[.int lo t, .int hi u, .int 1 v] }
  | .frz o u => h.get? a = some o ∧ ObjOk H h a u
  | .tbl ps => h.get? a = some { cls := .none, data := .fields ps }
  | .met f x => h.get? a = some (PySem.W.methodObj (.ref f) (.ref x))
  | .ext φ => φ h ∧ (∃ o, h.get? a = some o) ∧ ∀ h1 h2 : Heap, φ h1 → (∀ o, h1.get? a = some o → h2.get? a = some o) → φ h2

def HOk (H : Hp) (h : Heap) : Prop := ∀ a o, H a = some o → ObjOk P w H h a o
end

section
variable {P : Program} {w : World} {H H' : Hp} {h h' : Heap} {a : Addr} {o : HO}
theorem ObjOk.lt (x : ObjOk P w H h a o) : a < h.objs.size := by
  cases o with
  | lst xs => obtain ⟨_, _, _, _, e⟩ := x; exact Heap.lt_size e
  | tup xs => obtain ⟨_, _, _, p⟩ := x; exact p.lt
  | dK kvs => obtain ⟨_, _, _, _, o, _, _, e, _⟩ := x; exact Heap.lt_size e
  | dT kvs => obtain ⟨_, _, _, _, o, _, _, e, _⟩ := x; exact Heap.lt_size e
  | set S n => obtain ⟨o, _, _, _, e, _⟩ := x; exact Heap.lt_size e
  | ins C dx fs => obtain ⟨_, _, _, e, _⟩ := x; exact Heap.lt_size e
  | own y => obtain ⟨_, e⟩ := x; exact Heap.lt_size e
  | xd fs => obtain ⟨_, ⟨_, _, _, e, _⟩, _⟩ := x; exact Heap.lt_size e
  | rng lo hi => obtain ⟨_, _, _, e⟩ := x; exact Heap.lt_size e
  | frz ob u => obtain ⟨e, _⟩ := x; exact Heap.lt_size e
  | tbl ps => exact Heap.lt_size (show h.get? a = some _ from x)
  | met f y => exact Heap.lt_size (show h.get? a = some _ from x)
  | ext φ => obtain ⟨_, ⟨_, e⟩, _⟩ := x; exact Heap.lt_size e
theorem Paired.mapP {α β : Type} {F G : α → β → Prop} : ∀ {l₁ : List α} {l₂ : List β}, Paired F l₁ l₂ → (∀ a b, F a b → G a b) → Paired G l₁ l₂
  | _, _, .nil, _ => .nil
  | _, _, .cons r t, f => .cons (f _ _ r) (Paired.mapP t f)
theorem ObjOk.stay (x : ObjOk P w H h a o) (k : ∀ b u, (b = a ∨ H b = some (.own a)) → h.get? b = some u → h'.get? b = some u)
    (ho : ∀ b, H b = some (.own a) → H' b = some (.own a)) (ht : ∀ b xs, H b = some (.tup xs) → H' b = some (.tup xs)) : ObjOk P w H' h' a o := by
  induction o with
  | lst xs => obtain ⟨z, its, n, r, e⟩ := x; exact ⟨z, its, n, r, k _ _ (.inl rfl) e⟩
  | tup xs => obtain ⟨z, its, r, ob, e, c⟩ := x; exact ⟨z, its, r, ob, k _ _ (.inl rfl) e, c⟩
  | dK kvs => obtain ⟨z, y, vs, r, ob, es, ep, e, c⟩ := x; exact ⟨z, y, vs, r, ob, es, ep, k _ _ (.inl rfl) e, c⟩
  | dT kvs =>
    obtain ⟨z, y, xs, r, ob, es, ep, e, c⟩ := x
    exact ⟨z, y, xs, Paired.mapP r fun p q z => ⟨z.1, ht _ _ z.2.1, z.2.2⟩, ob, es, ep, k _ _ (.inl rfl) e, c⟩
  | set S n => obtain ⟨ob, es, ep, t, e, c⟩ := x; exact ⟨ob, es, ep, t, k _ _ (.inl rfl) e, c⟩
  | ins C dx fs =>
    obtain ⟨d, z, ne, e, mA, ⟨od, es, ep, e2, c⟩, r⟩ := x
    exact ⟨ho _ d, z, ne, k _ _ (.inl rfl) e, mA, ⟨od, es, ep, k _ _ (.inr d) e2, c⟩, r⟩
  | own y => obtain ⟨ob, e⟩ := x; exact ⟨ob, k _ _ (.inl rfl) e⟩
  | xd fs => obtain ⟨mA, ⟨od, es, ep, e, c⟩, r⟩ := x; exact ⟨mA, ⟨od, es, ep, k _ _ (.inl rfl) e, c⟩, r⟩
  | rng lo hi => obtain ⟨t, u, v, e⟩ := x; exact ⟨t, u, v, k _ _ (.inl rfl) e⟩
  | frz ob u ih => obtain ⟨e, q⟩ := x; exact ⟨k _ _ (.inl rfl) e, ih q⟩
  | tbl ps =>
    have e : h.get? a = some { cls := .none, data := .fields ps } := x
    show h'.get? a = some { cls := .none, data := .fields ps }
    exact k a _ (.inl rfl) e
  | met f y =>
    have e : h.get? a = some (PySem.W.methodObj (.ref f) (.ref y)) := x
    show h'.get? a = some (PySem.W.methodObj (.ref f) (.ref y))
    exact k a _ (.inl rfl) e
  | ext φ => obtain ⟨p, ⟨o, e⟩, st⟩ := x; exact ⟨st _ _ p fun o q => k _ _ (.inl rfl) q, ⟨o, k _ _ (.inl rfl) e⟩, st⟩
theorem HOk.lt (x : HOk P w H h) (e : H a = some o) : a < h.objs.size := (x a o e).lt
theorem HOk.fresh (x : HOk P w H h) (e : h.objs.size ≤ a) : H a = none := by
  cases q : H a with
  | none => rfl
  | some u => exact absurd (Nat.lt_of_lt_of_le (x.lt q) e) (Nat.lt_irrefl _)

theorem HOk.kept (x : HOk P w H h) (k : ∀ b u, h.get? b = some u → h'.get? b = some u) : HOk P w H h' := fun a o e =>
  (x a o e).stay (fun b u _ q => k b u q) (fun _ q => q) fun _ _ q => q

theorem HOk.laid (x : HOk P w H h) (k : ∀ b u, h.get? b = some u → h'.get? b = some u) (hp : h.objs.size ≤ a) (new : ObjOk P w (upd H a o) h' a o) : HOk P w (upd H a o) h' := fun b u e => by
  have hn := x.fresh hp
  by_cases hb : b = a
  · subst hb; rw [upd_same] at e; cases e; exact new
  · rw [upd_ne hb] at e
    exact (x b u e).stay (fun c v _ q => k c v q) (fun c q => by rw [upd_ne (ne_of_none q hn)]; exact q) fun c xs q => by rw [upd_ne (ne_of_none q hn)]; exact q
end


def Rd (H : Hp) (a : Addr) (u : HO) : Prop := H a = some u ∨ ∃ o, H a = some (.frz o u)
theorem Rd.ok {P : Program} {w : World} {H : Hp} {h : Heap} {a : Addr} {u : HO} (r : Rd H a u) (x : HOk P w H h) : ObjOk P w H h a u := by
  rcases r with r | ⟨o, r⟩
  · exact x a u r
  · obtain ⟨_, q⟩ := x a _ r
    exact q

def Mut : Option HO → Prop
  | some (.lst _) => True
  | some (.dK _) => True
  | some (.dT _) => True
  | some (.set _ _) => True
  | some (.ins _ _ _) => True
  | some (.ext _) => True
  | _ => False
section
variable {P : Program} {w : World} {H : Hp} {h h' : Heap} {x e : Addr} {o' : HO}

theorem HOk.write (ok : HOk P w H h) (mu : Mut (H x)) (he : e = x ∨ H e = some (.own x)) (k : ∀ b u, b ≠ e → h.get? b = some u → h'.get? b = some u) (heo : ∃ u, h'.get? e = some u)
    (new : ObjOk P w (upd H x o') h' x o') : HOk P w (upd H x o') h' := fun b u q => by
  have nown : ∀ c y, H c = some (.own y) → c ≠ x := fun c y r z => by subst z; rw [r] at mu; exact mu
  have ntup : ∀ c xs, H c = some (.tup xs) → c ≠ x := fun c xs r z => by subst z; rw [r] at mu; exact mu
  by_cases hb : b = x
  · subst hb; rw [upd_same] at q; cases q; exact new
  · rw [upd_ne hb] at q
    by_cases hbe : b = e
    · have q' : H b = some (.own x) := by
        rcases he with z | z
        · exact absurd (hbe.trans z) hb
        · rw [hbe]; exact z
      rw [q] at q'; cases q'
      obtain ⟨v, hv⟩ := heo
      exact ⟨v, by rw [hbe]; exact hv⟩
    · refine (ok b u q).stay (fun c v hc r => k c v ?_ r) (fun c r => by rw [upd_ne (nown c b r)]; exact r) fun c xs r => by rw [upd_ne (ntup c xs r)]; exact r
      rcases hc with rfl | hc
      · exact hbe
      · rintro rfl
        rcases he with z | z
        · exact nown c b hc z
        · rw [hc] at z; cases z; exact hb rfl
end


structure Un (fs ex : List Addr) (H H' : Hp) (h h' : Heap) : Prop where
  keep : ∀ b o, h.get? b = some o → H b = none → b ∉ fs → b ∉ ex → h'.get? b = some o
  slot : ∀ b o, h.get? b = some o → H b = none → b ∈ fs → b ∉ ex → ∃ sl, h'.get? b = some { o with slots := sl }
  free : ∀ b o, h.get? b = some o → H b = none → b ∉ ex → H' b = none
  there : ∀ b o, h.get? b = some o → b ∉ ex → ∃ o', h'.get? b = some o'
  tups : ∀ b xs, H b = some (.tup xs) → H' b = some (.tup xs)
  frzs : ∀ b o u, H b = some (.frz o u) → H' b = some (.frz o u)
  tbls : ∀ b ps, H b = some (.tbl ps) → ∃ more, H' b = some (.tbl (ps ++ more))
section
variable {fs fs' ex ex' : List Addr} {H H1 H2 : Hp} {h h1 h2 h' : Heap} {a x e : Addr} {o : HO}
theorem Un.any (u : Un fs ex H H1 h h1) {b : Addr} {ob : Obj} (q : h.get? b = some ob) (n : H b = none) (hx : b ∉ ex) : ∃ sl, h1.get? b = some { ob with slots := sl } := by
  by_cases hb : b ∈ fs
  · exact u.slot b ob q n hb hx
  · exact ⟨ob.slots, u.keep b ob q n hb hx⟩
theorem Un.kept (k : ∀ b u, h.get? b = some u → h'.get? b = some u) : Un fs ex H H h h' :=
  ⟨fun b ob q _ _ _ => k b ob q, fun b ob q _ _ _ => ⟨ob.slots, k b ob q⟩, fun _ _ _ n _ => n, fun b ob q _ => ⟨ob, k b ob q⟩, fun _ _ q => q, fun _ _ _ q => q, fun _ ps q => ⟨#[], by rw [q]; simp⟩⟩
theorem Un.refl : Un fs ex H H h h := Un.kept fun _ _ q => q
theorem Un.laid (k : ∀ b u, h.get? b = some u → h'.get? b = some u) (hp : h.objs.size ≤ a) (hn : H a = none) : Un fs ex H (upd H a o) h h' where
  keep := fun b u q _ _ _ => k b u q
  slot := fun b u q _ _ _ => ⟨u.slots, k b u q⟩
  free := fun b u q n _ => by rw [upd_ne (Nat.ne_of_lt (Nat.lt_of_lt_of_le (Heap.lt_size q) hp))]; exact n
  there := fun b u q _ => ⟨u, k b u q⟩
  tups := fun b xs q => by rw [upd_ne (ne_of_none q hn)]; exact q
  frzs := fun b u xs q => by rw [upd_ne (ne_of_none q hn)]; exact q
  tbls := fun b ps q => ⟨#[], by rw [upd_ne (ne_of_none q hn), q]; simp⟩
theorem Un.write (mu : Mut (H x)) (he : e = x ∨ H e = some (.own x)) (k : ∀ b u, b ≠ e → h.get? b = some u → h'.get? b = some u) (heo : ∃ u, h'.get? e = some u) : Un fs ex H (upd H x o) h h' := by
  have hx : ∀ b, H b = none → b ≠ x := fun b n z => by subst z; rw [n] at mu; exact mu
  have hb : ∀ b, H b = none → b ≠ e := fun b n z => by
    subst z
    rcases he with r | r
    · exact hx b n r
    · rw [n] at r; cases r
  have hm : ∀ b u, H b = some u → ¬ Mut (some u) → b ≠ x := fun b u q nm z => by subst z; rw [q] at mu; exact nm mu
  refine ⟨fun b u q n _ _ => k b u (hb b n) q, fun b u q n _ _ => ⟨u.slots, k b u (hb b n) q⟩, fun b u q n _ => by rw [upd_ne (hx b n)]; exact n, fun b u q _ => ?_,
    fun b xs q => by rw [upd_ne (hm b _ q fun z => z)]; exact q, fun b u xs q => by rw [upd_ne (hm b _ q fun z => z)]; exact q, fun b ps q => ⟨#[], by rw [upd_ne (hm b _ q fun z => z), q]; simp⟩⟩
  by_cases hbe : b = e
  · subst hbe; exact heo
  · exact ⟨u, k b u hbe q⟩
end


def trk (h : Heap) (H : Hp) : List Addr := (List.range h.objs.size).filter fun a => (H a).isSome
def hidT (h : Heap) (H : Hp) : Heap := PySem.W.hideAll h (trk h H)
theorem hidT_size (h : Heap) (H : Hp) : (hidT h H).objs.size = h.objs.size := PySem.W.hideAll_size _ _
theorem hidT_get {h : Heap} {H : Hp} {b : Addr} {o : Obj} (e : h.get? b = some o) (n : H b = none) : (hidT h H).get? b = some o :=
  PySem.W.hideAll_get _ e fun hm => by
    have q : (H b).isSome = true := (List.mem_filter.mp hm).2
    rw [n] at q; simp at q
theorem of_hidT {h : Heap} {H : Hp} {b : Addr} {o : Obj} (e : (hidT h H).get? b = some o) : h.get? b = some o ∧ H b = none := by
  have e' : h.get? b = some o := PySem.W.of_hideAll (trk h H) e
  refine ⟨e', ?_⟩
  cases q : H b with
  | none => rfl
  | some x =>
    have hm : b ∈ trk h H := List.mem_filter.mpr ⟨List.mem_range.mpr (Heap.lt_size e'), by simp [q]⟩
    have z : (hidT h H).get? b = none := PySem.W.hideAll_none (trk h H) hm
    rw [z] at e; cases e


end L2

namespace L2
open PySem PySem.Spec PyProof.Rows


structure Mod (K : PySem.W.Frag) (mg : Str → Option Value) (base : Heap) : Prop where
  kin : K.In base
  glob : base.Ns mainGlobals mg
  blt : ∃ mb, base.Ns builtinsNs mb ∧ ∀ x : Str, x ≠ "__name__" → mb x = bootBuiltins x
  nolimit : base.NoLimit


structure Cx where
  prog : Program
  w : World
  K : PySem.W.Frag
  mg : Str → Option Value
  base : Heap
  A : Around
  N : List Str
  s₀ : Shared
  H₀ : Hp
  env : Env
  outer : List Env
  stack : List Env
  ex : List Addr
  fn : Str → Bool
  calm : Bool
  pn : List (Addr × Obj)
  xe : Value → Shared → Prop

def frs (l : List Env) : List Addr := l.filterMap (·.frame)
abbrev Cx.fs (X : Cx) : List Addr := frs X.outer

def Vis (sc : Scope) (x : Str) : Prop := sc.names.lookup x = some .local ∨ sc.names.lookup x = some .cell ∨ sc.names.lookup x = some .free
def Loc (sc : Scope) (x : Str) : Prop := sc.names.lookup x = some .local ∨ sc.names.lookup x = some .cell
def Look (env : Env) (h : Heap) (m : Str → Option Value) (x : Str) (u : Value) : Prop :=
  (env.kindOf x = some .local ∧ m x = some u) ∨ ((env.kindOf x = some .cell ∨ env.kindOf x = some .free) ∧ ∃ c, env.cells.lookup x = some c ∧ h.IsCell c (some u))

structure Cx.Ok (X : Cx) : Prop where
  mod : Mod X.K X.mg X.base
  kind : X.env.scope.kind = .function
  glob : X.env.globals = mainGlobals
  blt : X.env.builtins = builtinsNs
  above : X.s₀.heap.objs.size ≤ X.env.locals
  inj : ∀ x y c, X.env.cells.lookup x = some c → X.env.cells.lookup y = some c → x = y
  has : ∀ x, (X.env.kindOf x = some .cell ∨ X.env.kindOf x = some .free) → ∃ c, X.env.cells.lookup x = some c
  cab : ∀ x c, X.fn x = true → X.env.cells.lookup x = some c → X.s₀.heap.objs.size ≤ c
  hd : X.calm = true → X.A.handled = none
  frames : X.A.frames = some X.stack
  stk : X.stack = X.outer ∨ (X.stack = X.env :: X.outer ∧ X.env.frame = some X.env.locals)
  exf : ∀ b ∈ X.ex, b ≠ X.env.locals ∧ ∀ x c, X.env.cells.lookup x = some c → c ≠ b
  bs : ∀ b o, X.base.get? b = some o → X.s₀.heap.get? b = some o ∧ X.H₀ b = none
  bsz : X.base.objs.size ≤ X.s₀.heap.objs.size
  noex : ∀ b o, X.base.get? b = some o → b ∉ X.ex
  exfs : ∀ b ∈ X.ex, b ∉ X.fs
  funs : X.s₀.heap.FunFrames X.base X.outer
  frf : ∀ b ∈ X.fs, X.H₀ b = none

structure Inv (X : Cx) (pins : List (Addr × Obj)) (σ : List (Option V)) (H : Hp) (s : Shared) : Prop where
  ok : X.Ok
  os : s.os = X.s₀.os
  bare : AllBare s.gens
  base : Un X.fs X.ex X.H₀ H X.s₀.heap s.heap
  loc : ∃ m, s.heap.Ns X.env.locals m ∧ ∀ (i : Nat) (x : Str) (v : V), X.N[i]? = some x → σ[i]? = some (some v) → Vis X.env.scope x → ∃ u, RelV v u ∧ Look X.env s.heap m x u
  cell : ∀ x c, X.env.cells.lookup x = some c → ∃ v, s.heap.IsCell c v
  free : H X.env.locals = none
  freeC : ∀ x c, X.env.cells.lookup x = some c → H c = none
  pin : ∀ p ∈ X.pn ++ pins, s.heap.get? p.1 = some p.2 ∧ H p.1 = none ∧ p.1 ≠ X.env.locals ∧ p.1 ∉ X.fs ∧ ∀ v, p.2.data ≠ .cell v
  hok : HOk X.prog X.w H s.heap
  len : σ.length = X.N.length

section
variable {X : Cx} {pins : List (Addr × Obj)} {σ : List (Option V)} {H H' : Hp} {s : Shared} {h' : Heap}

theorem Cx.Ok.nofr (ok : X.Ok) {b : Addr} {o : Obj} (e : X.base.get? b = some o) : b ∉ X.fs := fun hb => by
  have := (ok.funs.mem hb).1
  rw [e] at this; cases this
theorem Inv.bs (I : Inv X pins σ H s) : ∀ b o, X.base.get? b = some o → s.heap.get? b = some o ∧ H b = none := fun b o e =>
  ⟨I.base.keep b o (I.ok.bs b o e).1 (I.ok.bs b o e).2 (I.ok.nofr e) (I.ok.noex b o e), I.base.free b o (I.ok.bs b o e).1 (I.ok.bs b o e).2 (I.ok.noex b o e)⟩
theorem Inv.bk (I : Inv X pins σ H s) : ∀ b o, X.base.get? b = some o → s.heap.get? b = some o := fun b o e => (I.bs b o e).1
theorem Inv.mod (I : Inv X pins σ H s) : Mod X.K X.mg X.base := I.ok.mod
theorem Inv.kIn (I : Inv X pins σ H s) : X.K.In s.heap := I.ok.mod.kin.keeps I.bk
theorem Inv.lt (I : Inv X pins σ H s) : X.env.locals < s.heap.objs.size := let ⟨_, hn, _⟩ := I.loc; hn.lt
theorem Inv.sz (I : Inv X pins σ H s) : X.s₀.heap.objs.size ≤ s.heap.objs.size := Nat.le_trans I.ok.above (Nat.le_of_lt I.lt)
theorem Inv.nofs (I : Inv X pins σ H s) {a : Addr} (h : s.heap.objs.size ≤ a) : a ∉ X.fs := fun hb => by
  obtain ⟨_, o, ho, _⟩ := I.ok.funs.mem hb
  exact absurd (Nat.lt_of_lt_of_le (Heap.lt_size ho) (Nat.le_trans I.sz h)) (Nat.lt_irrefl _)
theorem Inv.cne (I : Inv X pins σ H s) : ∀ x c, X.env.cells.lookup x = some c → c ≠ X.env.locals := fun x c e z => by
  obtain ⟨v, o, ho, hd⟩ := I.cell x c e
  obtain ⟨m, ⟨o', es, ep, ho', hd', _⟩, _⟩ := I.loc
  rw [z, ho'] at ho; cases ho; rw [hd'] at hd; cases hd
theorem Inv.funs (I : Inv X pins σ H s) : s.heap.FunFrames X.base X.outer := by
  have all : ∀ (l : List Env), (∀ b ∈ frs l, b ∈ X.fs) → X.s₀.heap.FunFrames X.base l → s.heap.FunFrames X.base l := by
    intro l
    induction l with
    | nil => intro _ _; trivial
    | cons env r ih =>
      intro hs hl
      obtain ⟨hk, ⟨L, o, hf, hn, ho, hd⟩, hr⟩ := hl
      have hL : L ∈ X.fs := hs L (by unfold frs; rw [List.filterMap_cons, hf]; exact List.mem_cons_self)
      obtain ⟨sl, e⟩ := I.base.slot L o ho (I.ok.frf L hL) hL fun z => I.ok.exfs L z hL
      exact ⟨hk, ⟨L, _, hf, hn, e, hd⟩, ih (fun b hb => hs b (by unfold frs; rw [List.filterMap_cons, hf]; exact List.mem_cons_of_mem _ hb)) hr⟩
  exact all X.outer (fun _ hb => hb) I.ok.funs


theorem Inv.stack (I : Inv X pins σ H s) : s.heap.FunFrames X.base X.stack := by
  rcases I.ok.stk with e | ⟨e, hf⟩
  · rw [e]; exact I.funs
  · rw [e]
    obtain ⟨m, hn, _⟩ := I.loc
    refine .cons (by rw [I.ok.kind]; decide) hf hn ?_ I.funs
    exact Heap.get?_none_of_le (Nat.le_trans I.ok.bsz I.ok.above)
theorem Inv.stkSub (I : Inv X pins σ H s) : ∀ b ∈ frs X.stack, b ∈ X.env.locals :: X.fs := fun b hb => by
  rcases I.ok.stk with e | ⟨e, hf⟩
  · rw [e] at hb; exact List.mem_cons_of_mem _ hb
  · rw [e] at hb
    unfold frs at hb
    rw [List.filterMap_cons, hf] at hb
    exact hb
theorem Inv.stkFree (I : Inv X pins σ H s) : ∀ b ∈ frs X.stack, H b = none := fun b hb => by
  rcases List.mem_cons.mp (I.stkSub b hb) with e | hb
  · rw [e]; exact I.free
  · obtain ⟨_, o, ho, _⟩ := I.ok.funs.mem hb
    exact I.base.free b o ho (I.ok.frf b hb) fun z => I.ok.exfs b z hb


theorem Inv.step {g' : Array GenState} {t' : Nat} {d' : Drawn} {ch : List Addr} (I : Inv X pins σ H s)
    (hch : ∀ b ∈ ch, (b ∈ X.ex ∨ X.s₀.heap.objs.size ≤ b) ∧ b ≠ X.env.locals ∧ (∀ x c, X.env.cells.lookup x = some c → c ≠ b) ∧ ∀ p ∈ X.pn ++ pins, p.1 ≠ b)
    (keep : ∀ b o, b ≠ X.env.locals → b ∉ X.fs → b ∉ ch → s.heap.get? b = some o → H b = none → h'.get? b = some o)
    (slot : ∀ b o, b ≠ X.env.locals → b ∈ X.fs → b ∉ ch → s.heap.get? b = some o → H b = none → ∃ sl, h'.get? b = some { o with slots := sl }) (free : ∀ b o, b ∉ ch → s.heap.get? b = some o → H b = none → H' b = none)
    (there : ∀ b o, b ∉ ch → s.heap.get? b = some o → ∃ o', h'.get? b = some o')
    (tups : ∀ b xs, H b = some (.tup xs) → H' b = some (.tup xs)) (frzs : ∀ b o u, H b = some (.frz o u) → H' b = some (.frz o u)) (tbls : ∀ b ps, H b = some (.tbl ps) → ∃ more, H' b = some (.tbl (ps ++ more)))
    (ns : ∀ m, s.heap.Ns X.env.locals m → h'.Ns X.env.locals m) (hok : HOk X.prog X.w H' h') (hg : AllBare g') :
    Inv X pins σ H' { s with heap := h', gens := g', drawn := d', toks := t' } := by
  have neL : ∀ b o, X.s₀.heap.get? b = some o → b ≠ X.env.locals := fun b o e => Nat.ne_of_lt (Nat.lt_of_lt_of_le (Heap.lt_size e) I.ok.above)
  have neC : ∀ b o, X.s₀.heap.get? b = some o → b ∉ X.ex → b ∉ ch := fun b o e hx hb => by
    rcases (hch b hb).1 with z | z
    · exact hx z
    · exact absurd (Nat.lt_of_lt_of_le (Heap.lt_size e) z) (Nat.lt_irrefl _)
  have cellK : ∀ x c, X.env.cells.lookup x = some c → ∀ v, s.heap.IsCell c v → h'.IsCell c v := fun x c e v ⟨o, ho, hd⟩ => by
    have nch : c ∉ ch := fun z => (hch c z).2.2.1 x c e rfl
    by_cases hc : c ∈ X.fs
    · obtain ⟨sl, q⟩ := slot c o (I.cne x c e) hc nch ho (I.freeC x c e)
      exact ⟨_, q, hd⟩
    · exact ⟨o, keep c o (I.cne x c e) hc nch ho (I.freeC x c e), hd⟩
  refine ⟨I.ok, I.os, hg, ⟨fun b o e n hb hx => ?_, fun b o e n hb hx => ?_, fun b o e n hx => ?_, fun b o e hx => ?_, fun b xs e => tups b xs (I.base.tups b xs e), fun b o xs e => frzs b o xs (I.base.frzs b o xs e), fun b ps e => ?_⟩, ?_, fun x c e => ?_, ?_, fun x c e => ?_, fun p hp => ?_, hok, I.len⟩
  · exact keep b o (neL b o e) hb (neC b o e hx) (I.base.keep b o e n hb hx) (I.base.free b o e n hx)
  · obtain ⟨sl, e1⟩ := I.base.slot b o e n hb hx
    obtain ⟨sl', e2⟩ := slot b _ (neL b o e) hb (neC b o e hx) e1 (I.base.free b o e n hx)
    exact ⟨sl', e2⟩
  · obtain ⟨o', e1⟩ := I.base.there b o e hx
    exact free b o' (neC b o e hx) e1 (I.base.free b o e n hx)
  · obtain ⟨o', e1⟩ := I.base.there b o e hx
    exact there b o' (neC b o e hx) e1
  · obtain ⟨m1, e1⟩ := I.base.tbls b ps e
    obtain ⟨m2, e2⟩ := tbls b _ e1
    exact ⟨m1 ++ m2, by rw [e2, Array.append_assoc]⟩
  · obtain ⟨m, hn, hl⟩ := I.loc
    refine ⟨m, ns m hn, fun i x v e1 e2 e3 => ?_⟩
    obtain ⟨u, r, l⟩ := hl i x v e1 e2 e3
    refine ⟨u, r, ?_⟩
    rcases l with l | ⟨k, c, e, z⟩
    · exact .inl l
    · exact .inr ⟨k, c, e, cellK x c e _ z⟩
  · obtain ⟨v, z⟩ := I.cell x c e
    exact ⟨v, cellK x c e v z⟩
  · obtain ⟨m, ⟨o, _, _, ho, _⟩, _⟩ := I.loc
    exact free _ o (fun z => (hch _ z).2.1 rfl) ho I.free
  · obtain ⟨v, o, ho, hd⟩ := I.cell x c e
    exact free c o (fun z => (hch c z).2.2.1 x c e rfl) ho (I.freeC x c e)
  · obtain ⟨e, n, ne, nf, d⟩ := I.pin p hp
    have nch : p.1 ∉ ch := fun z => (hch p.1 z).2.2.2 p hp rfl
    exact ⟨keep p.1 p.2 ne nf nch e n, free p.1 p.2 nch e n, ne, nf, d⟩

theorem Inv.un {t' : Nat} (I : Inv X pins σ H s) (u : Un X.fs [] H H' s.heap h') (hok : HOk X.prog X.w H' h') : Inv X pins σ H' { s with heap := h', toks := t' } := by
  obtain ⟨m, ⟨o, es, ep, ho, r⟩, _⟩ := id I.loc
  obtain ⟨sl, hL⟩ := u.any ho I.free (by simp)
  exact I.step (g' := s.gens) (d' := s.drawn) (ch := []) (fun _ z => nomatch z) (fun b o _ hb _ e n => u.keep b o e n hb (by simp)) (fun b o _ hb _ e n => u.slot b o e n hb (by simp)) (fun b o _ e n => u.free b o e n (by simp)) (fun b o _ e => u.there b o e (by simp)) u.tups u.frzs u.tbls (fun m' hm => by
    obtain ⟨o', es', ep', ho', r'⟩ := hm
    rw [ho] at ho'; cases ho'
    exact ⟨_, es', ep', hL, r'⟩) hok I.bare

theorem Inv.call {g' : Array GenState} {t' : Nat} {d' : Drawn} {ch : List Addr} (I : Inv X pins σ H s) (u : Un (frs X.stack) ch H H' s.heap h') (hok : HOk X.prog X.w H' h') (hg : AllBare g')
    (hch : ∀ b ∈ ch, (b ∈ X.ex ∨ X.s₀.heap.objs.size ≤ b) ∧ b ≠ X.env.locals ∧ (∀ x c, X.env.cells.lookup x = some c → c ≠ b) ∧ ∀ p ∈ X.pn ++ pins, p.1 ≠ b) :
    Inv X pins σ H' { s with heap := h', gens := g', drawn := d', toks := t' } := by
  obtain ⟨m, ⟨o, es, ep, ho, r⟩, _⟩ := id I.loc
  obtain ⟨sl, hL⟩ := u.any ho I.free fun z => (hch _ z).2.1 rfl
  exact I.step (ch := ch) hch (fun b o hL hb hc e n => u.keep b o e n (fun z => (List.mem_cons.mp (I.stkSub b z)).elim hL hb) hc) (fun b o _ _ hc e n => u.any e n hc) (fun b o hc e n => u.free b o e n hc) (fun b o hc e => u.there b o e hc) u.tups u.frzs u.tbls (fun m' hm => by
    obtain ⟨o', es', ep', ho', r'⟩ := hm
    rw [ho] at ho'; cases ho'
    exact ⟨_, es', ep', hL, r'⟩) hok hg

theorem Inv.turned {t' : Nat} {it : Addr} (I : Inv X pins σ H s) (k : ∀ b o, b ≠ it → s.heap.get? b = some o → h'.get? b = some o) (hn : H it = none) (hL : it ≠ X.env.locals)
    (h1 : it ∈ X.ex ∨ X.s₀.heap.objs.size ≤ it) (h2 : ∀ x c, X.env.cells.lookup x = some c → c ≠ it) (h3 : ∀ p ∈ X.pn ++ pins, p.1 ≠ it) : Inv X pins σ H { s with heap := h', toks := t' } := by
  have nit : ∀ b u, H b = some u → b ≠ it := fun b u e z => by rw [z, hn] at e; cases e
  refine I.step (g' := s.gens) (d' := s.drawn) (ch := [it]) (fun b hb => ?_) (fun b o _ _ hc e _ => k b o (fun z => hc (by simp [z])) e) (fun b o _ _ hc e _ => ⟨o.slots, k b o (fun z => hc (by simp [z])) e⟩) (fun _ _ _ _ n => n)
    (fun b o hc e => ⟨o, k b o (fun z => hc (by simp [z])) e⟩) (fun _ _ e => e) (fun _ _ _ e => e) (fun b ps e => ⟨#[], by rw [e]; simp⟩) (fun m hm => ?_) (fun b u e => ?_) I.bare
  · have e : b = it := by simpa using hb
    subst e
    exact ⟨h1, hL, h2, h3⟩
  · obtain ⟨o, es, ep, ho, r⟩ := hm
    exact ⟨o, es, ep, k _ o (Ne.symm hL) ho, r⟩
  · refine (I.hok b u e).stay (fun c v hc q => k c v ?_ q) (fun _ q => q) fun _ _ q => q
    rcases hc with z | z
    · rw [z]; exact nit b u e
    · exact nit c _ z
theorem Inv.tok (I : Inv X pins σ H s) (t : Nat) : Inv X pins σ H { s with toks := t } := I.un (h' := s.heap) (t' := t) Un.refl I.hok

theorem Inv.kept {t' : Nat} (I : Inv X pins σ H s) (k : ∀ b u, s.heap.get? b = some u → h'.get? b = some u) : Inv X pins σ H { s with heap := h', toks := t' } := I.un (Un.kept k) (I.hok.kept k)

theorem Inv.laid {a : Addr} {o : HO} {t' : Nat} (I : Inv X pins σ H s) (k : ∀ b u, s.heap.get? b = some u → h'.get? b = some u) (hp : s.heap.objs.size ≤ a) (new : ObjOk X.prog X.w (upd H a o) h' a o) :
    Inv X pins σ (upd H a o) { s with heap := h', toks := t' } := I.un (Un.laid k hp (I.hok.fresh hp)) (I.hok.laid k hp new)

theorem Inv.write {x e : Addr} {o : HO} {t' : Nat} (I : Inv X pins σ H s) (mu : Mut (H x)) (he : e = x ∨ H e = some (.own x)) (k : ∀ b u, b ≠ e → s.heap.get? b = some u → h'.get? b = some u) (heo : ∃ u, h'.get? e = some u)
    (new : ObjOk X.prog X.w (upd H x o) h' x o) : Inv X pins σ (upd H x o) { s with heap := h', toks := t' } := I.un (Un.write mu he k heo) (I.hok.write mu he k heo new)

theorem Inv.pins_of {pins' : List (Addr × Obj)} (I : Inv X pins σ H s) (h : ∀ p ∈ pins', s.heap.get? p.1 = some p.2 ∧ H p.1 = none ∧ p.1 ≠ X.env.locals ∧ p.1 ∉ X.fs ∧ ∀ v, p.2.data ≠ .cell v) : Inv X pins' σ H s :=
  ⟨I.ok, I.os, I.bare, I.base, I.loc, I.cell, I.free, I.freeC, fun p hp => (List.mem_append.mp hp).elim (fun z => I.pin p (List.mem_append_left _ z)) (h p), I.hok, I.len⟩

theorem nodup_ix {N : List Str} (hN : N.Nodup) {i j : Nat} {x : Str} (a : N[i]? = some x) (b : N[j]? = some x) : i = j := by
  obtain ⟨h1, e1⟩ := List.getElem?_eq_some_iff.mp a
  obtain ⟨h2, e2⟩ := List.getElem?_eq_some_iff.mp b
  exact (List.getElem_inj hN).mp (e1.trans e2.symm)


theorem store_ok2 {M : Model} {A : Around} {E : Value → Shared → Prop} {i : Nat} {x : Str} {v : V} {u : Value} {Q : Unit → Shared → Prop} (I : Inv X pins σ H s) (hN : X.N.Nodup) (hi : X.N[i]? = some x) (hx : Loc X.env.scope x) (r : RelV v u)
    (h : ∀ s', Inv X pins (σ.set i (some v)) H s' → (∃ a, Heap.SameBut a s.heap s'.heap ∧ (a = X.env.locals ∨ X.env.cells.lookup x = some a)) → Q () s') (hf : X.fn x = true ∨ X.env.scope.names.lookup x = some .local := by first | exact .inl rfl | exact .inr rfl | assumption) : wpAny M A (storeName X.env x u) Q E s := by
  obtain ⟨m, hn, hl⟩ := id I.loc
  have hcls : (X.env.scope.kind == .class || (X.env.scope.kind == .module && X.env.locals != X.env.globals)) = false := by rw [I.ok.kind]; rfl
  have hiσ : i < σ.length := by rw [I.len]; exact (List.getElem?_eq_some_iff.mp hi).1
  have cne := I.cne
  have tracked : ∀ {a : Addr} {h' : Heap}, (∃ o, s.heap.get? a = some o ∧ H a = none) → Heap.SameBut a s.heap h' → HOk X.prog X.w H h' := fun {a h'} ha hs b ob e => by
    obtain ⟨_, _, hfree⟩ := ha
    refine (I.hok b ob e).stay (fun c w' hc q => (hs.2 c ?_).trans q) (fun _ q => q) fun _ _ q => q
    rintro rfl
    rcases hc with rfl | hc
    · rw [hfree] at e; cases e
    · rw [hfree] at hc; cases hc
  rcases hx with hk | hk
  · refine wpAny_storeName_local hk hn (fun h' hn' hs => ?_) hcls
    obtain ⟨oL, _, _, hoL, _⟩ := id hn
    refine h _ ⟨I.ok, I.os, I.bare, ⟨fun b o e n hb hx => ?_, fun b o e n hb hx => ?_, I.base.free, fun b o e hx => ?_, I.base.tups, I.base.frzs, I.base.tbls⟩, ⟨_, hn', fun j y v' e1 e2 e3 => ?_⟩, fun y c e => ?_, I.free, I.freeC, fun p hp => ?_, tracked ⟨oL, hoL, I.free⟩ hs, by simpa using I.len⟩ ⟨_, hs, .inl rfl⟩
    · exact (hs.2 b (Nat.ne_of_lt (Nat.lt_of_lt_of_le (Heap.lt_size e) I.ok.above))).trans (I.base.keep b o e n hb hx)
    · obtain ⟨sl, e1⟩ := I.base.slot b o e n hb hx
      exact ⟨sl, (hs.2 b (Nat.ne_of_lt (Nat.lt_of_lt_of_le (Heap.lt_size e) I.ok.above))).trans e1⟩
    · obtain ⟨o', e1⟩ := I.base.there b o e hx
      exact ⟨o', (hs.2 b (Nat.ne_of_lt (Nat.lt_of_lt_of_le (Heap.lt_size e) I.ok.above))).trans e1⟩
    · by_cases hj : j = i
      · subst hj
        rw [hi] at e1; cases e1
        rw [List.getElem?_set_self hiσ] at e2
        cases e2
        exact ⟨u, r, .inl ⟨hk, by simp⟩⟩
      · rw [List.getElem?_set_ne (Ne.symm hj)] at e2
        obtain ⟨u', r', q⟩ := hl j y v' e1 e2 e3
        refine ⟨u', r', ?_⟩
        rcases q with ⟨k, e⟩ | ⟨k, c, e, z⟩
        · refine .inl ⟨k, ?_⟩
          have : y ≠ x := fun e => hj (nodup_ix hN e1 (e ▸ hi))
          simp [this, e]
        · exact .inr ⟨k, c, e, z.sameBut hs (cne y c e)⟩
    · obtain ⟨w', z⟩ := I.cell y c e
      exact ⟨w', z.sameBut hs (cne y c e)⟩
    · obtain ⟨e, n, ne, nf, d⟩ := I.pin p hp
      exact ⟨(hs.2 p.1 ne).trans e, n, ne, nf, d⟩
  · have hfn : X.fn x = true := by
      rcases hf with z | z
      · exact z
      · rw [z] at hk; cases hk
    obtain ⟨c, hc⟩ := I.ok.has x (.inl hk)
    obtain ⟨w', z⟩ := I.cell x c hc
    refine wpAny_storeName_cell I.ok.kind hk hc z (fun h' hc' hs => ?_)
    obtain ⟨oc, hoc, hocd⟩ := id z
    refine h { s with heap := h' } ⟨I.ok, I.os, I.bare, ⟨fun b o e n hb hx => ?_, fun b o e n hb hx => ?_, I.base.free, fun b o e hx => ?_, I.base.tups, I.base.frzs, I.base.tbls⟩, ⟨m, hn.sameBut hs (Ne.symm (cne x c hc)), fun j y v' e1 e2 e3 => ?_⟩, fun y c' e => ?_, I.free, I.freeC, fun p hp => ?_, tracked ⟨oc, hoc, I.freeC x c hc⟩ hs, by simpa using I.len⟩ ⟨c, hs, .inr hc⟩
    · exact (hs.2 b (Nat.ne_of_lt (Nat.lt_of_lt_of_le (Heap.lt_size e) (I.ok.cab x c hfn hc)))).trans (I.base.keep b o e n hb hx)
    · obtain ⟨sl, e1⟩ := I.base.slot b o e n hb hx
      exact ⟨sl, (hs.2 b (Nat.ne_of_lt (Nat.lt_of_lt_of_le (Heap.lt_size e) (I.ok.cab x c hfn hc)))).trans e1⟩
    · obtain ⟨o', e1⟩ := I.base.there b o e hx
      exact ⟨o', (hs.2 b (Nat.ne_of_lt (Nat.lt_of_lt_of_le (Heap.lt_size e) (I.ok.cab x c hfn hc)))).trans e1⟩
    · by_cases hj : j = i
      · subst hj
        rw [hi] at e1; cases e1
        rw [List.getElem?_set_self hiσ] at e2
        cases e2
        exact ⟨u, r, .inr ⟨.inl hk, c, hc, hc'⟩⟩
      · rw [List.getElem?_set_ne (Ne.symm hj)] at e2
        obtain ⟨u', r', q⟩ := hl j y v' e1 e2 e3
        refine ⟨u', r', ?_⟩
        rcases q with q | ⟨k, c', e, z'⟩
        · exact .inl q
        · refine .inr ⟨k, c', e, z'.sameBut hs ?_⟩
          rintro rfl
          exact hj (nodup_ix hN e1 (I.ok.inj _ _ _ e hc ▸ hi))
    · by_cases hcc : c' = c
      · subst hcc; exact ⟨_, hc'⟩
      · obtain ⟨w2, z2⟩ := I.cell y c' e
        exact ⟨w2, z2.sameBut hs hcc⟩
    · obtain ⟨e, n, ne, nf, d⟩ := I.pin p hp
      refine ⟨(hs.2 p.1 ?_).trans e, n, ne, nf, d⟩
      intro q
      rw [q, hoc] at e
      have q' : oc = p.2 := Option.some.inj e
      exact d w' (by rw [← q']; exact hocd)
theorem store_ok {M : Model} {A : Around} {E : Value → Shared → Prop} {i : Nat} {x : Str} {v : V} {u : Value} {Q : Unit → Shared → Prop} (I : Inv X pins σ H s) (hN : X.N.Nodup) (hi : X.N[i]? = some x) (hx : Loc X.env.scope x) (r : RelV v u)
    (h : ∀ s', Inv X pins (σ.set i (some v)) H s' → Q () s') (hf : X.fn x = true ∨ X.env.scope.names.lookup x = some .local := by first | exact .inl rfl | exact .inr rfl | assumption) : wpAny M A (storeName X.env x u) Q E s :=
  store_ok2 I hN hi hx r (fun s' I' _ => h s' I') hf

theorem Inv.call' {s' : Shared} {ch : List Addr} (I : Inv X pins σ H s) (ho : s'.os = s.os) (u : Un (frs X.stack) ch H H' s.heap s'.heap) (hok : HOk X.prog X.w H' s'.heap) (hg : AllBare s'.gens)
    (hch : ∀ b ∈ ch, (b ∈ X.ex ∨ X.s₀.heap.objs.size ≤ b) ∧ b ≠ X.env.locals ∧ (∀ x c, X.env.cells.lookup x = some c → c ≠ b) ∧ ∀ p ∈ X.pn ++ pins, p.1 ≠ b) : Inv X pins σ H' s' := by
  obtain ⟨h', g', d', t', o'⟩ := s'
  have e : o' = s.os := ho
  subst e
  exact I.call (g' := g') (t' := t') (d' := d') u hok hg hch
end



abbrev XK := Value → Option Addr → Hp → Prop
abbrev St := List (Option V)
abbrev VK := V → Hp → Prop

abbrev TE := St → Hp → VK → Prop
abbrev TT := St → Hp → (Bool → Hp → Prop) → Prop
abbrev TA := St → Hp → (List V → Hp → Prop) → Prop

structure Ends where
  nx : St → Hp → Prop
  rt : VK
  bk : St → Hp → Prop := fun _ _ => False
  ct : St → Hp → Prop := fun _ _ => False
abbrev TS := Ends → St → Hp → Prop

def EP (X : Cx) (pins : List (Addr × Obj)) (σ : St) (Q : VK) (u : Value) (s' : Shared) : Prop := ∃ v H', Inv X pins σ H' s' ∧ RelV v u ∧ Q v H'
def TP (X : Cx) (pins : List (Addr × Obj)) (σ : St) (Q : Bool → Hp → Prop) (b : Bool) (s' : Shared) : Prop := ∃ H', Inv X pins σ H' s' ∧ Q b H'
def AP (X : Cx) (pins : List (Addr × Obj)) (σ : St) (Q : List V → Hp → Prop) (us : List Value) (s' : Shared) : Prop := ∃ vs H', Inv X pins σ H' s' ∧ Vals vs us ∧ Q vs H'
def SP (X : Cx) (pins : List (Addr × Obj)) (D : Ends) (f : Flow) (s' : Shared) : Prop :=
  match f with
  | .next => ∃ σ' H', Inv X pins σ' H' s' ∧ D.nx σ' H'
  | .brk => ∃ σ' H', Inv X pins σ' H' s' ∧ D.bk σ' H'
  | .cont => ∃ σ' H', Inv X pins σ' H' s' ∧ D.ct σ' H'
  | .ret u => ∃ v σ' H', Inv X pins σ' H' s' ∧ RelV v u ∧ D.rt v H'

def PE (X : Cx) (e : Expr) (t : TE) : Prop :=
  ∀ (pins : List (Addr × Obj)) (s : Shared) (σ : St) (H : Hp) (Q : VK), Inv X pins σ H s → t σ H Q → wpAny (model X.prog X.w) X.A (eval e X.env) (EP X pins σ Q) X.xe s
def PT (X : Cx) (e : Expr) (t : TT) : Prop :=
  ∀ (pins : List (Addr × Obj)) (s : Shared) (σ : St) (H : Hp) (Q : Bool → Hp → Prop), Inv X pins σ H s → t σ H Q → wpAny (model X.prog X.w) X.A (isTrue e X.env (eval e X.env)) (TP X pins σ Q) X.xe s

def PW (X : Cx) (e : Expr) (t : TT) : Prop :=
  ∀ (whole : Sem Value) (pins : List (Addr × Obj)) (s : Shared) (σ : St) (H : Hp) (Q : Bool → Hp → Prop), Inv X pins σ H s → t σ H Q → wpAny (model X.prog X.w) X.A (isTrue e X.env whole) (TP X pins σ Q) X.xe s
theorem PW.pt {X : Cx} {e : Expr} {t : TT} (h : PW X e t) : PT X e t := h _

def PA (X : Cx) (es : List Expr) (t : TA) : Prop :=
  ∀ (pos : Pos) (pins : List (Addr × Obj)) (s : Shared) (σ : St) (H : Hp) (Q : List V → Hp → Prop), Inv X pins σ H s → t σ H Q → wpAny (model X.prog X.w) X.A (spliced (backTo pos (starEach es X.env))) (AP X pins σ Q) X.xe s
def PS (X : Cx) (st : Stmt) (t : TS) : Prop :=
  ∀ (pins : List (Addr × Obj)) (s : Shared) (σ : St) (H : Hp) (D : Ends), Inv X pins σ H s → t D σ H → wpAny (model X.prog X.w) X.A (exec st X.env) (SP X pins D) X.xe s
def PSs (X : Cx) (st : List Stmt) (t : TS) : Prop :=
  ∀ (pins : List (Addr × Obj)) (s : Shared) (σ : St) (H : Hp) (D : Ends), Inv X pins σ H s → t D σ H → wpAny (model X.prog X.w) X.A (execs st X.env) (SP X pins D) X.xe s

theorem thn {α : Type} {t : Sem α} {Q Q' : α → Shared → Prop} {M : Model} {A : Around} {E : Value → Shared → Prop} {s : Shared} (h : wpAny M A t Q E s) (hQ : ∀ a s, Q a s → Q' a s) : wpAny M A t Q' E s := wpAny_mono h hQ fun _ _ x => x
end L2

namespace L2
open PySem PySem.Spec PyProof.Rows
section
variable {X : Cx}


theorem bin {a b : Expr} {ta tb : TE} (ha : PE X a ta) (hb : PE X b tb) {pins : List (Addr × Obj)} {s : Shared} {σ : St} {H : Hp} {R : V → V → Hp → Prop} (I : Inv X pins σ H s) (h : ta σ H fun x H1 => tb σ H1 fun y H2 => R x y H2)
    {α : Type} {Q : α → Shared → Prop} {f : Value → Value → Sem α}
    (hf : ∀ v u s2 x y H2, Inv X pins σ H2 s2 → RelV x v → RelV y u → R x y H2 → wpAny (model X.prog X.w) X.A (f v u) Q X.xe s2) :
    wpAny (model X.prog X.w) X.A (eval a X.env) (fun v s₁ => wpAny (model X.prog X.w) X.A (eval b X.env) (fun u s₂ => wpAny (model X.prog X.w) X.A (f v u) Q X.xe s₂) X.xe s₁) X.xe s := by
  refine thn (ha pins s σ H _ I h) fun v s1 ⟨x, H1, I1, r1, q1⟩ => ?_
  refine thn (hb pins s1 σ H1 _ I1 q1) fun u s2 ⟨y, H2, I2, r2, q2⟩ => ?_
  exact hf v u s2 x y H2 I2 r1 r2 q2


def tVar (i : Nat) : TE := fun σ H Q => ∃ v, σ[i]? = some (some v) ∧ Q v H
def tC (v : V) : TE := fun _ H Q => Q v H
theorem pe_var {i : Nat} {x : Str} {pos : Pos} (hN : X.N[i]? = some x) (hv : Vis X.env.scope x) (hd : (x == ("__debug__" : Str)) = false := by decide) (hcd : (x == ("__classdict__" : Str)) = false := by decide) : PE X (.Name x pos) (tVar i) := by
  intro pins s σ H Q I h
  obtain ⟨v, e, h⟩ := h
  obtain ⟨m, hn, hl⟩ := I.loc
  obtain ⟨u, r, l⟩ := hl i x v hN e hv
  have fin : EP X pins σ Q u s := ⟨v, H, I, r, h⟩
  rcases l with ⟨hk, hm⟩ | ⟨hk, c, hc, hcell⟩
  · exact wpAny_Name (wpAny_loadName_local I.ok.kind hk hn hm fin) hd
  · rcases hk with hk | hk
    · exact wpAny_Name (wpAny_loadName_cell I.ok.kind hk hc hcell fin) hd
    · exact wpAny_Name (wpAny_loadName_free I.ok.kind hk hc hcell fin hcd) hd
theorem pe_int {i j pos} : PE X (.Constant (.int i) j pos) (tC (.int i)) := fun _ _ _ H _ I h => wpAny_Constant_int ⟨.int i, H, I.tok _, ⟨_, rfl⟩, h⟩
theorem pe_bl {b j pos} : PE X (.Constant (.bool b) j pos) (tC (.bl b)) := fun _ _ _ H _ I h => Constant_bool ⟨.bl b, H, I, rfl, h⟩
theorem pe_non {j pos} : PE X (.Constant .none j pos) (tC .non) := fun _ _ _ H _ I h => Constant_none ⟨.non, H, I, rfl, h⟩
theorem pe_str {x j pos} : PE X (.Constant (.str x) j pos) (tC (.str x)) := fun _ _ _ H _ I h => Calls.Constant_str ⟨.str x, H, I.tok _, ⟨_, rfl⟩, h⟩


def Gl (X : Cx) (x : Str) : Prop := X.env.kindOf x = some .globalImplicit
theorem ld_glob {E : Value → Shared → Prop} {pins : List (Addr × Obj)} {s : Shared} {σ : St} {H : Hp} {x : Str} {u : Value} {pos : Pos} {Q : Value → Shared → Prop} (I : Inv X pins σ H s) (hg : Gl X x) (hm : X.mg x = some u) (h : Q u s)
    (hd : (x == ("__debug__" : Str)) = false := by decide) : wpAny (model X.prog X.w) X.A (eval (.Name x pos) X.env) Q E s :=
  Calls.Name_function_global I.ok.kind hg (Calls.loadGlobal_global (by rw [I.ok.glob]; exact I.mod.glob.keeps I.bk) hm h) hd
theorem ld_blt {E : Value → Shared → Prop} {pins : List (Addr × Obj)} {s : Shared} {σ : St} {H : Hp} {x : Str} {u : Value} {pos : Pos} {Q : Value → Shared → Prop} (I : Inv X pins σ H s) (hg : Gl X x) (hm : X.mg x = none) (hv : bootBuiltins x = some u) (h : Q u s)
    (hn : x ≠ "__name__" := by decide) (hd : (x == ("__debug__" : Str)) = false := by decide) : wpAny (model X.prog X.w) X.A (eval (.Name x pos) X.env) Q E s := by
  obtain ⟨mb, h1, h2⟩ := I.mod.blt
  exact Calls.Name_function_global I.ok.kind hg (Calls.loadGlobal_builtin (by rw [I.ok.glob]; exact I.mod.glob.keeps I.bk) hm (by rw [I.ok.blt]; exact h1.keeps I.bk) ((h2 x hn).trans hv) h) hd

theorem pe_glob {x : Str} {v : V} {u : Value} {pos : Pos} (hg : Gl X x) (hm : X.mg x = some u) (r : RelV v u) (hd : (x == ("__debug__" : Str)) = false := by decide) : PE X (.Name x pos) (tC v) :=
  fun _ _ _ H _ I h => ld_glob I hg hm ⟨v, H, I, r, h⟩ hd
theorem pe_bltn {x : Str} {v : V} {u : Value} {pos : Pos} (hg : Gl X x) (hm : X.mg x = none) (hv : bootBuiltins x = some u) (r : RelV v u) (hn : x ≠ "__name__" := by decide) (hd : (x == ("__debug__" : Str)) = false := by decide) : PE X (.Name x pos) (tC v) :=
  fun _ _ _ H _ I h => ld_blt I hg hm hv ⟨v, H, I, r, h⟩ hn hd



variable {a b : Expr} {ta tb : TE} {pos : Pos}
variable {tA tB' : TT} {rest : List Expr}
def tAnd (t u : TT) : TT := fun σ H Q => t σ H fun c H1 => if c = true then u σ H1 Q else Q false H1
def tOr (t u : TT) : TT := fun σ H Q => t σ H fun c H1 => if c = true then Q true H1 else u σ H1 Q
def tNot (t : TT) : TT := fun σ H Q => t σ H fun c H1 => Q (!c) H1
theorem pw_and1 (ha : PT X a tA) : PW X (.BoolOp .And [a] pos) tA := by
  intro wh pins s σ H Q I h
  refine isTrue_and (thn (ha pins s σ H Q I h) fun c s1 e => ?_)
  cases c with
  | true => exact isTrue_and_nil e
  | false => exact e
theorem pw_or1 (ha : PT X a tA) : PW X (.BoolOp .Or [a] pos) tA := by
  intro wh pins s σ H Q I h
  refine isTrue_or (thn (ha pins s σ H Q I h) fun c s1 e => ?_)
  cases c with
  | false => exact isTrue_or_nil e
  | true => exact e
theorem pw_and (ha : PT X a tA) (hb : PW X (.BoolOp .And (b :: rest) pos) tB') : PW X (.BoolOp .And (a :: b :: rest) pos) (tAnd tA tB') := by
  intro wh pins s σ H Q I h
  refine isTrue_and (thn (ha pins s σ H _ I h) fun c s1 ⟨H1, I1, q1⟩ => ?_)
  cases c with
  | true => exact hb wh pins s1 σ H1 Q I1 q1
  | false => exact ⟨H1, I1, q1⟩
theorem pw_or (ha : PT X a tA) (hb : PW X (.BoolOp .Or (b :: rest) pos) tB') : PW X (.BoolOp .Or (a :: b :: rest) pos) (tOr tA tB') := by
  intro wh pins s σ H Q I h
  refine isTrue_or (thn (ha pins s σ H _ I h) fun c s1 ⟨H1, I1, q1⟩ => ?_)
  cases c with
  | true => exact ⟨H1, I1, q1⟩
  | false => exact hb wh pins s1 σ H1 Q I1 q1
theorem pt_not (ha : PT X a tA) : PT X (.UnaryOp .Not a pos) (tNot tA) := by
  intro pins s σ H Q I h
  exact isTrue_not (ha pins s σ H (fun c H1 => Q (!c) H1) I h)

def tAndV (ta tb : TE) : TE := fun σ H Q => ta σ H fun x H1 => ∃ c, x = .bl c ∧ if c = true then tb σ H1 Q else Q (.bl false) H1
def tNotV (ta : TE) : TE := fun σ H Q => ta σ H fun x H1 => ∃ c, x = .bl c ∧ Q (.bl (!c)) H1
theorem pe_one {op} {t : TE} (h : PE X a t) : PE X (.BoolOp op [a] pos) t := fun pins s σ H Q I hw => BoolOp_one (h pins s σ H Q I hw)
theorem pe_and (ha : PE X a ta) (hb : PE X (.BoolOp .And (b :: rest) pos) tb) : PE X (.BoolOp .And (a :: b :: rest) pos) (tAndV ta tb) := by
  intro pins s σ H Q I h
  refine BoolOp_and (thn (ha pins s σ H _ I h) fun v s1 ⟨x, H1, I1, r1, q1⟩ => ?_)
  obtain ⟨c, rfl, q1⟩ := q1
  cases r1
  refine wpAny_truthy_bool ?_
  cases c with
  | true => exact hb pins s1 σ H1 Q I1 q1
  | false => exact ⟨.bl false, H1, I1, rfl, q1⟩
theorem pe_not (ha : PE X a ta) : PE X (.UnaryOp .Not a pos) (tNotV ta) := by
  intro pins s σ H Q I h
  refine UnaryOp_ (thn (ha pins s σ H _ I h) fun v s1 ⟨x, H1, I1, r1, q1⟩ => ?_)
  obtain ⟨c, rfl, q1⟩ := q1
  cases r1
  exact not_of (wpAny_truthy_bool ⟨.bl (!c), H1, I1, rfl, q1⟩)

end
end L2

namespace L2
open PySem PySem.Spec PyProof.Rows


def SqL (K : PySem.W.Frag) (H : Hp) (a : Addr) (xs : List V) : Prop :=
  Rd H a (.lst xs) ∨
    ∃ (o : Obj) (its : Array Value) (n : Nat), K.lookup a = some o ∧ o.cls = .type "list" ∧ o.dict = none ∧ o.data = .seq its n ∧ its.size ≤ sizeLine ∧ Vals xs its.toList
def SqT (K : PySem.W.Frag) (H : Hp) (a : Addr) (xs : List V) : Prop :=
  Rd H a (.tup xs) ∨
    ∃ (o : Obj) (its : Array Value) (n : Nat), K.lookup a = some o ∧ o.cls = .type "tuple" ∧ o.data = .seq its n ∧ its.size ≤ sizeLine ∧ Vals xs its.toList
section
variable {X : Cx} {pins : List (Addr × Obj)} {σ : St} {H : Hp} {s : Shared} {a : Addr} {xs ys : List V}
theorem SqL.of {K : PySem.W.Frag} (h : H a = some (.lst xs)) : SqL K H a xs := .inl (.inl h)
theorem SqT.of {K : PySem.W.Frag} (h : H a = some (.tup xs)) : SqT K H a xs := .inl (.inl h)
theorem Inv.list (I : Inv X pins σ H s) (h : SqL X.K H a xs) : ∃ its : List Value, Vals xs its ∧ PlainL s.heap a its.toArray ∧ xs.length ≤ sizeLine := by
  rcases h with h | ⟨o, its, n, hk, hc, hd, hs, hz, r⟩
  · obtain ⟨z, its, n, r, e⟩ := h.ok I.hok
    exact ⟨its, r, ⟨_, n, e, rfl, rfl, rfl⟩, z⟩
  · refine ⟨its.toList, r, ⟨o, n, I.kIn a o hk, hc, hd, by simpa using hs⟩, ?_⟩
    have e := r.length
    simp only [Array.length_toList] at e
    omega
theorem Inv.tuple (I : Inv X pins σ H s) (h : SqT X.K H a xs) : ∃ its : List Value, Vals xs its ∧ IsTup s.heap a its.toArray ∧ xs.length ≤ sizeLine := by
  rcases h with h | ⟨o, its, n, hk, hc, hs, hz, r⟩
  · obtain ⟨z, its, r, p⟩ := h.ok I.hok
    exact ⟨its, r, p.tup, z⟩
  · refine ⟨its.toList, r, ⟨o, I.kIn a o hk, hc, n, by simpa using hs⟩, ?_⟩
    have e := r.length
    simp only [Array.length_toList] at e
    omega
end


abbrev Cx.wish (X : Cx) (E : Value → Shared → Prop) : Cx := { X with xe := E }

abbrev Cx.nox (X : Cx) : Cx := X.wish fun _ _ => False
theorem Cx.Ok.wish {X : Cx} (ok : X.Ok) (E : Value → Shared → Prop) : (X.wish E).Ok :=
  ⟨ok.mod, ok.kind, ok.glob, ok.blt, ok.above, ok.inj, ok.has, ok.cab, ok.hd, ok.frames, ok.stk, ok.exf, ok.bs, ok.bsz, ok.noex, ok.exfs, ok.funs, ok.frf⟩
theorem Cx.Ok.unwish {X : Cx} {E : Value → Shared → Prop} (ok : (X.wish E).Ok) : X.Ok :=
  ⟨ok.mod, ok.kind, ok.glob, ok.blt, ok.above, ok.inj, ok.has, ok.cab, ok.hd, ok.frames, ok.stk, ok.exf, ok.bs, ok.bsz, ok.noex, ok.exfs, ok.funs, ok.frf⟩
section
variable {X : Cx} {pins : List (Addr × Obj)} {σ : St} {H : Hp} {s : Shared} {E : Value → Shared → Prop}
theorem Inv.wish (I : Inv X pins σ H s) (E : Value → Shared → Prop) : Inv (X.wish E) pins σ H s := ⟨I.ok.wish E, I.os, I.bare, I.base, I.loc, I.cell, I.free, I.freeC, I.pin, I.hok, I.len⟩
theorem Inv.unwish (I : Inv (X.wish E) pins σ H s) : Inv X pins σ H s := ⟨I.ok.unwish, I.os, I.bare, I.base, I.loc, I.cell, I.free, I.freeC, I.pin, I.hok, I.len⟩
theorem SP.unwish {D : Ends} {f : Flow} {s' : Shared} (h : SP (X.wish E) pins D f s') : SP X pins D f s' := by
  cases f with
  | next => obtain ⟨σ', H', I, q⟩ := h; exact ⟨σ', H', I.unwish, q⟩
  | brk => obtain ⟨σ', H', I, q⟩ := h; exact ⟨σ', H', I.unwish, q⟩
  | cont => obtain ⟨σ', H', I, q⟩ := h; exact ⟨σ', H', I.unwish, q⟩
  | ret u => obtain ⟨v, σ', H', I, r, q⟩ := h; exact ⟨v, σ', H', I.unwish, r, q⟩
theorem PSs.nox {st : List Stmt} {t : TS} (h : PSs X.nox st t) : PSs X st t := fun pins s σ H D I hw =>
  wpAny_mono (h pins s σ H D (I.wish _) hw) (fun _ _ q => q.unwish) fun _ _ z => False.elim z
end


section
variable {X : Cx} {st : Stmt} {rest : List Stmt} {t u : TS} {e : Expr} {te : TE} {pos : Pos}
def tNext : TS := fun D σ H => D.nx σ H
def tSeq (t u : TS) : TS := fun D σ H => t { D with nx := u D } σ H
theorem pss_nil : PSs X [] tNext := fun _ _ σ H _ I h => wpAny_execs_nil ⟨σ, H, I, h⟩
theorem pss_cons (h1 : PS X st t) (h2 : PSs X rest u) : PSs X (st :: rest) (tSeq t u) := by
  intro pins s σ H D I h
  refine wpAny_execs_cons (thn (h1 pins s σ H { D with nx := u D } I h) fun f s1 q => ?_)
  cases f with
  | next =>
    obtain ⟨σ', H', I', q⟩ := q
    exact h2 pins s1 σ' H' D I' q
  | ret v => exact q
  | brk => exact q
  | cont => exact q
theorem pss_one (h1 : PS X st t) : PSs X [st] t := by
  intro pins s σ H D I h
  refine wpAny_execs_cons (thn (h1 pins s σ H D I h) fun f s1 q => ?_)
  cases f with
  | next => exact wpAny_execs_nil q
  | ret v => exact q
  | brk => exact q
  | cont => exact q
theorem Inv.quiet {pins : List (Addr × Obj)} {σ : St} {H : Hp} {s : Shared} (I : Inv X pins σ H s) : interactive X.env = false := by simp [interactive, I.ok.kind]

def tDrop (te : TE) : TS := fun D σ H => te σ H fun _ H1 => D.nx σ H1
theorem ps_expr (he : PE X e te) (hs : swapsWith e none pos.line X.env = pure false := by rfl) : PS X (.Expr e pos) (tDrop te) := by
  intro pins s σ H D I h
  exact wpAny_Expr_any (thn (he pins s σ H _ I h) fun v s1 ⟨x, H1, I1, r1, q1⟩ => ⟨σ, H1, I1, q1⟩) I.quiet hs
def tRet (te : TE) : TS := fun D σ H => te σ H D.rt
theorem ps_ret (he : PE X e te) : PS X (.Return (some e) pos) (tRet te) := by
  intro pins s σ H D I h
  exact wpAny_Return_some (thn (he pins s σ H _ I h) fun v s1 ⟨x, H1, I1, r1, q1⟩ => ⟨x, σ, H1, I1, r1, q1⟩)
def tIfS (c : TT) (t u : TS) : TS := fun D σ H => c σ H fun b H1 => if b = true then t D σ H1 else u D σ H1
theorem ps_if {c : Expr} {a b : List Stmt} {tc : TT} (hc : PT X c tc) (ha : PSs X a t) (hb : PSs X b u) : PS X (.If c a b pos) (tIfS tc t u) := by
  intro pins s σ H D I h
  refine wpAny_If (thn (hc pins s σ H _ I h) fun d s1 ⟨H1, I1, q1⟩ => ?_)
  cases d with
  | true => exact ha pins s1 σ H1 D I1 q1
  | false => exact hb pins s1 σ H1 D I1 q1

end


abbrev TG := V → St → Hp → (St → Hp → Prop) → Prop
def PG (X : Cx) (target : Expr) (t : TG) : Prop :=
  ∀ (pins : List (Addr × Obj)) (s : Shared) (σ : St) (H : Hp) (v : V) (u : Value) (Q : St → Hp → Prop), Inv X pins σ H s → RelV v u → t v σ H Q →
    wpAny (model X.prog X.w) X.A (assign target X.env u) (fun _ s' => ∃ σ' H', Inv X pins σ' H' s' ∧ Q σ' H') X.xe s

section
variable {X : Cx} {pos : Pos}
def gName (i : Nat) : TG := fun v σ H Q => Q (σ.set i (some v)) H
theorem pg_name {i : Nat} {x : Str} (hN : X.N.Nodup) (hi : X.N[i]? = some x) (hx : Loc X.env.scope x) (hf : X.fn x = true ∨ X.env.scope.names.lookup x = some .local := by first | exact .inl rfl | exact .inr rfl | assumption) : PG X (.Name x pos) (gName i) := by
  intro pins s σ H v u Q I r h
  exact wpAny_assign_Name (store_ok I hN hi hx r (fun s' I' => ⟨_, H, I', h⟩) hf)
def tAsg (te : TE) (g : TG) : TS := fun D σ H => te σ H fun x H1 => g x σ H1 D.nx
theorem ps_set {i : Nat} {x : Str} {e : Expr} {te : TE} {pos' : Pos} (hN : X.N.Nodup) (hi : X.N[i]? = some x) (hx : Loc X.env.scope x) (he : PE X e te) (hs : swapsWith e (some (.Name x pos')) pos.line X.env = pure false := by rfl) (hf : X.fn x = true ∨ X.env.scope.names.lookup x = some .local := by first | exact .inl rfl | exact .inr rfl | assumption) :
    PS X (.Assign [.Name x pos'] e pos) (tAsg te (gName i)) := by
  intro pins s σ H D I h
  refine wpAny_Assign_Name (thn (he pins s σ H _ I h) fun v s1 ⟨y, H1, I1, r1, q1⟩ => ?_) hs
  exact store_ok I1 hN hi hx r1 (fun s2 I2 => ⟨_, H1, I2, q1⟩) hf

end


section
variable {X : Cx} {pos : Pos}

end



structure It where
  go : Nat → Hp → Prop
  yld : Nat → Hp → V → Hp → Prop
  stop : Nat → Hp → Prop

def FpOk (X : Cx) (pins : List (Addr × Obj)) (H : Hp) (b : Addr) : Prop :=
  H b = none ∧ b ≠ X.env.locals ∧ b ∉ X.fs ∧ (b ∈ X.ex ∨ X.s₀.heap.objs.size ≤ b) ∧ (∀ x c, X.env.cells.lookup x = some c → c ≠ b) ∧ ∀ p ∈ X.pn ++ pins, p.1 ≠ b
theorem Inv.fpOk {X : Cx} {pins : List (Addr × Obj)} {σ : St} {H H' : Hp} {s : Shared} {b : Addr} (I : Inv X pins σ H s) (hb : s.heap.objs.size ≤ b) (hn : H' b = none) : FpOk X pins H' b := by
  refine ⟨hn, Nat.ne_of_gt (Nat.lt_of_lt_of_le I.lt hb), I.nofs hb, .inr (Nat.le_trans I.sz hb), fun x c e z => ?_, fun p hp z => ?_⟩
  · obtain ⟨v, q⟩ := I.cell x c e
    exact absurd (Nat.lt_of_lt_of_le q.lt (by rw [z]; exact hb)) (Nat.lt_irrefl _)
  · exact absurd (Nat.lt_of_lt_of_le (Heap.lt_size (I.pin p hp).1) (by rw [z]; exact hb)) (Nat.lt_irrefl _)
structure Turn (P : Program) (w : World) (K : PySem.W.Frag) (tg : Expr) (J : It) (fp : List Addr) (it : Addr) (tn : Nat → Heap → Prop) : Prop where
  mem : it ∈ fp
  obj : ∀ i h, tn i h → ∀ b ∈ fp, ∃ o, h.get? b = some o ∧ ∀ v, o.data ≠ .cell v
  keep : ∀ i h h', tn i h → (∀ b ∈ fp, ∀ o, h.get? b = some o → h'.get? b = some o) → tn i h'
  item : ∀ (X : Cx), X.prog = P → X.w = w → X.K = K → X.calm = true → ∀ (i : Nat) (pins : List (Addr × Obj)) (s : Shared) (σ : St) (H : Hp) (E : Value → Shared → Prop), Inv X pins σ H s → (∀ b ∈ fp, FpOk X pins H b) → tn i s.heap → J.go i H →
    wpAny (model P w) X.A (pyNext (.ref it)) (fun r s1 => ∃ u, r = some u ∧
      wpAny (model P w) X.A (letOwnedTupleGo tg (.ref it) u) (fun _ s2 => ∃ x H', Inv X pins σ H' s2 ∧ RelV x u ∧ J.yld i H x H' ∧ tn (i + 1) s2.heap ∧ ∀ b ∈ fp, H' b = none) E s1) E s
  done : ∀ (X : Cx), X.prog = P → X.w = w → X.K = K → X.calm = true → ∀ (i : Nat) (pins : List (Addr × Obj)) (s : Shared) (σ : St) (H : Hp) (E : Value → Shared → Prop), Inv X pins σ H s → (∀ b ∈ fp, FpOk X pins H b) → tn i s.heap → J.stop i H →
    wpAny (model P w) X.A (pyNext (.ref it)) (fun r s1 => r = none ∧ Inv X pins σ H s1) E s
  self : ∀ (A : Around) (i : Nat) (s : Shared) (Q : Value → Shared → Prop) (E : Value → Shared → Prop), tn i s.heap → Q (.ref it) s → wpAny (model P w) A (pyIter (.ref it)) Q E s
abbrev TI := St → Hp → (It → Hp → Prop) → Prop

def PIE (X : Cx) (pins : List (Addr × Obj)) (σ : St) (tg : Expr) (R : It → Hp → Prop) (itv : Value) (s2 : Shared) : Prop :=
  ∃ (it : Addr) (fp : List Addr) (tn : Nat → Heap → Prop) (J : It) (H' : Hp), itv = .ref it ∧ Inv X pins σ H' s2 ∧ Turn X.prog X.w X.K tg J fp it tn ∧ tn 0 s2.heap ∧ (∀ b ∈ fp, FpOk X pins H' b) ∧ R J H'
def PI (X : Cx) (tg iter : Expr) (wi : TI) : Prop :=
  ∀ (pins : List (Addr × Obj)) (s : Shared) (σ : St) (H : Hp) (R : It → Hp → Prop), Inv X pins σ H s → wi σ H R →
    wpAny (model X.prog X.w) X.A (eval iter X.env) (fun v s1 => wpAny (model X.prog X.w) X.A (pyIter v) (PIE X pins σ tg R) X.xe s1) X.xe s


theorem go_of {M : Model} {A : Around} {E : Value → Shared → Prop} {s : Shared} {tg : Expr} {it : Addr} {u : Value} {o : Obj} {n : String} {vs : Array Value} {Q : Unit → Shared → Prop} (ho : s.heap.get? it = some o) (hc : o.cls = .type n) (hd : o.data = .fields vs)
    (hn : ["enumerate", "zip", "dict_itemiterator", "dict_reverseitemiterator", "odict_iterator", "itertools.zip_longest", "itertools.pairwise"].contains n = false) (hQ : Q () s) : wpAny M A (letOwnedTupleGo tg (.ref it) u) Q E s := by
  unfold letOwnedTupleGo
  cases tg <;> first
    | exact wpAny_pure hQ
    | (cases u <;> first
        | exact wpAny_pure hQ
        | (refine wpAny_bind (wpAny_load ho ?_)
           rw [hc, hd]
           show wpAny M A (if (["enumerate", "zip", "dict_itemiterator", "dict_reverseitemiterator", "odict_iterator", "itertools.zip_longest", "itertools.pairwise"].contains n && vs[0]? == some (rawInt _)) = true then _ else _) Q E s
           rw [if_neg (by intro h; rw [hn, Bool.false_and] at h; cases h)]
           exact wpAny_pure hQ))


def Itr (lo : Int) (n : Nat) : It := ⟨fun i _ => i < n, fun i H x H' => H' = H ∧ x = .int (lo + i), fun i _ => n ≤ i⟩
theorem turn_range {P : Program} {w : World} {K : PySem.W.Frag} {tg : Expr} (it : Addr) (lo : Int) (n : Nat) : Turn P w K tg (Itr lo n) [it] it (fun i h => IsRangeIter h it (lo + (i : Nat) * 1) ((n : Int) - (i : Nat)) 1) where
  mem := by simp
  obj := fun i h st b hb => by
    have e : b = it := by simpa using hb
    subst e
    exact ⟨_, st, fun v z => by
      have z' : Data.fields _ = Data.cell v := z
      cases z'⟩
  keep := fun i h h' st k => k it (by simp) _ st
  item := by
    intro X hP hw hK hc i pins s σ H E I hf st hg
    subst hP hw hK
    obtain ⟨f0, f1, f2, f3, f4, f5⟩ := hf it (by simp)
    have W := Walks.range (prog := X.prog) (w := X.w) (I.ok.hd hc) it lo 1 n
    refine W.item i s _ _ hg st fun v h' tk hv st' kk => ?_
    obtain ⟨t, rfl⟩ := hv
    have I1 : Inv X pins σ H { s with heap := h', toks := tk } := I.turned (fun b o hb e => kk b o (by simpa using hb) e) f0 f1 f3 f4 f5
    refine ⟨_, rfl, go_of (s := { s with heap := h', toks := tk }) (n := "range_iterator") st' rfl rfl (by decide) ⟨.int (lo + i), H, I1, ⟨t, ?_⟩, ⟨rfl, rfl⟩, st', fun b hb => (hf b hb).1⟩⟩
    rw [Int.mul_one]
  done := by
    intro X hP hw hK hc i pins s σ H E I hf st hg
    subst hP hw hK
    obtain ⟨f0, f1, f2, f3, f4, f5⟩ := hf it (by simp)
    exact wpAny_pyNext_range_end (I.ok.hd hc) st (by have : n ≤ i := hg; omega) fun h' eb => ⟨rfl, I.turned (t' := s.toks) (fun b o hb e => eb b o hb e) f0 f1 f3 f4 f5⟩
  self := fun _ _ _ _ _ st h => wpAny_pyIter_rangeiter st h
end L2

namespace L2
open PySem PySem.Spec PyProof.Rows
section
variable {X : Cx} {tg : Expr}
theorem range_it {pins : List (Addr × Obj)} {σ : St} {H : Hp} {s : Shared} {R : It → Hp → Prop} {E : Value → Shared → Prop} {lo hi : Int} {t u v : Tok} {tk : Nat} (I : Inv X pins σ H s) (h1 : -(2 ^ 62) ≤ lo) (h2 : lo < 2 ^ 62) (h3 : -(2 ^ 62) ≤ hi) (h4 : hi < 2 ^ 62)
    (q : R (Itr lo (hi - lo).toNat) H) : wpAny (model X.prog X.w) X.A (pyIter (.ref s.heap.objs.size)) (PIE X pins σ tg R) E { s with heap := s.heap.push { cls := .type "range", data := .fields #[.int lo t, .int hi u, .int 1 v] }, toks := tk } := by
  refine wpAny_pyIter_range (IsRange.new ..) (small_one h1 h2 h3 h4) ?_
  have I1 : Inv X pins σ H { s with heap := s.heap.push { cls := .type "range", data := .fields #[.int lo t, .int hi u, .int 1 v] }, toks := tk } := I.kept fun b o e => Heap.get?_push_of_some _ e
  refine ⟨(s.heap.push { cls := .type "range", data := .fields #[.int lo t, .int hi u, .int 1 v] }).objs.size, [(s.heap.push { cls := .type "range", data := .fields #[.int lo t, .int hi u, .int 1 v] }).objs.size], _, _, H, rfl,
    I1.kept (t' := tk) fun b o e => Heap.get?_push_of_some _ e, turn_range _ lo (hi - lo).toNat, ?_, fun b hb => ?_, q⟩
  · have e1 : lo + ((0 : Nat) : Int) * 1 = lo := by simp
    have e2 : (((hi - lo).toNat : Nat) : Int) - ((0 : Nat) : Int) = Builtin.Range.rangeSize lo hi 1 := by rw [rangeSize_one]; split <;> omega
    show IsRangeIter _ _ (lo + ((0 : Nat) : Int) * 1) ((((hi - lo).toNat : Nat) : Int) - ((0 : Nat) : Int)) 1
    rw [e1, e2]
    exact Heap.get?_push_size _ rfl
  · have e : b = (s.heap.push { cls := .type "range", data := .fields #[.int lo t, .int hi u, .int 1 v] }).objs.size := by simpa using hb
    subst e
    exact I1.fpOk (Nat.le_refl _) (I1.hok.fresh (Nat.le_refl _))
def iRng1 (ta : TA) : TI := fun σ H R => ta σ H fun vs H1 => ∃ j : Int, vs = [.int j] ∧ -(2 ^ 62) ≤ j ∧ j < 2 ^ 62 ∧ R (Itr 0 j.toNat) H1
theorem pi_range1 {a : Expr} {ta : TA} {p pos : Pos} (hg : Gl X "range") (hm : X.mg "range" = none) (ha : PA X [a] ta) (hs : starEach [a] X.env = [(false, eval a X.env)] := by rfl) : PI X tg (.Call (.Name "range" p) [a] [] pos) (iRng1 ta) := by
  intro pins s σ H R I h
  refine Call_ (ld_blt I hg hm boot_range (PyProof.Rows.callWith_type1 (thn (ha pos pins s σ H _ I h) fun us s1 ⟨vs, H1, I1, r1, q1⟩ => ?_) hs rfl))
  obtain ⟨j, e, q1, q2, q⟩ := q1
  subst e
  cases r1 with
  | cons r rr =>
    cases rr
    obtain ⟨t, rfl⟩ := r
    exact call_range_1 (range_it I1 (by omega) (by omega) q1 q2 (by simpa using q))
def tFor (wi : TI) (g : TG) (tb : TS) : TS := fun D σ H => wi σ H fun J H1 => ∃ W : Nat → Nat → St → Hp → Prop, (∃ m, W 0 m σ H1) ∧ ∀ i m σ H, W i m σ H →
  (J.stop i H ∧ D.nx σ H) ∨ (J.go i H ∧ ∃ N : St → Hp → Prop, (∀ σ' H', N σ' H' → ∃ m', m' < m ∧ W (i + 1) m' σ' H') ∧ ∀ x H', J.yld i H x H' → g x σ H' fun σ2 H2 => tb { D with nx := N, ct := N, bk := D.nx } σ2 H2)

def pinsAt (fp : List Addr) (h : Heap) : List (Addr × Obj) := fp.filterMap fun b => (h.get? b).map fun o => (b, o)
theorem mem_pinsAt {fp : List Addr} {h : Heap} {b : Addr} {o : Obj} (hb : b ∈ fp) (e : h.get? b = some o) : (b, o) ∈ pinsAt fp h := List.mem_filterMap.mpr ⟨b, hb, by rw [e]; rfl⟩
theorem of_pinsAt {fp : List Addr} {h : Heap} {p : Addr × Obj} (hp : p ∈ pinsAt fp h) : p.1 ∈ fp ∧ h.get? p.1 = some p.2 := by
  obtain ⟨b, hb, e⟩ := List.mem_filterMap.mp hp
  cases q : h.get? b with
  | none => rw [q] at e; cases e
  | some o =>
    rw [q] at e
    have e' : (b, o) = p := Option.some.inj e
    subst e'
    exact ⟨hb, q⟩
theorem Inv.pinned {pins : List (Addr × Obj)} {σ : St} {H : Hp} {s : Shared} {fp : List Addr} (I : Inv X pins σ H s) (hf : ∀ b ∈ fp, FpOk X pins H b) (ho : ∀ b ∈ fp, ∃ o, s.heap.get? b = some o ∧ ∀ v, o.data ≠ .cell v) : Inv X (pins ++ pinsAt fp s.heap) σ H s :=
  I.pins_of fun p hp => (List.mem_append.mp hp).elim (fun z => I.pin p (List.mem_append_right _ z)) fun z => by
    obtain ⟨hb, e⟩ := of_pinsAt z
    obtain ⟨f0, f1, f2, _⟩ := hf p.1 hb
    obtain ⟨o, e', d⟩ := ho p.1 hb
    rw [e] at e'; cases e'
    exact ⟨e, f0, f1, f2, d⟩
theorem Inv.unpinned {pins pl : List (Addr × Obj)} {σ : St} {H : Hp} {s : Shared} (I : Inv X (pins ++ pl) σ H s) : Inv X pins σ H s := I.pins_of fun p hp => I.pin p (List.mem_append_right _ (List.mem_append_left _ hp))
theorem ps_for {iter : Expr} {body : List Stmt} {wi : TI} {g : TG} {tb : TS} {pos : Pos} (hp : PassesOwn (model X.prog X.w) X.A X.env X.xe) (hc : X.calm = true) (hi : PI X tg iter wi) (hg : PG X tg g) (hb : PSs X body tb)
    (hs : ∀ x, foldedSetIterable iter X.env x = pure x := by intro _; rfl) : PS X (.For tg iter body [] pos) (tFor wi g tb) := by
  intro pins s σ H D I h
  refine wpAny_For (thn (hi pins s σ H _ I h) fun v s1 h1 => thn h1 fun itv s2 h2 => ?_) hs
  obtain ⟨it, fp, tn, J, H2, e, I2, T, st2, f2, W, ⟨m0, w0⟩, turn⟩ := h2
  subst e
  -- what stays true of the iterator's objects through the loop
  have stat : ∀ {H' : Hp}, (∀ b ∈ fp, H' b = none) → ∀ b ∈ fp, FpOk X pins H' b := fun hn b hb => ⟨hn b hb, (f2 b hb).2⟩
  refine codeAny_forLoop_any (fun n s' => ∃ i σ' H', Inv X pins σ' H' s' ∧ tn i s'.heap ∧ (∀ b ∈ fp, H' b = none) ∧ W i n σ' H') ?_ m0 ⟨0, σ, H2, I2, st2, fun b hb => (f2 b hb).1, w0⟩
  rintro n s3 ⟨i, σ3, H3, I3, st3, fr3, w3⟩
  rcases turn i n σ3 H3 w3 with ⟨stop, qn⟩ | ⟨go, N, hN, step⟩
  · refine wpAny_passesOwn hp (thn (T.done X rfl rfl rfl hc i pins s3 σ3 H3 X.xe I3 (stat fr3) st3 stop) fun r s4 ⟨hr, I4⟩ => ?_)
    subst hr
    exact wpAny_execs_nil ⟨σ3, H3, I4, qn⟩
  · refine wpAny_passesOwn hp (thn (T.item X rfl rfl rfl hc i pins s3 σ3 H3 X.xe I3 (stat fr3) st3 go) fun r s4 ⟨u, hr, h4⟩ => ?_)
    subst hr
    refine wpAny_passesOwn hp (thn h4 fun _ s5 ⟨x, H5, I5, r5, y5, st5, fr5⟩ => ?_)
    have I5' := I5.pinned (stat fr5) (T.obj _ _ st5)
    refine wpAny_passesOwn hp (thn (hg _ s5 σ3 H5 x u _ I5' r5 (step x H5 y5)) fun _ s6 ⟨σ6, H6, I6, q6⟩ => ?_)
    refine wpAny_passesOwn hp (thn (hb _ s6 σ6 H6 _ I6 q6) fun f s7 q7 => ?_)
    have again : ∀ {σ7 : St} {H7 : Hp}, Inv X (pins ++ pinsAt fp s5.heap) σ7 H7 s7 → N σ7 H7 → ∃ m, m < n ∧ ∃ i σ' H', Inv X pins σ' H' s7 ∧ tn i s7.heap ∧ (∀ b ∈ fp, H' b = none) ∧ W i m σ' H' := fun {σ7 H7} I7 n7 => by
      obtain ⟨m', hm, w7⟩ := hN σ7 H7 n7
      refine ⟨m', hm, i + 1, σ7, H7, I7.unpinned, T.keep _ _ _ st5 fun b hb o e => (I7.pin (b, o) (List.mem_append_right _ (List.mem_append_right _ (mem_pinsAt hb e)))).1, fun b hb => ?_, w7⟩
      obtain ⟨o, e, d⟩ := T.obj _ _ st5 b hb
      exact (I7.pin (b, o) (List.mem_append_right _ (List.mem_append_right _ (mem_pinsAt hb e)))).2.1
    cases f with
    | next => obtain ⟨σ7, H7, I7, n7⟩ := q7; exact again I7 n7
    | cont => obtain ⟨σ7, H7, I7, n7⟩ := q7; exact again I7 n7
    | brk => obtain ⟨σ7, H7, I7, q7⟩ := q7; exact ⟨σ7, H7, I7.unpinned, q7⟩
    | ret v => obtain ⟨x7, σ7, H7, I7, r7, q7⟩ := q7; exact ⟨x7, σ7, H7, I7.unpinned, r7, q7⟩
end



theorem for_range {lo : Int} {n : Nat} {g : TG} {tb : TS} {D : Ends} {σ : St} {H : Hp} (Pv : Nat → St → Hp → Prop) (h0 : Pv 0 σ H)
    (hs : ∀ i σ H, i < n → Pv i σ H → g (.int (lo + i)) σ H fun σ2 H2 => tb { D with nx := Pv (i + 1), ct := Pv (i + 1), bk := D.nx } σ2 H2) (hd : ∀ σ H, Pv n σ H → D.nx σ H) :
    ∃ W : Nat → Nat → St → Hp → Prop, (∃ m, W 0 m σ H) ∧ ∀ i m σ H, W i m σ H →
      ((Itr lo n).stop i H ∧ D.nx σ H) ∨ ((Itr lo n).go i H ∧ ∃ N : St → Hp → Prop, (∀ σ' H', N σ' H' → ∃ m', m' < m ∧ W (i + 1) m' σ' H') ∧ ∀ x H', (Itr lo n).yld i H x H' → g x σ H' fun σ2 H2 => tb { D with nx := N, ct := N, bk := D.nx } σ2 H2) := by
  refine ⟨fun i m σ H => m = n - i ∧ i ≤ n ∧ Pv i σ H, ⟨n, by simp, Nat.zero_le _, h0⟩, ?_⟩
  rintro i m σ H ⟨rfl, hi, p⟩
  by_cases hlt : i < n
  · refine .inr ⟨hlt, Pv (i + 1), fun σ' H' p' => ⟨n - (i + 1), by omega, rfl, hlt, p'⟩, fun x H' y => ?_⟩
    obtain ⟨e, y⟩ := y
    subst e y
    exact hs i σ _ hlt p
  · have e : i = n := by omega
    subst e
    exact .inl ⟨Nat.le_refl _, hd σ H p⟩

end L2

namespace L2
open PySem PySem.Spec PyProof.Rows

abbrev R2 := V → V → Hp → VK → Prop

def OpR (X : Cx) (f : Value → Value → Sem Value) (r : R2) : Prop :=
  ∀ (pins : List (Addr × Obj)) (s : Shared) (σ : St) (H : Hp) (x y : V) (v u : Value) (Q : VK), Inv X pins σ H s → RelV x v → RelV y u → r x y H Q →
    wpAny (model X.prog X.w) X.A (f v u) (EP X pins σ Q) X.xe s

def CallR (X : Cx) (f : Value) (r : List V → Hp → VK → Prop) : Prop :=
  ∀ (pins : List (Addr × Obj)) (s : Shared) (σ : St) (H : Hp) (xs : List V) (us : List Value) (Q : VK), Inv X pins σ H s → Vals xs us → r xs H Q →
    wpAny (model X.prog X.w) X.A (call f us) (EP X pins σ Q) X.xe s

def TruR (X : Cx) (r : V → Hp → (Bool → Hp → Prop) → Prop) : Prop :=
  ∀ (pins : List (Addr × Obj)) (s : Shared) (σ : St) (H : Hp) (x : V) (v : Value) (Q : Bool → Hp → Prop), Inv X pins σ H s → RelV x v → r x H Q →
    wpAny (model X.prog X.w) X.A (truthy v) (TP X pins σ Q) X.xe s

def tOp (r : R2) (ta tb : TE) : TE := fun σ H Q => ta σ H fun x H1 => tb σ H1 fun y H2 => r x y H2 Q
def rI (C : Int → Int → Prop) (g : Int → Int → V) : R2 := fun x y H Q => ∃ i j, x = .int i ∧ y = .int j ∧ C i j ∧ Q (g i j) H
def rI0 (g : Int → Int → V) : R2 := fun x y H Q => ∃ i j, x = .int i ∧ y = .int j ∧ Q (g i j) H
section
variable {X : Cx} {a b c : Expr} {ta tb tc : TE} {pos : Pos}

theorem binT (ha : PE X a ta) (hb : PE X b tb) {pins : List (Addr × Obj)} {s : Shared} {σ : St} {H : Hp} {R : V → V → Hp → Prop} (I : Inv X pins σ H s)
    (h : ta σ H fun x H1 => tb σ H1 fun y H2 => R x y H2) {Q : Value → Shared → Prop} {f : Value → Value → Sem Value}
    (hf : ∀ v u s2 x y H2, Inv X pins σ H2 s2 → RelV x v → RelV y u → R x y H2 → wpAny (model X.prog X.w) X.A (f v u) Q X.xe s2) :
    wpAny (model X.prog X.w) X.A (eval a X.env) (fun v s₁ => wpAny (model X.prog X.w) X.A (eval b X.env) (fun u s₂ => wpAny (model X.prog X.w) X.A (f v u) Q X.xe s₂) X.xe s₁) X.xe s := by
  refine thn (ha pins s σ H _ I h) fun v s1 ⟨x, H1, I1, r1, q1⟩ => ?_
  refine thn (hb pins s1 σ H1 _ I1 q1) fun u s2 ⟨y, H2, I2, r2, q2⟩ => ?_
  exact hf v u s2 x y H2 I2 r1 r2 q2

theorem pe_op {op : Operator} {r : R2} (ho : OpR X (binaryOp op) r) (ha : PE X a ta) (hb : PE X b tb) : PE X (.BinOp a op b pos) (tOp r ta tb) := by
  intro pins s σ H Q I h
  exact wpAny_BinOp (binT ha hb I h fun v u s2 x y H2 I2 rx ry q => ho pins s2 σ H2 x y v u Q I2 rx ry q)
theorem opI {f : Value → Value → Sem Value} {C : Int → Int → Prop} {g : Int → Int → Int}
    (rule : ∀ (i j : Int) (t u : Tok) (s : Shared) (Q : Value → Shared → Prop) (E : Value → Shared → Prop), C i j → Q (.int (g i j) s.toks) { s with toks := s.toks + 1 } → wpAny (model X.prog X.w) X.A (f (.int i t) (.int j u)) Q E s) :
    OpR X f (rI C fun i j => .int (g i j)) := by
  intro pins s σ H x y v u Q I rx ry h
  obtain ⟨i, j, rfl, rfl, hc, q⟩ := h
  obtain ⟨t, rfl⟩ := rx
  obtain ⟨t', rfl⟩ := ry
  exact rule i j t t' s _ _ hc ⟨.int (g i j), H, I.tok _, ⟨_, rfl⟩, q⟩
theorem opI0 {f : Value → Value → Sem Value} {g : Int → Int → Int}
    (rule : ∀ (i j : Int) (t u : Tok) (s : Shared) (Q : Value → Shared → Prop) (E : Value → Shared → Prop), Q (.int (g i j) s.toks) { s with toks := s.toks + 1 } → wpAny (model X.prog X.w) X.A (f (.int i t) (.int j u)) Q E s) :
    OpR X f (rI0 fun i j => .int (g i j)) := by
  intro pins s σ H x y v u Q I rx ry h
  obtain ⟨i, j, rfl, rfl, q⟩ := h
  obtain ⟨t, rfl⟩ := rx
  obtain ⟨t', rfl⟩ := ry
  exact rule i j t t' s _ _ ⟨.int (g i j), H, I.tok _, ⟨_, rfl⟩, q⟩
theorem opB0 {f : Value → Value → Sem Value} {g : Int → Int → Bool}
    (rule : ∀ (i j : Int) (t u : Tok) (s : Shared) (Q : Value → Shared → Prop) (E : Value → Shared → Prop), Q (.bool (g i j)) s → wpAny (model X.prog X.w) X.A (f (.int i t) (.int j u)) Q E s) :
    OpR X f (rI0 fun i j => .bl (g i j)) := by
  intro pins s σ H x y v u Q I rx ry h
  obtain ⟨i, j, rfl, rfl, q⟩ := h
  obtain ⟨t, rfl⟩ := rx
  obtain ⟨t', rfl⟩ := ry
  exact rule i j t t' s _ _ ⟨.bl (g i j), H, I, rfl, q⟩

def CDiv (i j : Int) : Prop := 0 < j ∧ j < 1073741824
def CPow (i j : Int) : Prop := 0 ≤ j ∧ j ≤ 1000000 ∧ i.natAbs < 2 ^ 64
def CMul (i j : Int) : Prop := (-(2 ^ 64) < i ∧ i < 2 ^ 64) ∨ (-(2 ^ 64) < j ∧ j < 2 ^ 64)
theorem CMul.ok {i j : Int} (h : CMul i j) : IntMulOk i j := by
  rcases h with ⟨h1, h2⟩ | ⟨h1, h2⟩
  · exact .of_left (intBits_le_64 h1 h2)
  · exact .of_right (intBits_le_64 h1 h2)
theorem op_add : OpR X (binaryOp .Add) (rI0 fun i j => .int (i + j)) := opI0 fun _ _ _ _ _ _ _ q => add_int q
theorem op_sub : OpR X (binaryOp .Sub) (rI0 fun i j => .int (i - j)) := opI0 fun _ _ _ _ _ _ _ q => sub_int q
theorem op_mul : OpR X (binaryOp .Mult) (rI CMul fun i j => .int (i * j)) := opI fun _ _ _ _ _ _ _ hc q => mul_int q hc.ok

theorem op_fdiv : OpR X (binaryOp .FloorDiv) (rI CDiv fun i j => .int (i / j)) := opI fun i j _ _ _ _ _ hc q => by
  have h1 : (0 : Int) < j := hc.1
  have h2 : j < 1073741824 := hc.2
  exact floordiv_int (by omega) (by rw [Int.fdiv_eq_ediv_of_nonneg i (by omega)]; exact q) (.inl (PyProof.noPylong_small (by omega)))
theorem op_mod : OpR X (binaryOp .Mod) (rI (fun _ j => 0 < j) fun i j => .int (i % j)) := opI fun i j _ _ _ _ _ hc q => by
  have h1 : (0 : Int) < j := hc
  exact mod_int' (by omega) (by rw [Int.fmod_eq_emod_of_nonneg i (by omega)]; exact q)
theorem op_pow : OpR X (binaryOp .Pow) (rI CPow fun i j => .int (i ^ j.toNat)) := opI fun _ _ _ _ _ _ _ hc q => pow_int_small hc.1 hc.2.1 hc.2.2 q
end



def scal : V → V → Bool
  | .non, .non => true | .non, .int _ => true | .int _, .non => true | .non, .bl _ => true | .bl _, .non => true | .non, .str _ => true | .str _, .non => true
  | .int _, .int _ => true | .bl _, .bl _ => true | .str _, .str _ => true | .byt _, .byt _ => true
  | .int _, .str _ => true | .str _, .int _ => true | .bl _, .str _ => true | .str _, .bl _ => true
  | _, _ => false
def rEq : R2 := fun x y H Q => scal x y = true ∧ Q (.bl (decide (x = y))) H
def rNe : R2 := fun x y H Q => scal x y = true ∧ Q (.bl (!decide (x = y))) H

theorem dec_int {i j : Int} : decide (V.int i = V.int j) = (i == j) := by
  rw [Bool.eq_iff_iff]
  simp
theorem dec_bl {i j : Bool} : decide (V.bl i = V.bl j) = (i == j) := by
  rw [Bool.eq_iff_iff]
  simp
theorem dec_str {i j : Str} : decide (V.str i = V.str j) = (i == j) := by
  rw [Bool.eq_iff_iff]
  simp
theorem dec_byt {i j : Array UInt8} : decide (V.byt i = V.byt j) = (i.toList == j.toList) := by
  rw [Bool.eq_iff_iff]
  cases i
  cases j
  simp

section
variable {X : Cx} {a b c : Expr} {ta tb tc : TE} {pos : Pos}
theorem fin_bl {pins : List (Addr × Obj)} {σ : St} {H : Hp} {s : Shared} {Q : VK} {k k' : Bool} (I : Inv X pins σ H s) (q : Q (.bl k) H) (e : k = k') : EP X pins σ Q (.bool k') s := by
  subst e
  exact ⟨.bl k, H, I, rfl, q⟩
theorem op_eq : OpR X (compareOp .Eq) rEq := by
  intro pins s σ H x y v u Q I rx ry h
  obtain ⟨hs, q⟩ := h
  cases x with
  | non =>
    cases rx
    cases y with
    | non => cases ry; exact PySem.EqNone.eq_none_none (fin_bl I q (by simp))
    | bl j => cases ry; exact PySem.EqNone.eq_none_bool (fin_bl I q (by simp))
    | int j => obtain ⟨t', rfl⟩ := ry; exact PySem.EqNone.eq_none_int (fin_bl I q (by simp))
    | str j => obtain ⟨t', rfl⟩ := ry; exact PySem.EqNone.eq_none_str (fin_bl I q (by simp))
    | _ => exact absurd (show false = true from hs) Bool.false_ne_true
  | bl i =>
    cases rx
    cases y with
    | non => cases ry; exact PySem.EqNone.eq_bool_none (fin_bl I q (by simp))
    | bl j => cases ry; exact eq_bool (fin_bl I q dec_bl)
    | str j => obtain ⟨t', rfl⟩ := ry; exact PySem.EqMixed.eq_bool_str (fin_bl I q (by simp))
    | _ => exact absurd (show false = true from hs) Bool.false_ne_true
  | int i =>
    obtain ⟨t, rfl⟩ := rx
    cases y with
    | non => cases ry; exact PySem.EqNone.eq_int_none (fin_bl I q (by simp))
    | int j => obtain ⟨t', rfl⟩ := ry; exact eq_int (fin_bl I q dec_int)
    | str j => obtain ⟨t', rfl⟩ := ry; exact PySem.EqMixed.eq_int_str (fin_bl I q (by simp))
    | _ => exact absurd (show false = true from hs) Bool.false_ne_true
  | str i =>
    obtain ⟨t, rfl⟩ := rx
    cases y with
    | non => cases ry; exact PySem.EqNone.eq_str_none (fin_bl I q (by simp))
    | bl j => cases ry; exact PySem.EqMixed.eq_str_bool (fin_bl I q (by simp))
    | int j => obtain ⟨t', rfl⟩ := ry; exact PySem.EqMixed.eq_str_int (fin_bl I q (by simp))
    | str j => obtain ⟨t', rfl⟩ := ry; exact eq_str (fin_bl I q dec_str)
    | _ => exact absurd (show false = true from hs) Bool.false_ne_true
  | byt i =>
    obtain ⟨t, rfl⟩ := rx
    cases y with
    | byt j => obtain ⟨t', rfl⟩ := ry; exact PySem.W.eq_bytes (fin_bl I q dec_byt)
    | _ => exact absurd (show false = true from hs) Bool.false_ne_true
  | _ => cases y <;> exact absurd (show false = true from hs) Bool.false_ne_true
theorem op_ne : OpR X (compareOp .NotEq) rNe := by
  intro pins s σ H x y v u Q I rx ry h
  obtain ⟨hs, q⟩ := h
  cases x with
  | non =>
    cases rx
    cases y with
    | non => cases ry; exact PySem.EqNone.ne_none_none (fin_bl I q (by simp))
    | bl j => cases ry; exact PySem.EqNone.ne_none_bool (fin_bl I q (by simp))
    | int j => obtain ⟨t', rfl⟩ := ry; exact PySem.EqNone.ne_none_int (fin_bl I q (by simp))
    | str j => obtain ⟨t', rfl⟩ := ry; exact PySem.EqNone.ne_none_str (fin_bl I q (by simp))
    | _ => exact absurd (show false = true from hs) Bool.false_ne_true
  | bl i =>
    cases rx
    cases y with
    | non => cases ry; exact PySem.EqNone.ne_bool_none (fin_bl I q (by simp))
    | bl j => cases ry; exact ne_bool (fin_bl I q (congrArg not dec_bl))
    | str j => obtain ⟨t', rfl⟩ := ry; exact PySem.EqMixed.ne_bool_str (fin_bl I q (by simp))
    | _ => exact absurd (show false = true from hs) Bool.false_ne_true
  | int i =>
    obtain ⟨t, rfl⟩ := rx
    cases y with
    | non => cases ry; exact PySem.EqNone.ne_int_none (fin_bl I q (by simp))
    | int j => obtain ⟨t', rfl⟩ := ry; exact ne_int (fin_bl I q (congrArg not dec_int))
    | str j => obtain ⟨t', rfl⟩ := ry; exact PySem.EqMixed.ne_int_str (fin_bl I q (by simp))
    | _ => exact absurd (show false = true from hs) Bool.false_ne_true
  | str i =>
    obtain ⟨t, rfl⟩ := rx
    cases y with
    | non => cases ry; exact PySem.EqNone.ne_str_none (fin_bl I q (by simp))
    | bl j => cases ry; exact PySem.EqMixed.ne_str_bool (fin_bl I q (by simp))
    | int j => obtain ⟨t', rfl⟩ := ry; exact PySem.EqMixed.ne_str_int (fin_bl I q (by simp))
    | str j => obtain ⟨t', rfl⟩ := ry; exact ne_str (fin_bl I q (congrArg not dec_str))
    | _ => exact absurd (show false = true from hs) Bool.false_ne_true
  | byt i =>
    obtain ⟨t, rfl⟩ := rx
    cases y with
    | byt j => obtain ⟨t', rfl⟩ := ry; exact PySem.W.ne_bytes (fin_bl I q (congrArg not dec_byt))
    | _ => exact absurd (show false = true from hs) Bool.false_ne_true
  | _ => cases y <;> exact absurd (show false = true from hs) Bool.false_ne_true

theorem op_lt : OpR X (compareOp .Lt) (rI0 fun i j => .bl (decide (i < j))) := opB0 fun _ _ _ _ _ _ _ q => lt_int q
theorem op_le : OpR X (compareOp .LtE) (rI0 fun i j => .bl (decide (i ≤ j))) := opB0 fun _ _ _ _ _ _ _ q => le_int q
theorem op_ge : OpR X (compareOp .GtE) (rI0 fun i j => .bl (decide (j ≤ i))) := opB0 fun _ _ _ _ _ _ _ q => ge_int q
theorem nomark (b : Expr) {op : CmpOp} (h : op ≠ .In := by decide) (h2 : op ≠ .NotIn := by decide) : behindInMarks op b = false := by
  have e1 : (op == CmpOp.In) = false := by cases op <;> first | rfl | exact absurd rfl h
  have e2 : (op == CmpOp.NotIn) = false := by cases op <;> first | rfl | exact absurd rfl h2
  cases b <;> simp [behindInMarks, e1, e2]

theorem pe_cmpR {op : CmpOp} {r : R2} (ho : OpR X (compareOp op) r) (ha : PE X a ta) (hb : PE X b tb) (hm : behindInMarks op b = false) : PE X (.Compare a [op] [b] pos) (tOp r ta tb) := by
  intro pins s σ H Q I h
  exact wpAny_Compare1 (binT ha hb I h fun v u s2 x y H2 I2 rx ry q => ho pins s2 σ H2 x y v u Q I2 rx ry q) hm

def tTest (t : TE) : TT := fun σ H Q => t σ H fun x H' => ∃ k, x = .bl k ∧ Q k H'
theorem pt_cmpR {op : CmpOp} {r : R2} (ho : OpR X (compareOp op) r) (ha : PE X a ta) (hb : PE X b tb) (hm : behindInMarks op b = false) : PT X (.Compare a [op] [b] pos) (tTest (tOp r ta tb)) := by
  intro pins s σ H Q I h
  refine wpAny_isTrue_Compare1 (thn (ha pins s σ H _ I h) fun v s1 ⟨x, H1, I1, r1, q1⟩ => thn (hb pins s1 σ H1 _ I1 q1) fun u s2 ⟨y, H2, I2, r2, q2⟩ =>
    thn (ho pins s2 σ H2 x y v u _ I2 r1 r2 q2) fun c s3 ⟨z, H3, I3, r3, k, e, q3⟩ => ?_) hm
  subst e
  cases r3
  exact wpAny_truthy_bool ⟨H3, I3, q3⟩

def TruV (K : PySem.W.Frag) (x : V) (H : Hp) (k : Bool) : Prop :=
  match x with
  | .non => k = false
  | .bl b => k = b
  | .int i => k = (i != 0)
  | .str y => y.length ≤ sizeLine ∧ k = ((y.length : Int) != 0)
  | .byt y => y.size ≤ sizeLine ∧ k = ((y.size : Int) != 0)
  | .ref p => (∃ xs, SqL K H p xs ∧ k = !xs.isEmpty) ∨ (∃ xs, SqT K H p xs ∧ k = !xs.isEmpty) ∨ ∃ kvs, H p = some (.dK kvs) ∧ k = !kvs.isEmpty
  | _ => False
theorem isEmpty_kv {κ : Type} {kvs : List (κ × V)} {vs : List (κ × Value)} (r : KV kvs vs) : (!vs.isEmpty) = !kvs.isEmpty := by
  cases r <;> rfl
theorem isEmpty_of {xs : List V} {its : List Value} (r : Vals xs its) : (!its.toArray.isEmpty) = !xs.isEmpty := by
  cases r <;> simp
theorem line63 : (sizeLine : Nat) < 2 ^ 63 := by rw [sizeLine_eq]; decide
theorem tru_ok : TruR X (fun x H Q => ∃ k, TruV X.K x H k ∧ Q k H) := by
  intro pins s σ H x v Q I rx h
  obtain ⟨k, e, q⟩ := h
  have hl := line63
  have hs : sizeLine = 16777216 := sizeLine_eq
  cases x with
  | non =>
    cases rx
    have e' : k = false := e
    subst e'
    exact truthy_none ⟨H, I, q⟩
  | bl b =>
    cases rx
    have e' : k = b := e
    subst e'
    exact wpAny_truthy_bool ⟨H, I, q⟩
  | int i =>
    obtain ⟨t, rfl⟩ := rx
    have e' : k = (i != 0) := e
    subst e'
    exact PySem.P.truthy_int ⟨H, I, q⟩
  | str y =>
    obtain ⟨t, rfl⟩ := rx
    obtain ⟨hy, e'⟩ : y.length ≤ sizeLine ∧ k = ((y.length : Int) != 0) := e
    subst e'
    exact PySem.P.truthy_str (by omega) ⟨H, I.tok _, q⟩
  | byt y =>
    obtain ⟨t, rfl⟩ := rx
    obtain ⟨hy, e'⟩ : y.size ≤ sizeLine ∧ k = ((y.size : Int) != 0) := e
    subst e'
    exact PySem.W.truthy_bytes (by omega) ⟨H, I.tok _, q⟩
  | ref p =>
    cases rx
    have e' : (∃ xs, SqL X.K H p xs ∧ k = !xs.isEmpty) ∨ (∃ xs, SqT X.K H p xs ∧ k = !xs.isEmpty) ∨ ∃ kvs, H p = some (.dK kvs) ∧ k = !kvs.isEmpty := e
    rcases e' with ⟨xs, hx, e'⟩ | ⟨xs, hx, e'⟩ | ⟨kvs, hx, e'⟩
    · subst e'
      obtain ⟨its, r, pl, hz⟩ := I.list hx
      have hlen := r.length
      exact wpAny_truthy_list pl.isList (by simp only [List.size_toArray]; omega) ⟨H, I.tok _, by rw [isEmpty_of r]; exact q⟩
    · subst e'
      obtain ⟨its, r, pl, hz⟩ := I.tuple hx
      have hlen := r.length
      exact truthy_tuple pl (by simp only [List.size_toArray]; omega) ⟨H, I.tok _, by rw [isEmpty_of r]; exact q⟩
    · subst e'
      obtain ⟨hz, hS, vs, r, m⟩ : kvs.length ≤ sizeLine ∧ (p == sysModules) = false ∧ ∃ vs, KV kvs vs ∧ s.heap.DictOf (mixKind X.prog X.w) p vs := I.hok p _ hx
      have hlen : kvs.length = vs.length := Paired.length r
      exact wpAny_truthy_dict hS m (by omega) ⟨H, I.tok _, by rw [isEmpty_kv r]; exact q⟩
  | _ => exact (show False from e).elim

theorem pt_truth (ha : PE X a ta) (he : ∀ whole, isTrue a X.env whole = (do let v ← whole; standAt a.pos; holding [v] (truthy v))) :
    PT X a (fun σ H Q => ta σ H fun x H' => ∃ k, TruV X.K x H' k ∧ Q k H') := by
  intro pins s σ H Q I h
  exact isTrue_plain (thn (ha pins s σ H _ I h) fun v s1 ⟨x, H1, I1, r1, q1⟩ => tru_ok pins s1 σ H1 x v Q I1 r1 q1) (he _)


theorem vals1 {x : V} {us : List Value} (r : Vals [x] us) : ∃ u, us = [u] ∧ RelV x u := by
  cases r with
  | cons r1 r2 => cases r2; exact ⟨_, rfl, r1⟩
theorem vals2 {x y : V} {us : List Value} (r : Vals [x, y] us) : ∃ u w', us = [u, w'] ∧ RelV x u ∧ RelV y w' := by
  cases r with
  | cons r1 r2 =>
    cases r2 with
    | cons r3 r4 => cases r4; exact ⟨_, _, rfl, r1, r3⟩
theorem call_abs : CallR X (.builtin "abs") (fun xs H Q => ∃ i, xs = [.int i] ∧ Q (.int (if i < 0 then -i else i)) H) := by
  intro pins s σ H xs us Q I r h
  obtain ⟨i, rfl, q⟩ := h
  obtain ⟨u, rfl, t, rfl⟩ := vals1 r
  exact call_abs_int fun u tk => ⟨.int (if i < 0 then -i else i), H, I.tok _, ⟨_, rfl⟩, q⟩
theorem call_max2 (hc : X.calm = true) : CallR X (.builtin "max") (fun xs H Q => ∃ i j, xs = [.int i, .int j] ∧ Q (.int (if j > i then j else i)) H) := by
  intro pins s σ H xs us Q I r h
  obtain ⟨i, j, rfl, q⟩ := h
  obtain ⟨u, w', rfl, ⟨t, rfl⟩, ⟨t', rfl⟩⟩ := vals2 r
  refine max_two_ints (I.ok.hd hc) fun h' tk k => ⟨_, H, I.kept k, ?_, q⟩
  by_cases hj : j > i
  · rw [if_pos hj, if_pos hj]; exact ⟨_, rfl⟩
  · rw [if_neg hj, if_neg hj]; exact ⟨_, rfl⟩
end
end L2

namespace L2
open PySem PySem.Spec PyProof.Rows


structure ObjM (h : Heap) (x dx C : Addr) (mA : Str → Option Value) : Prop where
  obj : h.get? x = some (PySem.W.instObj C dx)
  ns : h.Ns1 dx mA
  ne : dx ≠ x

theorem lookIn_ns {h : Heap} {dx : Addr} {mA : Str → Option Value} (n : h.Ns1 dx mA) : ∃ od, h.get? dx = some od ∧ ∀ name, PySem.W.lookIn name od = some (mA name) := by
  obtain ⟨o, es, ep, ho, hd, hk, _, hm⟩ := n
  refine ⟨o, ho, fun name => ?_⟩
  have e := hm name
  unfold nsFind findBy at e
  rw [← Array.find?_toList] at e
  unfold PySem.W.lookIn
  rw [hd]
  dsimp only
  split
  · rename_i y q
    rw [q] at e
    exact congrArg some e
  · rename_i q
    rw [q] at e
    have a : es.toList.any (·.refKey) = false := by
      rw [List.any_eq_false]
      intro y hy
      obtain ⟨z, t, hkey⟩ := hk y (Array.mem_toList_iff.mp hy)
      simp [DictEntry.refKey, hkey]
    have a' : ¬ es.toList.any (·.refKey) = true := by rw [a]; exact Bool.false_ne_true
    rw [if_neg a']
    exact congrArg some e

theorem ObjM.look {h : Heap} {x dx C : Addr} {mA : Str → Option Value} (I : ObjM h x dx C mA) : ∃ od, PySem.W.InstAt h x (PySem.W.instObj C dx) C (some od) ∧ ∀ name, PySem.W.lookIn name od = some (mA name) :=
  let ⟨od, ho, hl⟩ := lookIn_ns I.ns
  ⟨od, ⟨I.obj, rfl, rfl, ho⟩, hl⟩

section
variable {prog : Program} {w : World} {A : Around} {E : Value → Shared → Prop} {s : Shared} {K : PySem.W.Frag} {x dx C f : Addr} {mA : Str → Option Value} {name : Str} {v : Value}

theorem get_map {expr : Bool} {Q : Value → Shared → Prop} (X : K.In s.heap) (I : ObjM s.heap x dx C mA) (hg : PySem.W.plainGet K C name = true) (hh : PySem.W.hasDictIn K C = true)
    (ha : PySem.W.findIn K (.ref C) name = some none) (hv : mA name = some v) (hv' : PySem.W.handedIn v = true) (h : Q v { s with toks := s.toks + 1 }) :
    wpAny (model prog w) A (getAttr (.ref x) name expr) Q E s := by
  obtain ⟨od, J, hl⟩ := I.look
  exact PySem.W.get_value X J (PySem.W.plainGet_of hg).1 (PySem.W.findObj_own hh ha rfl (by rw [hl, hv])) hv' h

theorem get_meth {pl : Sem Bool} {Q : Value × List Value → Shared → Prop} (X : K.In s.heap) (I : ObjM s.heap x dx C mA) (hg : PySem.W.plainGet K C name = true)
    (hf : PySem.W.findIn K (.ref C) name = some (some (.ref f))) (ht : PySem.W.isFn K (.ref f) = true) (hv : mA name = none) (h : Q (.ref f, [.ref x]) s) :
    wpAny (model prog w) A (getMethod (.ref x) name pl) Q E s := by
  obtain ⟨od, J, hl⟩ := I.look
  exact PySem.W.method_fn X J (PySem.W.plainGet_of hg).1 (PySem.W.plainGet_of hg).2 hf (beq_iff_eq.mp ht) (by show (PySem.W.lookIn name od).map (·.isSome) = some false; rw [hl, hv]; rfl) h

theorem set_map {ns : List Str} {Q : Unit → Shared → Prop} (X : K.In s.heap) (I : ObjM s.heap x dx C mA)
    (hs : PySem.W.findIn K (.ref C) "__setattr__" = some (some (.builtin "object.__setattr__"))) (hp : PySem.W.plainOver K C = true) (ht : PySem.W.takerIn K C name = some none) (hh : PySem.W.hasDictIn K C = true)
    (hw : PySem.Within mA ns) (hsz : ns.length ≤ sizeLine)
    (h : ∀ h', ObjM h' x dx C (fun y => if y = name then some v else mA y) → Heap.SameBut dx s.heap h' → Q () { s with heap := h', toks := s.toks + 2 }) :
    wpAny (model prog w) A (setAttr (.ref x) name v) Q E s := by
  obtain ⟨od, J, hl⟩ := I.look
  refine PySem.W.set_plain X J hs (PySem.W.osa_open (s := { s with toks := s.toks + 1 }) (r := none) X J hp ht fun b => ?_)
  obtain ⟨cd, hc, hd'⟩ := PySem.W.any_some hh
  have hx : s.heap.get? x = some ⟨.ref C, some dx, .plain, #[]⟩ := I.obj
  refine wpAny_bind (wpAny_pure (wpAny_bind (wpAny_bind (wpAny_loadPart hx (wpAny_bind (PySem.W.Looks.here (s := { s with toks := s.toks + 1 }) (PySem.W.looks_clsIn X hc) ?_))))))
  rw [hd']
  refine wpAny_pure (a := some dx) (wpAny_bind (wpAny_pure (wpAny_bind ?_)))
  refine wpAny_nsSet1 (s := { s with toks := s.toks + 1 }) I.ns fun h' hn2 hs2 => ?_
  obtain ⟨oD, esD, epD, hoD, hdD, hcD⟩ := hn2.count (PySem.Within.cons name v hw)
  refine wpAny_bind (wpAny_lookBehind hoD (by rw [hdD]; exact pastItsLine_dict (Nat.le_trans hcD (by rw [List.length_cons]; omega))) ?_)
  exact wpAny_pure (h _ ⟨(hs2.2 _ (Ne.symm I.ne)).trans I.obj, hn2, I.ne⟩ hs2)


theorem make_map {R : Result → Shared → Prop} {vs : List Value} {kw : List (Str × Value)} (X : K.In s.heap) (hm : PySem.W.makesIn K C = true)
    (hi : PySem.W.findIn K (.ref C) "__init__" = some (some (.ref f))) (hf : PySem.W.typeIn K (.ref f) = some (.type "function"))
    (h : codeAny (model prog w) (A.under (.builtin "type.__call__" ⟨.ref C :: vs, kw⟩)) (.call (.ref f) ⟨.ref (s.heap.objs.size + 1) :: vs, kw⟩) (PySem.W.InitBack (s.heap.objs.size + 1) R)
      { s with heap := (s.heap.push PySem.W.emptyDict).push (PySem.W.instObj C s.heap.objs.size) }) :
    codeAny (model prog w) A (.call (.ref C) ⟨vs, kw⟩) R s := by
  obtain ⟨hh, g, d, t, os⟩ := s
  exact PySem.W.make_core (PySem.W.makes_of X hm) (PySem.W.looks_findIn X hi) (fun self => PySem.W.bind_fn X self hf) (.inl rfl) h

end


def putF (f : Str) (v : V) : List (Str × V) → List (Str × V)
  | [] => [(f, v)]
  | (g, x) :: r => if g = f then (g, v) :: r else (g, x) :: putF f v r
theorem lookup_putF (f g : Str) (v : V) : ∀ fs : List (Str × V), (putF f v fs).lookup g = if g = f then some v else fs.lookup g
  | [] => by
    show List.lookup g [(f, v)] = _
    by_cases h : g = f
    · have hb : (g == f) = true := beq_iff_eq.mpr h
      simp only [List.lookup, hb, if_pos h]
    · have hb : (g == f) = false := beq_eq_false_iff_ne.mpr h
      simp only [List.lookup, hb, if_neg h]
  | (k, x) :: r => by
    have ih := lookup_putF f g v r
    rw [show putF f v ((k, x) :: r) = (if k = f then (k, v) :: r else (k, x) :: putF f v r) from rfl]
    by_cases hk : k = f
    · rw [if_pos hk]
      by_cases h : g = k
      · have hb : (g == k) = true := beq_iff_eq.mpr h
        simp only [List.lookup, hb, if_pos (h.trans hk)]
      · have hb : (g == k) = false := beq_eq_false_iff_ne.mpr h
        simp only [List.lookup, hb, if_neg (fun e : g = f => h (e.trans hk.symm))]
    · rw [if_neg hk]
      by_cases h : g = k
      · have hb : (g == k) = true := beq_iff_eq.mpr h
        simp only [List.lookup, hb, if_neg (fun e : g = f => hk (h.symm.trans e))]
      · have hb : (g == k) = false := beq_eq_false_iff_ne.mpr h
        simp only [List.lookup, hb]
        exact ih
theorem keys_putF (f : Str) (v : V) : ∀ fs : List (Str × V), f ∈ (putF f v fs).map (·.1) ∧ ∀ g, g ∈ fs.map (·.1) → g ∈ (putF f v fs).map (·.1)
  | [] => ⟨by simp [putF], fun g h => by simp at h⟩
  | (k, x) :: r => by
    obtain ⟨i1, i2⟩ := keys_putF f v r
    rw [show putF f v ((k, x) :: r) = (if k = f then (k, v) :: r else (k, x) :: putF f v r) from rfl]
    by_cases hk : k = f
    · rw [if_pos hk]
      subst hk
      exact ⟨by simp, fun g h => by simpa using h⟩
    · rw [if_neg hk]
      refine ⟨?_, fun g h => ?_⟩
      · rw [List.map_cons]
        exact List.mem_cons_of_mem _ i1
      · rw [List.map_cons] at h ⊢
        rcases List.mem_cons.mp h with e | e
        · exact List.mem_cons.mpr (.inl e)
        · exact List.mem_cons_of_mem _ (i2 g e)
theorem length_putF (f : Str) (v : V) : ∀ fs : List (Str × V), (putF f v fs).length ≤ fs.length + 1
  | [] => by simp [putF]
  | (k, x) :: r => by
    have ih := length_putF f v r
    rw [show putF f v ((k, x) :: r) = (if k = f then (k, v) :: r else (k, x) :: putF f v r) from rfl]
    by_cases hk : k = f
    · rw [if_pos hk, List.length_cons, List.length_cons]; omega
    · rw [if_neg hk, List.length_cons, List.length_cons]; omega

theorem RelO.some_of {v : V} {o : Option Value} (r : RelO (some v) o) : ∃ u, o = some u ∧ RelV v u := by
  cases o with
  | none => exact (show False from r).elim
  | some u => exact ⟨u, rfl, r⟩
theorem RelO.none_of {o : Option Value} (r : RelO none o) : o = none := by
  cases o with
  | none => rfl
  | some u => exact (show False from r).elim
theorem handed_of {v : V} {u : Value} (r : RelV v u) : PySem.W.handedIn u = true := by
  cases v with
  | non => cases (show u = Value.none from r); rfl
  | bl b => cases (show u = Value.bool b from r); rfl
  | int i => obtain ⟨t, e⟩ := (show ∃ t, u = Value.int i t from r); cases e; rfl
  | str x => obtain ⟨t, e⟩ := (show ∃ t, u = Value.str x t from r); cases e; rfl
  | byt b => obtain ⟨t, e⟩ := (show ∃ t, u = Value.bytes b t from r); cases e; rfl
  | flt b => obtain ⟨t, e⟩ := (show ∃ t, u = Value.float b t from r); cases e; rfl
  | ref a => cases (show u = Value.ref a from r); rfl
  | ty n => cases (show u = Value.type n from r); rfl

section
variable {P : Program} {w : World} {H H' : Hp} {h h' : Heap} {a C dx : Addr} {fs fs' : List (Str × V)}
theorem ins_get (hok : HOk P w H h) (e : H a = some (.ins C dx fs)) : ∃ mA, ObjM h a dx C mA ∧ (∀ f, RelO (fs.lookup f) (mA f)) ∧ PySem.Within mA (fs.map (·.1)) ∧ fs.length ≤ 1000 ∧ H dx = some (.own a) := by
  obtain ⟨d, z, ne, ob, mA, n, r, q⟩ := (show ObjOk P w H h a (.ins C dx fs) from hok a _ e)
  exact ⟨mA, ⟨ob, n, ne⟩, r, q, z, d⟩
end


structure Cls (K : PySem.W.Frag) (C : Addr) : Prop where
  pg : PySem.W.plainGet K C Str.empty = true
  hd : PySem.W.hasDictIn K C = true
  po : PySem.W.plainOver K C = true
  sa : PySem.W.findIn K (.ref C) "__setattr__" = some (some (.builtin "object.__setattr__"))
theorem Cls.get {K : PySem.W.Frag} {C : Addr} (c : Cls K C) (f : Str) : PySem.W.plainGet K C f = true := c.pg

def NoAttr (K : PySem.W.Frag) (C : Addr) (f : Str) : Prop := PySem.W.findIn K (.ref C) f = some none
theorem NoAttr.taker {K : PySem.W.Frag} {C : Addr} {f : Str} (n : NoAttr K C f) : PySem.W.takerIn K C f = some none := by
  unfold PySem.W.takerIn
  rw [show PySem.W.findIn K (.ref C) f = some none from n]
  rfl

structure Meth (K : PySem.W.Frag) (C : Addr) (m : Str) (f : Addr) : Prop where
  at_ : PySem.W.findIn K (.ref C) m = some (some (.ref f))
  fn : PySem.W.isFn K (.ref f) = true
  kp : PySem.W.keepIn K (.ref f) = true

section
variable {X : Cx} {pins : List (Addr × Obj)} {σ : St} {H : Hp} {s : Shared} {a C dx : Addr} {fs : List (Str × V)} {f : Str} {v : V} {A : Around} {E : Value → Shared → Prop}

theorem getattr_ok {b : Bool} {Q : Value → Shared → Prop} (I : Inv X pins σ H s) (e : H a = some (.ins C dx fs)) (c : Cls X.K C) (n : NoAttr X.K C f) (l : fs.lookup f = some v)
    (h : ∀ u s', Inv X pins σ H s' → RelV v u → Q u s') : wpAny (model X.prog X.w) A (getAttr (.ref a) f b) Q E s := by
  obtain ⟨mA, O, r, _, _, _⟩ := ins_get I.hok e
  obtain ⟨u, hu, ru⟩ := RelO.some_of (v := v) (o := mA f) (by rw [← l]; exact r f)
  exact get_map I.kIn O (c.get f) c.hd n hu (handed_of ru) (h u _ (I.tok _) ru)

theorem getmeth_ok {m : Str} {g : Addr} {pl : Sem Bool} {Q : Value × List Value → Shared → Prop} (I : Inv X pins σ H s) (e : H a = some (.ins C dx fs)) (c : Cls X.K C) (k : Meth X.K C m g) (l : fs.lookup m = none)
    (h : Q (.ref g, [.ref a]) s) : wpAny (model X.prog X.w) A (getMethod (.ref a) m pl) Q E s := by
  obtain ⟨mA, O, r, _, _, _⟩ := ins_get I.hok e
  have hn : mA m = none := RelO.none_of (by rw [← l]; exact r m)
  exact get_meth I.kIn O (c.get m) k.at_ k.fn hn h

theorem setattr_ok {y : V} {u : Value} {Q : Unit → Shared → Prop} (I : Inv X pins σ H s) (e : H a = some (.ins C dx fs)) (c : Cls X.K C) (n : NoAttr X.K C f) (hl : fs.length < 1000) (ry : RelV y u)
    (h : ∀ s', Inv X pins σ (upd H a (.ins C dx (putF f y fs))) s' → Q () s') : wpAny (model X.prog X.w) A (setAttr (.ref a) f u) Q E s := by
  obtain ⟨mA, O, r, wi, _, ho⟩ := ins_get I.hok e
  have hz : (fs.map (·.1)).length ≤ sizeLine := by rw [List.length_map, sizeLine_eq]; omega
  refine set_map I.kIn O c.sa c.po n.taker c.hd wi hz fun h' O' sb => h _ ?_
  have hd : ∃ o, h'.get? dx = some o := let ⟨o, _, _, e', _⟩ := O'.ns; ⟨o, e'⟩
  refine I.write (x := a) (e := dx) (by rw [e]; exact True.intro) (.inr ho) (fun b q hb z => (sb.2 b hb).trans z) hd ?_
  refine ⟨by rw [upd_ne O.ne]; exact ho, ?_, O.ne, O'.obj, _, O'.ns, fun g => ?_, fun g hg => ?_⟩
  · have := length_putF f y fs; omega
  · show RelO ((putF f y fs).lookup g) (if g = f then some u else mA g)
    rw [lookup_putF]
    by_cases q : g = f
    · rw [if_pos q, if_pos q]; exact ry
    · rw [if_neg q, if_neg q]; exact r g
  · by_cases q : g = f
    · rw [q]; exact (keys_putF f y fs).1
    · refine (keys_putF f y fs).2 g (wi g fun z => hg ?_)
      show (if g = f then some u else mA g) = none
      rw [if_neg q]; exact z


theorem Inv.made (I : Inv X pins σ H s) : Inv X pins σ (upd (upd H s.heap.objs.size (.own (s.heap.objs.size + 1))) (s.heap.objs.size + 1) (.ins C s.heap.objs.size []))
    { s with heap := (s.heap.push PySem.W.emptyDict).push (PySem.W.instObj C s.heap.objs.size) } := by
  have e1 : (s.heap.push PySem.W.emptyDict).get? s.heap.objs.size = some PySem.W.emptyDict := Heap.get?_push_size s.heap rfl
  have e2 : ((s.heap.push PySem.W.emptyDict).push (PySem.W.instObj C s.heap.objs.size)).get? (s.heap.objs.size + 1) = some (PySem.W.instObj C s.heap.objs.size) := by
    have := Heap.get?_push_size (s.heap.push PySem.W.emptyDict) (o := PySem.W.instObj C s.heap.objs.size) rfl
    rwa [Heap.size_push] at this
  have e3 : (s.heap.push PySem.W.emptyDict).Ns s.heap.objs.size (fun _ => none) := ⟨PySem.W.emptyDict, #[], _, e1, rfl, (fun e he => absurd he (by simp)), fun _ => rfl⟩
  have I1 := I.laid (a := s.heap.objs.size) (o := .own (s.heap.objs.size + 1)) (h' := s.heap.push PySem.W.emptyDict) (t' := s.toks) (fun b u q => Heap.get?_push_of_some _ q) (Nat.le_refl _) ⟨_, e1⟩
  refine I1.laid (a := s.heap.objs.size + 1) (o := .ins C s.heap.objs.size []) (t' := s.toks) (fun b u q => Heap.get?_push_of_some _ q) (Nat.le_of_eq (Heap.size_push _ _)) ?_
  have ne : s.heap.objs.size ≠ s.heap.objs.size + 1 := Nat.ne_of_lt (Nat.lt_succ_self _)
  refine ⟨by rw [upd_ne ne, upd_same], Nat.zero_le _, ne, e2, fun _ => none, (Heap.Ns1.of_empty e3).at fun o q => Heap.get?_push_of_some _ q, fun _ => True.intro, fun y hy => absurd rfl hy⟩


theorem attr_of {prog : Program} {w : World} {env : Env} {e : Expr} {f : Str} {pos : Pos} {s : Shared} {Q : Value → Shared → Prop} (hb : attributeBase e f env (eval e env) = eval e env)
    (h : wpAny (model prog w) A (eval e env) (fun o s₁ => wpAny (model prog w) A (getAttr o f true) Q E s₁) E s) : wpAny (model prog w) A (eval (.Attribute e f pos) env) Q E s :=
  Attribute_any_ h (by rw [arm_eval_Attribute, hb])
end



def tFld (K : PySem.W.Frag) (ta : TE) (f : Str) : TE := fun σ H Q => ta σ H fun x H1 => ∃ a C dx fs v, x = .ref a ∧ H1 a = some (.ins C dx fs) ∧ Cls K C ∧ NoAttr K C f ∧ fs.lookup f = some v ∧ Q v H1

def sFld (K : PySem.W.Frag) (ta tv : TE) (f : Str) : TS := fun D σ H => tv σ H fun y H1 => ta σ H1 fun x H2 => ∃ a C dx fs, x = .ref a ∧ H2 a = some (.ins C dx fs) ∧ Cls K C ∧ NoAttr K C f ∧ fs.length < 1000 ∧
  D.nx σ (upd H2 a (.ins C dx (putF f y fs)))

section
variable {X : Cx} {o e value : Expr} {f : Str} {pos pos' tpos : Pos} {ta tv : TE}
theorem pe_fld (he : PE X e ta) (hb : attributeBase e f X.env (eval e X.env) = eval e X.env) : PE X (.Attribute e f pos) (tFld X.K ta f) := by
  intro pins s σ H Q I h
  refine attr_of hb (thn (he pins s σ H _ I h) fun u s1 ⟨x, H1, I1, rx, a, C, dx, fs, v, ex, ea, c, n, l, q⟩ => ?_)
  subst ex
  obtain rfl : u = Value.ref a := rx
  exact getattr_ok I1 ea c n l fun u' s2 I2 ru => ⟨v, H1, I2, ru, q⟩
theorem ps_fld (ha : PE X o ta) (hv : PE X value tv) (hs : swapsWith value (some (.Attribute o f pos')) pos.line X.env = pure false) : PS X (.Assign [.Attribute o f pos'] value pos) (sFld X.K ta tv f) := by
  intro pins s σ H D I h
  refine plainObj_wpAny_Assign_Attribute (thn (hv pins s σ H _ I h) fun u s1 ⟨y, H1, I1, ry, q⟩ => thn (ha pins s1 σ H1 _ I1 q) fun ov s2 ⟨x, H2, I2, rx, a, C, dx, fs, ex, ea, c, n, l, q2⟩ => ?_) hs
  subst ex
  obtain rfl : ov = Value.ref a := rx
  exact setattr_ok I2 ea c n l ry fun s3 I3 => ⟨σ, _, I3, q2⟩
end


section
variable {X : Cx} {pins : List (Addr × Obj)} {σ : St} {H : Hp} {s : Shared} {A : Around} {E : Value → Shared → Prop} {Q : Value → Shared → Prop} {c : Value} {b : Bool}

inductive TyOf (K : PySem.W.Frag) (H : Hp) : V → Value → Prop where
  | non : TyOf K H .non (.type "NoneType")
  | bl (x : Bool) : TyOf K H (.bl x) (.type "bool")
  | int (i : Int) : TyOf K H (.int i) (.type "int")
  | str (x : Str) : TyOf K H (.str x) (.type "str")
  | flt (x : UInt64) : TyOf K H (.flt x) (.type "float")
  | lst {a : Addr} {xs : List V} (e : H a = some (.lst xs)) : TyOf K H (.ref a) (.type "list")
  | frz {a : Addr} {o : Obj} {xs : List V} (e : H a = some (.frz o (.lst xs))) : TyOf K H (.ref a) (.type "list")
  | tup {a : Addr} {xs : List V} (e : H a = some (.tup xs)) : TyOf K H (.ref a) (.type "tuple")
  | dK {a : Addr} {kvs : List (Key × V)} (e : H a = some (.dK kvs)) : TyOf K H (.ref a) (.type "dict")
  | dT {a : Addr} {kvs : List (List Key × V)} (e : H a = some (.dT kvs)) : TyOf K H (.ref a) (.type "dict")
  | ins {a C dx : Addr} {fs : List (Str × V)} (e : H a = some (.ins C dx fs)) (cl : Cls K C) (ha : PySem.W.findIn K (.ref C) "__class__" = some (some (.builtin "object.__class__")))
      (hn : PySem.W.specialIn K (.builtin "object.__class__") "__get__" = some (some (.builtin "getset_descriptor.__get__"))) (htk : PySem.W.takesIn K (.builtin "object.__class__") = some true)
      (hm : PySem.W.mroIn K C (.type "object") = some true) : TyOf K H (.ref a) (.ref C)

theorem isinst_ok {x : V} {u t : Value} (I : Inv X pins σ H s) (rx : RelV x u) (ty : TyOf X.K H x t) (e : PySem.W.kitOne X.K t c = some b) (h : ∀ tk, Q (.bool b) { s with toks := tk }) :
    wpAny (model X.prog X.w) A (call (.builtin "isinstance") [u, c]) Q E s := by
  cases ty with
  | non => cases (show u = Value.none from rx); exact PySem.W.kia_one PySem.W.kitx_none I.kIn True.intro e (fun z => nomatch z) h
  | bl y => cases (show u = Value.bool y from rx); exact PySem.W.kia_one PySem.W.kitx_bool I.kIn True.intro e (fun z => nomatch z) h
  | int i => obtain ⟨t, q⟩ := (show ∃ t, u = Value.int i t from rx); cases q; exact PySem.W.kia_one PySem.W.kitx_int I.kIn True.intro e (fun z => nomatch z) h
  | str y => obtain ⟨t, q⟩ := (show ∃ t, u = Value.str y t from rx); cases q; exact PySem.W.kia_one PySem.W.kitx_str I.kIn True.intro e (fun z => nomatch z) h
  | flt y => obtain ⟨t, q⟩ := (show ∃ t, u = Value.float y t from rx); cases q; exact PySem.W.kia_one PySem.W.kitx_float I.kIn True.intro e (fun z => nomatch z) h
  | @lst a xs ea =>
    cases (show u = Value.ref a from rx)
    obtain ⟨_, _, n, _, h1⟩ := (show ObjOk X.prog X.w H s.heap a (.lst xs) from I.hok a _ ea)
    exact PySem.W.kia_one PySem.W.kitx_list I.kIn ⟨_, h1, rfl⟩ e (fun z => nomatch z) h
  | @frz a ob xs ea =>
    cases (show u = Value.ref a from rx)
    obtain ⟨_, _, _, n, _, h1⟩ := (show ObjOk X.prog X.w H s.heap a (.frz ob (.lst xs)) from I.hok a _ ea)
    exact PySem.W.kia_one PySem.W.kitx_list I.kIn ⟨_, h1, rfl⟩ e (fun z => nomatch z) h
  | @tup a xs ea =>
    cases (show u = Value.ref a from rx)
    obtain ⟨_, _, _, p⟩ := (show ObjOk X.prog X.w H s.heap a (.tup xs) from I.hok a _ ea)
    obtain ⟨o, h1, h2, _⟩ := p
    exact PySem.W.kia_one PySem.W.kitx_tuple I.kIn ⟨o, h1, h2⟩ e (fun z => nomatch z) h
  | @dK a kvs ea =>
    cases (show u = Value.ref a from rx)
    obtain ⟨_, _, vs, _, p⟩ := (show ObjOk X.prog X.w H s.heap a (.dK kvs) from I.hok a _ ea)
    obtain ⟨o, es, ep, h1, h2, _⟩ := p
    exact PySem.W.kia_one PySem.W.kitx_dict I.kIn ⟨o, h1, h2.1⟩ e (fun z => nomatch z) h
  | @dT a kvs ea =>
    cases (show u = Value.ref a from rx)
    obtain ⟨_, _, xs, _, o, es, ep, h1, h2, _⟩ := (show ObjOk X.prog X.w H s.heap a (.dT kvs) from I.hok a _ ea)
    exact PySem.W.kia_one PySem.W.kitx_dict I.kIn ⟨o, h1, h2.1⟩ e (fun z => nomatch z) h
  | @ins a C dx fs ea cl ha hn htk hm =>
    cases (show u = Value.ref a from rx)
    obtain ⟨mA, O, _⟩ := ins_get I.hok ea
    obtain ⟨od, J, _⟩ := O.look
    exact PySem.W.kia_one (PySem.W.kitx_own (cl.get _) cl.hd ha hn htk hm) I.kIn J e (fun z => nomatch z) h
end
end L2

namespace L2
open PySem PySem.Spec PyProof.Rows


structure Room (k : Nat) (A : Around) : Prop where
  hd : A.handled = none
  dp : A.depth + 3 * k + 5 < recursionLimit
  un : A.units + 16 * k + 200 < cLine
theorem Room.mono {j k : Nat} {A : Around} (r : Room k A) (h : j ≤ k) : Room j A := ⟨r.hd, by have := r.dp; omega, by have := r.un; omega⟩
theorem Room.deeper {k : Nat} {A : Around} (r : Room (k + 1) A) (env : Env) : Room k (A.deeper env) :=
  ⟨r.hd, by have := r.dp; show A.depth + 1 + 3 * k + 5 < _; omega, by have := r.un; show A.units + 3 + 16 * k + 200 < _; omega⟩
theorem make_depth {A : Around} {C : Addr} {us : List Value} {kw : List (Str × Value)} : (A.under (.builtin "type.__call__" ⟨.ref C :: us, kw⟩)).depth = A.depth + 1 := by
  first | rfl | simp [Around.under, Code.weight, Code.isCreation, Code.isGuard, Code.isCaller, Code.frames, Code.isFrame, guardIds]
theorem make_units {A : Around} {C : Addr} {us : List Value} {kw : List (Str × Value)} : (A.under (.builtin "type.__call__" ⟨.ref C :: us, kw⟩)).units = A.units + 1 := by
  first | rfl | simp [Around.under, Code.cUnits, Code.frames, Code.isFrame]
theorem Room.make {k : Nat} {A : Around} (r : Room (k + 1) A) (C : Addr) (us : List Value) (kw : List (Str × Value)) : Room k (A.under (.builtin "type.__call__" ⟨.ref C :: us, kw⟩)) :=
  ⟨r.hd, by have := r.dp; rw [make_depth]; omega, by have := r.un; rw [make_units]; omega⟩
theorem Room.depth {k : Nat} {A : Around} (r : Room k A) : A.depth < recursionLimit := by have := r.dp; omega
theorem Room.units {k : Nat} {A : Around} (r : Room k A) : A.units + 64 < cLine := by have := r.un; omega
theorem Room.units0 {k : Nat} {A : Around} (r : Room k A) : A.units < cLine := by have := r.un; omega


def tNil : TA := fun _ H Q => Q [] H
def tCons (ta : TE) (tr : TA) : TA := fun σ H Q => ta σ H fun x H1 => tr σ H1 fun xs H2 => Q (x :: xs) H2
section
variable {X : Cx} {e : Expr} {es : List Expr} {te : TE} {t : TA} {pos : Pos}
theorem pa_nil : PA X [] tNil := fun _ _ _ _ H Q I h => Calls.spliced_nil ⟨[], H, I, .nil, h⟩
theorem pa_cons (ha : PE X e te) (hr : PA X es t) (hs : starEach (e :: es) X.env = (false, eval e X.env) :: starEach es X.env := by rfl) : PA X (e :: es) (tCons te t) := by
  intro pos pins s σ H Q I h
  rw [hs]
  show wpAny _ _ (spliced ((false, eval e X.env) :: backTo pos (starEach es X.env))) _ _ s
  refine Calls.spliced_cons (thn (ha pins s σ H _ I h) fun u s1 ⟨x, H1, I1, r1, q1⟩ => ?_)
  exact thn (hr pos pins s1 σ H1 _ I1 q1) fun us s2 ⟨xs, H2, I2, r2, q2⟩ => ⟨x :: xs, H2, I2, .cons r1 r2, q2⟩


def tTup (t : TA) : TE := fun σ H Q => t σ H fun xs H1 => xs.length ≤ sizeLine ∧ ∀ p, H1 p = none → Q (.ref p) (upd H1 p (.tup xs))
def tLst (t : TA) : TE := fun σ H Q => t σ H fun xs H1 => xs.length ≤ sizeLine ∧ ∀ p, H1 p = none → Q (.ref p) (upd H1 p (.lst xs))
theorem pe_tup {x1} (h : PA X es t) : PE X (.Tuple es x1 pos) (tTup t) := by
  intro pins s σ H Q I hq
  refine wpAny_Tuple_spliced (thn (h pos pins s σ H _ I hq) fun us s1 ⟨xs, H1, I1, r, z, q⟩ => ⟨by rw [← r.length]; exact z, ?_⟩)
  have hf : H1 s1.heap.objs.size = none := I1.hok.fresh (Nat.le_refl _)
  refine ⟨.ref s1.heap.objs.size, upd H1 s1.heap.objs.size (.tup xs), I1.laid (t' := s1.toks) (fun b u e => Heap.get?_push_of_some _ e) (Nat.le_refl _) ?_, rfl, q _ hf⟩
  exact ⟨z, us, r, IsTpl.new _ _⟩
theorem pe_lst (h : PA X es t) : PE X (.List es pos) (tLst t) := by
  intro pins s σ H Q I hq
  refine wpAny_List_spliced (thn (h pos pins s σ H _ I hq) fun us s1 ⟨xs, H1, I1, r, z, q⟩ => ⟨by rw [← r.length]; exact z, ?_⟩)
  have hf : H1 s1.heap.objs.size = none := I1.hok.fresh (Nat.le_refl _)
  refine ⟨.ref s1.heap.objs.size, upd H1 s1.heap.objs.size (.lst xs), I1.laid (t' := s1.toks) (fun b u e => Heap.get?_push_of_some _ e) (Nat.le_refl _) ?_, rfl, q _ hf⟩
  exact ⟨z, us, 0, r, Heap.get?_push_size _ rfl⟩
end



abbrev Sp := List V → Hp → VK → XK → Prop

abbrev CXT := List Env → Hp → Shared → XK → Value → Shared → Prop


structure Env0 (P : Program) (w : World) (K : PySem.W.Frag) (mg : Str → Option Value) (base : Heap) (A : Around) (outer : List Env) (s : Shared) (H : Hp) : Prop where
  frames : A.frames = some outer
  mod : Mod K mg base
  bs : ∀ b o, base.get? b = some o → s.heap.get? b = some o ∧ H b = none
  bsz : base.objs.size ≤ s.heap.objs.size
  funs : s.heap.FunFrames base outer
  frf : ∀ b ∈ frs outer, H b = none
  hok : HOk P w H s.heap
  bare : AllBare s.gens

def CE (outer : List Env) (P : Program) (w : World) (H : Hp) (s : Shared) (Q : VK) (u : Value) (s' : Shared) : Prop :=
  ∃ v H', s'.os = s.os ∧ AllBare s'.gens ∧ Un (frs outer) [] H H' s.heap s'.heap ∧ HOk P w H' s'.heap ∧ RelV v u ∧ Q v H'
def CR (CX : CXT) (outer : List Env) (P : Program) (w : World) (H : Hp) (s : Shared) (Q : VK) (E : XK) (r : Result) (s' : Shared) : Prop :=
  match r with
  | .ok (.ret u) => CE outer P w H s Q u s'
  | .ok _ => False
  | .error e => CX outer H s E e s'
structure FnOk (P : Program) (w : World) (K : PySem.W.Frag) (mg : Str → Option Value) (base : Heap) (CX : CXT) (k : Nat) (f : Addr) (fd : FuncData) (ps : List Str) (sp : Sp) : Prop where
  len : ∀ vs H Q E, sp vs H Q E → vs.length = ps.length
  run : ∀ (A : Around) (outer : List Env) (s : Shared) (H : Hp) (args : Args) (us : List Value) (vs : List V) (Q : VK) (E : XK), Room k A → Env0 P w K mg base A outer s H → BindsTo s fd args (ps.zip us) → Vals vs us → sp vs H Q E →
    codeAny (model P w) A (.call (.ref f) args) (CR CX outer P w H s Q E) s
theorem FnOk.mono {P : Program} {w : World} {K : PySem.W.Frag} {mg : Str → Option Value} {base : Heap} {CX : CXT} {j k : Nat} {f : Addr} {fd : FuncData} {ps : List Str} {sp : Sp} (F : FnOk P w K mg base CX j f fd ps sp) (h : j ≤ k) :
    FnOk P w K mg base CX k f fd ps sp := ⟨F.len, fun A outer s H args us vs Q E hr => F.run A outer s H args us vs Q E (hr.mono h)⟩

theorem Env0.make {P : Program} {w : World} {K : PySem.W.Frag} {mg : Str → Option Value} {base : Heap} {A : Around} {outer : List Env} {s : Shared} {H : Hp} (e : Env0 P w K mg base A outer s H) (C : Addr) (us : List Value) (kw : List (Str × Value)) :
    Env0 P w K mg base (A.under (.builtin "type.__call__" ⟨.ref C :: us, kw⟩)) outer s H := ⟨by first | exact e.frames | (simpa [Around.under, Code.envs, Code.isFrame, pushEnvs] using e.frames), e.mod, e.bs, e.bsz, e.funs, e.frf, e.hok, e.bare⟩
section
variable {X : Cx} {pins : List (Addr × Obj)} {σ : St} {H : Hp} {s s' : Shared}

theorem Inv.env0 (I : Inv X pins σ H s) : Env0 X.prog X.w X.K X.mg X.base X.A X.stack s H :=
  ⟨I.ok.frames, I.ok.mod, I.bs, Nat.le_trans I.ok.bsz I.sz, I.stack, I.stkFree, I.hok, I.bare⟩

theorem Inv.after {Q : VK} {u : Value} (I : Inv X pins σ H s) (h : CE X.stack X.prog X.w H s Q u s') : EP X pins σ Q u s' := by
  obtain ⟨v, H', os, bare, un, hok, r, q⟩ := h
  obtain ⟨hh, g, d, t, os'⟩ := s'
  obtain rfl : os' = s.os := os
  exact ⟨v, H', I.call (h' := hh) (g' := g) (d' := d) (t' := t) (ch := []) un hok bare (fun b z => absurd z (by simp)), r, q⟩
end



def tCall (sp : Sp) (dvs : List V) (E : XK) (t : TA) : TE := fun σ H Q => t σ H fun vs H1 => sp (vs ++ dvs) H1 Q E

def tMake (C : Addr) (sp : Sp) (dvs : List V) (E : XK) (t : TA) : TE := fun σ H Q => t σ H fun vs H1 => ∀ x dx, H1 x = none → H1 dx = none → dx ≠ x →
  sp (.ref x :: (vs ++ dvs)) (upd (upd H1 dx (.own x)) x (.ins C dx [])) (fun v H2 => v = .non ∧ Q (.ref x) H2) E


def Binds (K : PySem.W.Frag) (fd : FuncData) (ps : List Str) (ds : List Value) : Prop :=
  ∀ (s : Shared) (us : List Value), K.In s.heap → (us ++ ds).length = ps.length → BindsTo s fd ⟨us, []⟩ (ps.zip (us ++ ds))

theorem Binds.all {K : PySem.W.Frag} {fd : FuncData} {ps : List Str} (h : ∀ us : List Value, us.length = ps.length → bindArgs fd ⟨us, []⟩ = pure (ps.zip us)) : Binds K fd ps [] := fun s us _ hl => by
  rw [List.append_nil] at hl ⊢
  exact .of_eq (h us hl)


def Passes (CX : CXT) (X : Cx) (E : XK) : Prop := ∀ (pins : List (Addr × Obj)) (σ : St) (H : Hp) (s : Shared) (e : Value) (s' : Shared), Inv X pins σ H s → CX X.stack H s E e s' → X.xe e s'

section
variable {X : Cx} {CX : CXT} {k : Nat} {f C : Addr} {fd : FuncData} {ps : List Str} {sp : Sp} {dvs : List V} {ds : List Value} {E : XK} {x m : Str} {p pos apos : Pos} {e o : Expr} {es : List Expr} {ta : TE} {t : TA}


theorem run_fn {pins : List (Addr × Obj)} {σ : St} {H : Hp} {s : Shared} {Q : VK} {us : List Value} {vs : List V} (F : FnOk X.prog X.w X.K X.mg X.base CX k f fd ps sp) (hr : Room k X.A) (hb : Binds X.K fd ps ds) (hd : Vals dvs ds) (hx : Passes CX X E)
    (I : Inv X pins σ H s) (r : Vals vs us) (h : sp (vs ++ dvs) H Q E) : wpAny (model X.prog X.w) X.A (call (.ref f) us) (EP X pins σ Q) X.xe s := by
  have r2 : Vals (vs ++ dvs) (us ++ ds) := r.append hd
  have hl : (us ++ ds).length = ps.length := by rw [← r2.length]; exact F.len _ _ _ _ h
  refine wpAny_call (codeAny_mono (F.run X.A X.stack s H ⟨us, []⟩ (us ++ ds) (vs ++ dvs) Q E hr I.env0 (hb s us I.kIn hl) r2 h) fun r s' hq => ?_)
  cases r with
  | error e => exact hx pins σ H s e s' I hq
  | ok fl =>
    cases fl with
    | ret u => exact I.after hq
    | next => exact False.elim hq
    | brk => exact False.elim hq
    | cont => exact False.elim hq

theorem pe_call (F : FnOk X.prog X.w X.K X.mg X.base CX k f fd ps sp) (hr : Room k X.A) (hg : Gl X x) (hm : X.mg x = some (.ref f)) (hk : PySem.W.keepIn X.K (.ref f) = true) (hb : Binds X.K fd ps ds) (hd : Vals dvs ds) (hx : Passes CX X E)
    (ha : PA X (e :: es) t) (hdb : (x == ("__debug__" : Str)) = false := by decide) (he : starEach (e :: es) X.env = (false, eval e X.env) :: starEach es X.env := by rfl) (hpl : (backTo pos (starEach es X.env)).any (·.1) = false := by rfl) :
    PE X (.Call (.Name x p) (e :: es) [] pos) (tCall sp dvs E t) := by
  intro pins s σ H Q I h
  refine wpAny_Call_Name_kw (ld_glob I hg hm ?_ hdb)
  refine PySem.W.callWith_K (h₀ := X.base) I.ok.mod.kin hk (thn (ha pos pins s σ H _ I h) fun us s1 ⟨vs, H1, I1, r, q⟩ => ⟨I1.kIn, ?_⟩) he hpl
  exact run_fn F hr hb hd hx I1 r q
structure Mk (K : PySem.W.Frag) (C f : Addr) : Prop where
  makes : PySem.W.makesIn K C = true
  init : PySem.W.findIn K (.ref C) "__init__" = some (some (.ref f))
  fn : PySem.W.isFn K (.ref f) = true
  kp : PySem.W.keepIn K (.ref C) = true

theorem run_make {pins : List (Addr × Obj)} {σ : St} {H : Hp} {s : Shared} {Q : VK} {us : List Value} {vs : List V} (M : Mk X.K C f) (F : FnOk X.prog X.w X.K X.mg X.base CX k f fd ps sp) (hr : Room (k + 1) X.A) (hb : Binds X.K fd ps ds) (hd : Vals dvs ds)
    (hx : Passes CX X E) (I : Inv X pins σ H s) (r : Vals vs us)
    (h : ∀ x dx, H x = none → H dx = none → dx ≠ x → sp (.ref x :: (vs ++ dvs)) (upd (upd H dx (.own x)) x (.ins C dx [])) (fun v H2 => v = .non ∧ Q (.ref x) H2) E) :
    wpAny (model X.prog X.w) X.A (call (.ref C) us) (EP X pins σ Q) X.xe s := by
  have hq := h (s.heap.objs.size + 1) s.heap.objs.size (I.hok.fresh (Nat.le_succ _)) (I.hok.fresh (Nat.le_refl _)) (Nat.ne_of_lt (Nat.lt_succ_self _))
  have I2 := Inv.made (C := C) I
  have r2 : Vals (V.ref (s.heap.objs.size + 1) :: (vs ++ dvs)) (Value.ref (s.heap.objs.size + 1) :: (us ++ ds)) := .cons rfl (r.append hd)
  have hl : (Value.ref (s.heap.objs.size + 1) :: us ++ ds).length = ps.length := by
    have e := r2.length
    rw [F.len _ _ _ _ hq] at e
    exact e.symm
  refine wpAny_call (make_map (f := f) I.kIn M.makes M.init (beq_iff_eq.mp M.fn) (codeAny_mono (F.run _ X.stack _ _ ⟨Value.ref (s.heap.objs.size + 1) :: us, []⟩ (Value.ref (s.heap.objs.size + 1) :: (us ++ ds)) _ _ E (hr.make C us [])
    (I2.env0.make C us []) (hb _ (Value.ref (s.heap.objs.size + 1) :: us) I2.kIn hl) r2 hq) fun r s' hq' => ?_))
  cases r with
  | error e => exact hx pins σ _ _ e s' I2 hq'
  | ok fl =>
    cases fl with
    | ret u =>
      obtain ⟨v, H', I3, rv, ev, q3⟩ := I2.after hq'
      subst ev
      exact ⟨rv, ⟨V.ref (s.heap.objs.size + 1), H', I3, rfl, q3⟩⟩
    | next => exact False.elim hq'
    | brk => exact False.elim hq'
    | cont => exact False.elim hq'
theorem pe_make (M : Mk X.K C f) (F : FnOk X.prog X.w X.K X.mg X.base CX k f fd ps sp) (hr : Room (k + 1) X.A) (hg : Gl X x) (hm : X.mg x = some (.ref C)) (hb : Binds X.K fd ps ds) (hd : Vals dvs ds) (hx : Passes CX X E)
    (ha : PA X (e :: es) t) (hdb : (x == ("__debug__" : Str)) = false := by decide) (he : starEach (e :: es) X.env = (false, eval e X.env) :: starEach es X.env := by rfl) (hpl : (backTo pos (starEach es X.env)).any (·.1) = false := by rfl) :
    PE X (.Call (.Name x p) (e :: es) [] pos) (tMake C sp dvs E t) := by
  intro pins s σ H Q I h
  refine wpAny_Call_Name_kw (ld_glob I hg hm ?_ hdb)
  refine PySem.W.callWith_K (h₀ := X.base) I.ok.mod.kin M.kp (thn (ha pos pins s σ H _ I h) fun us s1 ⟨vs, H1, I1, r, q⟩ => ⟨I1.kIn, ?_⟩) he hpl
  exact run_make M F hr hb hd hx I1 r q
end



section
variable {X : Cx} {CX : CXT} {k : Nat} {f C : Addr} {fd : FuncData} {ps ks : List Str} {sp : Sp} {E : XK} {x m : Str} {p pos apos kpos : Pos} {e o : Expr} {es : List Expr} {kws : List Keyword} {te ta : TE} {t tk : TA} {nm : Option Str}
variable {g : List Value → List Value → List Value} {gV : List V → List V → List V}
end



structure FnScope (N P : List Str) (sc : Scope) : Prop where
  kind : sc.kind = .function
  co : sc.isCoroutine = false
  gen : sc.isGenerator = false
  nd : N.Nodup
  pre : N.take P.length = P
  par : ∀ x ∈ P, sc.names.lookup x = some .local ∨ sc.names.lookup x = some .cell
  nofree : ∀ y ∈ sc.names, y.2 ≠ .free

theorem bindL_out {kindOf : Str → Option NameKind} {x : Str} : ∀ {binds : List (Str × Value)} {m : Str → Option Value}, (∀ v, (x, v) ∉ binds) → bindL kindOf binds m x = m x
  | [], _, _ => rfl
  | (n, v) :: r, m, h => by
    unfold bindL
    rw [bindL_out fun w hw => h w (List.mem_cons_of_mem _ hw)]
    split
    · have : x ≠ n := by rintro rfl; exact h v List.mem_cons_self
      simp [this]
    · rfl
theorem bindC_out {kindOf : Str → Option NameKind} {x : Str} : ∀ {binds : List (Str × Value)} {m : Str → Option Value}, (∀ v, (x, v) ∉ binds) → bindC kindOf binds m x = m x
  | [], _, _ => rfl
  | (n, v) :: r, m, h => by
    unfold bindC
    rw [bindC_out fun w hw => h w (List.mem_cons_of_mem _ hw)]
    split
    · rfl
    · have : x ≠ n := by rintro rfl; exact h v List.mem_cons_self
      simp [this]
theorem bindL_get {kindOf : Str → Option NameKind} {x : Str} {v : Value} : ∀ {P : List Str} {vs : List Value} {i : Nat} {m : Str → Option Value}, P.Nodup → P[i]? = some x → vs[i]? = some v → kindOf x = some .local →
    bindL kindOf (P.zip vs) m x = some v
  | [], _, _, _, _, h, _, _ => by simp at h
  | _ :: _, [], _, _, _, _, h, _ => by simp at h
  | p :: P, w :: vs, 0, m, nd, h1, h2, hk => by
    simp at h1 h2; subst h1; subst h2
    show bindL kindOf ((p, w) :: P.zip vs) m p = _
    unfold bindL
    rw [bindL_out fun v hv => (List.nodup_cons.mp nd).1 (List.of_mem_zip hv).1, if_pos hk]
    simp
  | p :: P, w :: vs, i + 1, m, nd, h1, h2, hk => by
    show bindL kindOf ((p, w) :: P.zip vs) m x = _
    unfold bindL
    exact bindL_get (i := i) (List.nodup_cons.mp nd).2 (by simpa using h1) (by simpa using h2) hk
theorem bindC_get {kindOf : Str → Option NameKind} {x : Str} {v : Value} : ∀ {P : List Str} {vs : List Value} {i : Nat} {m : Str → Option Value}, P.Nodup → P[i]? = some x → vs[i]? = some v → kindOf x ≠ some .local →
    bindC kindOf (P.zip vs) m x = some v
  | [], _, _, _, _, h, _, _ => by simp at h
  | _ :: _, [], _, _, _, _, h, _ => by simp at h
  | p :: P, w :: vs, 0, m, nd, h1, h2, hk => by
    simp at h1 h2; subst h1; subst h2
    show bindC kindOf ((p, w) :: P.zip vs) m p = _
    unfold bindC
    rw [bindC_out fun v hv => (List.nodup_cons.mp nd).1 (List.of_mem_zip hv).1, if_neg hk]
    simp
  | p :: P, w :: vs, i + 1, m, nd, h1, h2, hk => by
    show bindC kindOf ((p, w) :: P.zip vs) m x = _
    unfold bindC
    exact bindC_get (i := i) (List.nodup_cons.mp nd).2 (by simpa using h1) (by simpa using h2) hk


def start (N : List Str) (vs : List V) : St := vs.map some ++ List.replicate (N.length - vs.length) none


def cxOf (CX : CXT) (P : Program) (w : World) (K : PySem.W.Frag) (mg : Str → Option Value) (base : Heap) (N : List Str) (qual : Str) (scope : Scope) (f : Addr) (cd : Value) (A : Around) (outer : List Env) (s : Shared) (H : Hp) (E : XK) : Cx where
  prog := P
  w := w
  K := K
  mg := mg
  base := base
  A := A.deeper (envOfC qual scope s.heap.objs.size f cd)
  N := N
  s₀ := s
  H₀ := H
  env := envOfC qual scope s.heap.objs.size f cd
  outer := outer
  stack := envOfC qual scope s.heap.objs.size f cd :: outer
  ex := []
  calm := true
  fn := fun _ => true
  pn := []
  xe := fun e s' => wpAny (model P w) (A.deeper (envOfC qual scope s.heap.objs.size f cd)) (leaving (envOfC qual scope s.heap.objs.size f cd) e) (fun _ s'' => CX outer H s E e s'') (fun e' s'' => CX outer H s E e' s'') s'

theorem cell_has {sc : Scope} {n : Nat} {x : Str} (h : sc.names.lookup x = some .cell) : ∃ c, (cellsFrom n sc.names []).lookup x = some c := by
  have q := PySem.W.cellsFrom_some sc.names n [] (.inl h)
  exact Option.isSome_iff_exists.mp q

theorem inv_start {CX : CXT} {P : Program} {w : World} {K : PySem.W.Frag} {mg : Str → Option Value} {base : Heap} {N ps : List Str} {qual : Str} {scope : Scope} {f : Addr} {cd : Value} {A : Around} {outer : List Env} {s s1 : Shared} {H : Hp} {E : XK} {us : List Value} {vs : List V}
    (S : FnScope N ps scope) (hd : A.handled = none) (e0 : Env0 P w K mg base A outer s H) (hl : vs.length = ps.length) (r : Vals vs us)
    (x : InCallC s s.heap.objs.size (bindL (envOfC qual scope s.heap.objs.size f cd).kindOf (ps.zip us) fun _ => none) (cellsFrom (s.heap.objs.size + 1) scope.names []) (bindC (envOfC qual scope s.heap.objs.size f cd).kindOf (ps.zip us) fun _ => none) s1) :
    Inv (cxOf CX P w K mg base N qual scope f cd A outer s H E) [] (start N vs) H s1 := by
  have hpl : ps.length ≤ N.length := by have := congrArg List.length S.pre; rw [List.length_take] at this; omega
  obtain ⟨h1, tk, rfl, hk⟩ := x.done
  have noA : ∀ b : Addr, b ∉ (cxOf CX P w K mg base N qual scope f cd A outer s H E).ex := fun b z => absurd (show b ∈ ([] : List Addr) from z) (by simp)
  refine ⟨⟨e0.mod, S.kind, rfl, rfl, Nat.le_refl _, fun y z c h1 h2 => ?_, fun y hy => ?_, fun y c _ h => ?_, fun _ => hd, Around.frames_deeper e0.frames, .inr ⟨rfl, rfl⟩, fun b z => absurd z (noA b), e0.bs, e0.bsz, fun b _ _ => noA b, fun b z => absurd z (noA b), e0.funs, e0.frf⟩,
    rfl, e0.bare, Un.kept hk, ⟨_, x.toInCall.ns, fun i y v h1 h2 h3 => ?_⟩, fun y c h => ⟨_, x.cell y c h⟩, e0.hok.fresh (Nat.le_refl _), fun y c h => ?_, fun p hp => absurd (show p ∈ ([] : List (Addr × Obj)) from hp) (by simp), e0.hok.kept hk, ?_⟩
  · exact name_of_addr x.apart (PySem.mem_of_lookup h1) (PySem.mem_of_lookup h2)
  · have hy : scope.names.lookup y = some .cell ∨ scope.names.lookup y = some .free := hy
    rcases hy with hy | hy
    · exact cell_has hy
    · exact absurd rfl (S.nofree _ (PySem.mem_of_lookup hy))
  · exact Nat.le_of_lt (x.above y c (PySem.mem_of_lookup h))
  · have hi : i < vs.length := by
      unfold start at h2
      by_cases hi : i < vs.length
      · exact hi
      · rw [List.getElem?_append_right (by simpa using hi)] at h2
        rw [List.getElem?_replicate] at h2
        split at h2 <;> cases h2
    have ha : vs[i]? = some v := by
      unfold start at h2
      rw [List.getElem?_append_left (by simpa using hi), List.getElem?_map] at h2
      cases e : vs[i]? with
      | none => rw [e] at h2; cases h2
      | some a => rw [e] at h2; cases h2; rfl
    obtain ⟨u, hu, rv⟩ := r.get ha
    have hp : ps[i]? = some y := by
      rw [← S.pre, List.getElem?_take_of_lt (by omega)]; exact h1
    have ndP : ps.Nodup := by rw [← S.pre]; exact S.nd.sublist (List.take_sublist _ _)
    refine ⟨u, rv, ?_⟩
    rcases S.par y (List.mem_of_getElem? hp) with k | k
    · exact .inl ⟨k, bindL_get ndP hp hu k⟩
    · obtain ⟨c, e⟩ := cell_has (n := s.heap.objs.size + 1) k
      refine .inr ⟨.inl k, c, e, ?_⟩
      have q := x.cell y c e
      rw [bindC_get ndP hp hu (by show scope.names.lookup y ≠ _; rw [k]; decide)] at q
      exact q
  · exact e0.hok.fresh (Nat.le_of_lt (x.above y c (PySem.mem_of_lookup h)))
  · unfold start
    show _ = N.length
    rw [List.length_append, List.length_map, List.length_replicate]
    omega


theorem fn_of {CX : CXT} {P : Program} {w : World} {K : PySem.W.Frag} {mg : Str → Option Value} {base : Heap} {k : Nat} {f : Addr} {name qual : Str} {params : Arguments} {body : List Stmt} {scope : Scope} {dV kV doc pm cdv ct oc : Value} {an od : Option Addr}
    {osl : Array (Option Value)} {N ps : List Str} {sp : Sp} (lk : K.lookup f = some ⟨oc, od, .func (PySem.W.fnOf name qual params body scope dV kV doc pm an cdv ct), osl⟩) (hcd : PySem.W.codeIn K cdv qual = true) (S : FnScope N ps scope)
    (len : ∀ vs H Q E, sp vs H Q E → vs.length = ps.length)
    (hbody : ∀ (A : Around) (outer : List Env) (s : Shared) (H : Hp) (vs : List V) (Q : VK) (E : XK), Room k (A.deeper (envOfC qual scope s.heap.objs.size f cdv)) → sp vs H Q E →
      ∃ t, PSs (cxOf CX P w K mg base N qual scope f cdv A outer s H E) body t ∧ t { nx := fun _ H' => Q .non H', rt := Q } (start N vs) H) :
    FnOk P w K mg base CX (k + 1) f (PySem.W.fnOf name qual params body scope dV kV doc pm an cdv ct) ps sp := by
  refine ⟨len, fun A outer s H args us vs Q E hr e0 hb r hsp => ?_⟩
  have hl := len _ _ _ _ hsp
  have KX : K.In s.heap := e0.mod.kin.keeps fun b o e => (e0.bs b o e).1
  have lim : s.heap.NoLimit := e0.mod.nolimit.keeps fun b o e => (e0.bs b o e).1
  have hkind : ∀ y ∈ ps.zip us, scope.names.lookup y.1 = some .local ∨ (scope.names.lookup y.1 = some .cell ∧ ((cellsFrom (s.heap.objs.size + 1) scope.names []).lookup y.1).isSome = true) := fun ⟨n, v⟩ hy => by
    rcases S.par n (List.of_mem_zip hy).1 with q | q
    · exact .inl q
    · exact .inr ⟨q, PySem.W.cellsFrom_some _ _ _ (.inl q)⟩
  refine codeAny_call_function hr.depth (KX _ _ lk) rfl S.co S.gen rfl (PySem.W.codeRec_of KX hcd) (hb _ _ _ _ ?_)
  refine wpAny_newFunctionEnv_cells S.kind hkind fun env he s1 x => ?_
  subst he
  refine ⟨lim.keeps x.toInCall.keep, codeAny_func ?_⟩
  obtain ⟨t, ht, hq⟩ := hbody A outer s H vs Q E (hr.deeper _) hsp
  have I : Inv (cxOf CX P w K mg base N qual scope f cdv A outer s H E) [] (start N vs) H s1 := inv_start S hr.hd e0 hl r x
  refine wpAny_mono (ht [] s1 (start N vs) H _ I hq) (fun fl s' hs => ?_) fun e s' hs => hs
  have fin : ∀ {σ' : St} {H' : Hp} {v : V} {u : Value}, Inv (cxOf CX P w K mg base N qual scope f cdv A outer s H E) [] σ' H' s' → RelV v u → Q v H' → CE outer P w H s Q u s' :=
    fun {σ' H' v u} J rv q => ⟨v, H', J.os, J.bare, J.base, J.hok, rv, q⟩
  cases fl with
  | ret u =>
    obtain ⟨v, σ', H', J, rv, q⟩ := hs
    exact fin J rv q
  | next =>
    obtain ⟨σ', H', J, q⟩ := hs
    exact fin (v := V.non) (u := Value.none) J rfl q
  | brk =>
    obtain ⟨_, _, _, q⟩ := hs
    exact False.elim q
  | cont =>
    obtain ⟨_, _, _, q⟩ := hs
    exact False.elim q
end L2

namespace L2
open PySem PySem.Spec PyProof.Rows
section
variable {X : Cx} {x : Str} {p pos : Pos} {e : Expr} {es : List Expr} {t : TA} {id T : String} {r : List V → Hp → VK → Prop}

def tCB (r : List V → Hp → VK → Prop) (t : TA) : TE := fun σ H Q => t σ H fun vs H1 => r vs H1 Q

theorem pe_callB (hc : CallR X (.builtin id) r) (hg : Gl X x) (hm : X.mg x = none) (hv : bootBuiltins x = some (.builtin id)) (ha : PA X (e :: es) t) (hn : x ≠ "__name__" := by decide) (hdb : (x == ("__debug__" : Str)) = false := by decide)
    (he : starEach (e :: es) X.env = (false, eval e X.env) :: starEach es X.env := by rfl) (hpl : (backTo pos (starEach es X.env)).any (·.1) = false := by rfl) : PE X (.Call (.Name x p) (e :: es) [] pos) (tCB r t) := by
  intro pins s σ H Q I h
  refine wpAny_Call_Name_kw (ld_blt I hg hm hv ?_ hn hdb)
  exact PyProof.Rows.callWith_builtin1 (thn (ha pos pins s σ H _ I h) fun us s1 ⟨vs, H1, I1, r1, q1⟩ => hc pins s1 σ H1 vs us Q I1 r1 q1) he hpl

theorem pe_callTy (hc : CallR X (.type T) r) (hg : Gl X x) (hm : X.mg x = none) (hv : bootBuiltins x = some (.type T)) (ha : PA X (e :: es) t) (hn : x ≠ "__name__" := by decide) (hdb : (x == ("__debug__" : Str)) = false := by decide)
    (he : starEach (e :: es) X.env = (false, eval e X.env) :: starEach es X.env := by rfl) (hpl : (backTo pos (starEach es X.env)).any (·.1) = false := by rfl) : PE X (.Call (.Name x p) (e :: es) [] pos) (tCB r t) := by
  intro pins s σ H Q I h
  refine wpAny_Call_Name_kw (ld_blt I hg hm hv ?_ hn hdb)
  exact PyProof.Rows.callWith_type1 (thn (ha pos pins s σ H _ I h) fun us s1 ⟨vs, H1, I1, r1, q1⟩ => hc pins s1 σ H1 vs us Q I1 r1 q1) he hpl

end
end L2

namespace L2
open PySem PySem.Spec PyProof.Rows


section
variable {κ : Type} [DecidableEq κ]
end



section
variable {P : Program} {w : World} {H : Hp} {h : Heap} {a : Addr}
end


section
variable {X : Cx} {pins : List (Addr × Obj)} {σ : St} {H : Hp} {s : Shared} {a : Addr} {y v : V} {u r : Value} {o : Option V} {A : Around} {E : Value → Shared → Prop}

end

section
variable {X : Cx} {pins : List (Addr × Obj)} {σ : St} {H : Hp} {s : Shared} {a : Addr} {kvs : List (Key × V)} {k : Key} {u : Value} {A : Around} {E : Value → Shared → Prop}

end




section
variable {X : Cx} {o i e value : Expr} {pos pos' tpos : Pos} {td ty tv : TE}
end



section
variable {X : Cx} {pos : Pos}
end


section
variable {X : Cx} {pins : List (Addr × Obj)} {σ : St} {H : Hp} {s : Shared} {a : Addr} {y d : V} {u r : Value} {o : Option V} {A : Around} {E : Value → Shared → Prop}

end

section
variable {X : Cx} {o e f : Expr} {apos cpos : Pos} {td ty tx : TE}
end


section
variable {X : Cx} {pins : List (Addr × Obj)} {σ : St} {H : Hp} {s : Shared} {a : Addr} {kvs : List (Key × V)} {A : Around} {E : Value → Shared → Prop}
end


section
variable {X : Cx} {pins : List (Addr × Obj)} {σ : St} {H : Hp} {s : Shared} {a : Addr} {y : V} {u : Value} {A : Around} {E : Value → Shared → Prop}

end
end L2

namespace HT
open PySem PyProof.Rows


section
open PySem.SeqAt
open PySem.AutoSeq1 (wpAny_loadPart')
open PySem.MeetsSeq PySem.MeetsSeq2 PySem.MeetsSeq3

end

section
variable {prog : Program} {w : World} {A : Around} {E : Value → Shared → Prop} {s : Shared}

theorem cat_tup {t b : Addr} {vs ws : List Value} {Q : Value → Shared → Prop} (ht : IsTup s.heap t vs.toArray) (hb : IsTup s.heap b ws.toArray) (hv : vs ≠ [])
    (h1 : ws = [] → Q (.ref t) s) (h2 : ws ≠ [] → Q (.ref s.heap.objs.size) { s with heap := s.heap.push { cls := .type "tuple", data := .seq (vs ++ ws).toArray } })
    (hsz : vs.length + ws.length ≤ sizeLine) : wpAny (model prog w) A (binaryOp .Add (.ref t) (.ref b)) Q E s := by
  obtain ⟨⟨cls, dd, data, sl⟩, ho, hc, n, hd⟩ := id ht
  obtain ⟨⟨cls2, dd2, data2, sl2⟩, ho2, hc2, n2, hd2⟩ := id hb
  simp only at hc hd hc2 hd2
  subst hc hd hc2 hd2
  have e : vs.toArray ++ ws.toArray = (vs ++ ws).toArray := by simp
  by_cases hw : ws = []
  · exact concat_meets ⟨_, ho, rfl⟩ ⟨_, ho2, rfl⟩ noFill_tuple_add seq_tuple_add PySem.F.slot_tuple_add PySem.F.entry_tuple_add (PySem.F.args_tuple_add_2 _ _)
      (tuple_addW1 t b vs.toArray ws.toArray n n2 dd dd2 sl sl2 (by simpa using hv) (by simp [hw])) ⟨ho, ho2, h1 hw⟩
  · refine concat_meets ⟨_, ho, rfl⟩ ⟨_, ho2, rfl⟩ noFill_tuple_add seq_tuple_add PySem.F.slot_tuple_add PySem.F.entry_tuple_add (PySem.F.args_tuple_add_2 _ _)
      (tuple_addW2 t b vs.toArray ws.toArray n n2 dd dd2 sl sl2 (by simpa using hv) (by simpa using hw) (by rw [List.size_toArray, List.size_toArray]; exact hsz)) ⟨ho, ho2, ?_⟩
    rw [e]
    exact h2 hw



def sIx (n d : Nat) : Option Int → Nat
  | none => d
  | some v => if v < 0 then (v + (n : Int)).toNat else min v.toNat n
theorem sIx_le (n d : Nat) (hd : d ≤ n) (o : Option Int) : sIx n d o ≤ n := by
  cases o with
  | none => exact hd
  | some v =>
    show (if v < 0 then (v + (n : Int)).toNat else min v.toNat n) ≤ n
    by_cases hv : v < 0
    · rw [if_pos hv]; omega
    · rw [if_neg hv]; exact Nat.min_le_right _ _
theorem clip_eq (v : Int) (n d : Nat) : (if v < 0 then max (v + (n : Int)) 0 else min v (n : Int)) = ((sIx n d (some v) : Nat) : Int) := by
  show (if v < 0 then max (v + (n : Int)) 0 else min v (n : Int)) = (((if v < 0 then (v + (n : Int)).toNat else min v.toNat n) : Nat) : Int)
  by_cases hv : v < 0
  · simp only [if_pos hv]; omega
  · simp only [if_neg hv]; omega
theorem adjust_gen (lo hi : Option Int) (n : Nat) : Builtin.Slice.sliceAdjust lo hi 1 (n : Int) = (((sIx n 0 lo : Nat) : Int), ((sIx n n hi : Nat) : Int)) := by
  have h1 : ¬ ((1 : Int) < 0) := by omega
  unfold Builtin.Slice.sliceAdjust
  simp only [h1, if_false]
  refine Prod.ext ?_ ?_
  · cases lo with
    | none => rfl
    | some v => exact clip_eq v n 0
  · cases hi with
    | none => rfl
    | some v => exact clip_eq v n n
theorem places_gen (i j : Nat) : Builtin.Slice.slicePlaces (i : Int) (j : Int) 1 = j - i := by
  unfold Builtin.Slice.slicePlaces
  have h1 : (1 : Int) > 0 := by omega
  simp only [h1, if_true, Int.ediv_one]
  split <;> omega
theorem slicePart_ {v : Value} {o : Option Int} {Q : Option Int → Shared → Prop} (p : IsPart v o) (h : Q o s) : wpAny (model prog w) A (Builtin.Slice.slicePartIndex v) Q E s := by
  cases p with
  | none => exact slicePart_none h
  | int i t => exact slicePart_int h
theorem sliceApplied_gen {sl : Addr} {vl vu : Value} {lo hi : Option Int} {n : Nat} {Q : Int × Int × Nat → Shared → Prop} (hs : s.heap.IsSliceOf sl vl vu .none) (pl : IsPart vl lo) (pu : IsPart vu hi)
    (h : Q (((sIx n 0 lo : Nat) : Int), 1, sIx n n hi - sIx n 0 lo) s) : wpAny (model prog w) A (Builtin.Slice.sliceApplied (.ref sl) (pure (n : Int))) Q E s := by
  obtain ⟨os, hos, hcs, hds⟩ := id hs
  unfold Builtin.Slice.sliceApplied Builtin.Slice.sliceFields
  refine wpAny_bind (wpAny_bind (wpAny_field hos hds (x := vl) rfl (wpAny_bind (wpAny_field hos hds (x := vu) rfl (wpAny_bind (wpAny_field hos hds (x := .none) rfl (wpAny_pure ?_)))))))
  refine wpAny_bind (slicePart_none ?_)
  show wpAny _ _ (if ((1 : Int) == 0) = true then _ else _) _ _ s
  rw [if_neg (by decide)]
  refine wpAny_bind (slicePart_ pl (wpAny_bind (slicePart_ pu (wpAny_bind (wpAny_pure ?_)))))
  show wpAny _ _ (match Builtin.Slice.sliceAdjust lo hi 1 (n : Int) with | (lo, hi) => pure (lo, (1 : Int), Builtin.Slice.slicePlaces lo hi 1)) _ _ s
  rw [adjust_gen lo hi n]
  show wpAny _ _ (pure (((sIx n 0 lo : Nat) : Int), (1 : Int), Builtin.Slice.slicePlaces ((sIx n 0 lo : Nat) : Int) ((sIx n n hi : Nat) : Int) 1)) _ _ s
  rw [places_gen]
  exact wpAny_pure h
theorem pick_gen (xs : Array Value) (i k : Nat) : ((List.range k).filterMap fun (m : Nat) => xs[((i : Int) + (m : Int) * 1).toNat]?).toArray = ((xs.toList.drop i).take k).toArray := by
  have e : (fun (m : Nat) => xs[((i : Int) + (m : Int) * 1).toNat]?) = fun m => xs[i + m]? := by
    funext m
    have : ((i : Int) + (m : Int) * 1).toNat = i + m := by omega
    rw [this]
  rw [e]
  have := pick_run xs i k
  rw [List.filterMap_map] at this
  have e2 : ((fun x => xs[x]?) ∘ fun x => i + x) = fun m => xs[i + m]? := rfl
  rw [e2] at this
  rw [this]

theorem getItem_tuple_cut {t sl : Addr} {items : Array Value} {vl vu : Value} {lo hi : Option Int} {Q : Value → Shared → Prop} (ht : IsTup s.heap t items) (hs : s.heap.IsSliceOf sl vl vu .none) (pl : IsPart vl lo) (pu : IsPart vu hi)
    (hw : ¬ (sIx items.size 0 lo = 0 ∧ sIx items.size items.size hi = items.size))
    (h : Q (.ref s.heap.objs.size) { s with heap := s.heap.push { cls := .type "tuple", data := .seq ((items.toList.drop (sIx items.size 0 lo)).take (sIx items.size items.size hi - sIx items.size 0 lo)).toArray } })
    (hsz : items.size ≤ sizeLine) : wpAny (model prog w) A (getItem (.ref t) (.ref sl)) Q E s := by
  have htake : sizeOk (.seq ((items.toList.drop (sIx items.size 0 lo)).take (sIx items.size items.size hi - sIx items.size 0 lo)).toArray) := by
    show ((items.toList.drop (sIx items.size 0 lo)).take (sIx items.size items.size hi - sIx items.size 0 lo)).toArray.size ≤ sizeLine
    rw [List.size_toArray, List.length_take, List.length_drop, Array.length_toList]
    omega
  have hj : sIx items.size items.size hi ≤ items.size := sIx_le _ _ (Nat.le_refl _) hi
  obtain ⟨os, hos, hcs, hds⟩ := id hs
  have hTs : s.TypeIs (.ref sl) "slice" := ⟨os, hos, hcs⟩
  unfold getItem
  try with_reducible refine wpAny_holding ?_
  first | refine wpAny_bind (wpAny_pure ?_) | skip
  refine wpAny_bind (wpAny_sequenceKey ht.typeIs (by decide) ?_)
  refine wpAny_bind (wpAny_callSpecial?_slot (name := Str.ofString "__getitem__") ht.typeIs PyProof.Rows.slot_tuple_getitem
    (wpAny_call_entry PyProof.Rows.slot_tuple_getitem ht.typeIs entry_tuple_getitem ?_ (args_tuple_getitem _ _)))
  show wpAny _ _ (Builtin.Tuple.tupleItemsOf (.ref t) >>= _) _ _ s
  refine wpAny_bind (tupleItemsOf_ ht ?_)
  refine wpAny_bind (wpAny_typeOf hTs ?_)
  rw [if_pos (by decide)]
  refine wpAny_bind (sliceApplied_gen hs pl pu ?_)
  have hno : ¬ ((((sIx items.size 0 lo : Nat) : Int) == 0 && (1 : Int) == 1 && (sIx items.size items.size hi - sIx items.size 0 lo) == items.size) = true) := by
    intro q
    rw [Bool.and_eq_true, Bool.and_eq_true] at q
    have q1 : ((sIx items.size 0 lo : Nat) : Int) = 0 := eq_of_beq q.1.1
    have q2 : sIx items.size items.size hi - sIx items.size 0 lo = items.size := eq_of_beq q.2
    exact hw ⟨by omega, by omega⟩
  show wpAny _ _ (if (((sIx items.size 0 lo : Nat) : Int) == 0 && (1 : Int) == 1 && (sIx items.size items.size hi - sIx items.size 0 lo) == items.size) = true then _ else _) _ _ s
  rw [if_neg hno, pick_gen]
  first
    | exact wpAny_bind (m := Builtin.Tuple.tupleExact _) (wpAny_newObj_type (wpAny_pure ⟨_, rfl, wpAny_pure h⟩) htake)
    | exact wpAny_bind (m := Builtin.Tuple.tupleExact _) (wpAny_newObj_type (wpAny_bind (wpAny_pure (wpAny_pure ⟨_, rfl, wpAny_pure h⟩))) htake)
    | exact wpAny_bind (wpAny_bind (m := Builtin.Tuple.tupleExact _) (wpAny_newObj_type (wpAny_pure (wpAny_pure ⟨_, rfl, wpAny_pure h⟩)) htake))
    | exact wpAny_bind (wpAny_bind (m := Builtin.Tuple.tupleExact _) (wpAny_newObj_type (wpAny_pure ⟨_, rfl, wpAny_pure h⟩) htake))
end
end HT

namespace L2
open PySem PySem.Spec PyProof.Rows


abbrev TO := St → Hp → (Option Int → Hp → Prop) → Prop

def PO (X : Cx) (e : Option Expr) (t : TO) : Prop :=
  ∀ (pins : List (Addr × Obj)) (s : Shared) (σ : St) (H : Hp) (Q : Option Int → Hp → Prop), Inv X pins σ H s → t σ H Q →
    wpAny (model X.prog X.w) X.A (evalPart e X.env) (fun u s' => ∃ o H', Inv X pins σ H' s' ∧ IsPart u o ∧ Q o H') X.xe s
def tNoPart : TO := fun _ H Q => Q none H
def tPart (t : TE) : TO := fun σ H Q => t σ H fun x H1 => ∃ i, x = .int i ∧ Q (some i) H1

section
variable {X : Cx} {e : Expr} {te : TE} {lo hi : Option Expr} {tl th : TO} {pos p2 : Pos}

theorem po_none : PO X none tNoPart := by
  intro pins s σ H Q I h
  rw [evalPart_none]
  exact wpAny_pure ⟨none, H, I, .none, h⟩
theorem po_some (h : PE X e te) : PO X (some e) (tPart te) := by
  intro pins s σ H Q I hw
  rw [evalPart_some]
  refine thn (h pins s σ H _ I hw) fun u s1 ⟨x, H1, I1, r1, q1⟩ => ?_
  obtain ⟨i, rfl, q⟩ := q1
  obtain ⟨t, rfl⟩ := r1
  exact ⟨some i, H1, I1, .int i t, q⟩


def SlR (X : Cx) (r : V → Option Int → Option Int → Hp → VK → Prop) : Prop :=
  ∀ (pins : List (Addr × Obj)) (s : Shared) (σ : St) (H : Hp) (x : V) (v vl vu : Value) (lo hi : Option Int) (sl : Addr) (Q : VK), Inv X pins σ H s → RelV x v → s.heap.IsSliceOf sl vl vu .none → IsPart vl lo → IsPart vu hi → r x lo hi H Q →
    ∃ T id, typeLookup (.type T) "__getitem__" = pure (some (.builtin id)) ∧ s.TypeIs v T ∧ wpAny (model X.prog X.w) X.A (getItem v (.ref sl)) (EP X pins σ Q) X.xe s
def tSl (r : V → Option Int → Option Int → Hp → VK → Prop) (te : TE) (tl th : TO) : TE := fun σ H Q => te σ H fun x H1 => tl σ H1 fun l H2 => th σ H2 fun u H3 => r x l u H3 Q

theorem pe_slice {r : V → Option Int → Option Int → Hp → VK → Prop} (hr : SlR X r) (he : PE X e te) (hl : PO X lo tl) (hu : PO X hi th) : PE X (.Subscript e (.Slice lo hi none p2) pos) (tSl r te tl th) := by
  intro pins s σ H Q I h
  refine Subscript_ (thn (he pins s σ H _ I h) fun v s1 ⟨x, H1, I1, r1, q1⟩ => ?_)
  refine wpAny_Slice (thn (hl pins s1 σ H1 _ I1 q1) fun vl s2 ⟨l, H2, I2, pl, q2⟩ => thn (hu pins s2 σ H2 _ I2 q2) fun vu s3 ⟨u, H3, I3, pu, q3⟩ => ?_)
  rw [evalPart_none]
  refine wpAny_pure ?_
  have I4 : Inv X pins σ H3 { s3 with heap := s3.heap.push { cls := .type "slice", data := .fields #[vl, vu, .none] } } := I3.kept (t' := s3.toks) fun b ob q => Heap.get?_push_of_some _ q
  obtain ⟨T, id, hT, ht, hg⟩ := hr pins { s3 with heap := s3.heap.push { cls := .type "slice", data := .fields #[vl, vu, .none] } } σ H3 x v vl vu l u s3.heap.objs.size Q I4 r1 (Heap.IsSliceOf.new ..) pl pu q3
  show wpAny (model X.prog X.w) X.A (subscriptTail e (.Slice lo hi none p2) v (.ref s3.heap.objs.size)) (EP X pins σ Q) X.xe { s3 with heap := s3.heap.push { cls := .type "slice", data := .fields #[vl, vu, .none] } }
  exact tail_any (ops := [.ref s3.heap.objs.size, v]) ht hT hg (by with_unfolding_all rfl)


def cutV (xs : List V) (lo hi : Option Int) : List V := (xs.drop (HT.sIx xs.length 0 lo)).take (HT.sIx xs.length xs.length hi - HT.sIx xs.length 0 lo)
theorem cutV_length (xs : List V) (lo hi : Option Int) : (cutV xs lo hi).length ≤ xs.length := by
  unfold cutV
  rw [List.length_take, List.length_drop]
  omega

def rSlT (K : PySem.W.Frag) : V → Option Int → Option Int → Hp → VK → Prop := fun x lo hi H Q => ∃ a xs, x = .ref a ∧ SqT K H a xs ∧
  ¬ (HT.sIx xs.length 0 lo = 0 ∧ HT.sIx xs.length xs.length hi = xs.length) ∧ ∀ p, H p = none → Q (.ref p) (upd H p (.tup (cutV xs lo hi)))
theorem sl_tup : SlR X (rSlT X.K) := by
  intro pins s σ H x v vl vu lo hi sl Q I rx hs pl pu h
  obtain ⟨a, xs, rfl, hx, hw, q⟩ := h
  cases rx
  obtain ⟨its, r, ht, hz⟩ := I.tuple hx
  have hlen : its.toArray.size = xs.length := by rw [List.size_toArray]; exact r.length.symm
  refine ⟨"tuple", _, PyProof.Rows.slot_tuple_getitem.lookup, ht.typeIs, ?_⟩
  refine HT.getItem_tuple_cut ht hs pl pu (by rw [hlen]; exact hw) ?_ (by rw [hlen]; exact hz)
  rw [hlen]
  refine ⟨.ref s.heap.objs.size, _, I.laid (t' := s.toks) (o := .tup (cutV xs lo hi)) (fun b ob q => Heap.get?_push_of_some _ q) (Nat.le_refl _) ?_, rfl, q _ (I.hok.fresh (Nat.le_refl _))⟩
  exact ⟨Nat.le_trans (cutV_length xs lo hi) hz, _, (r.drop (HT.sIx xs.length 0 lo)).take (HT.sIx xs.length xs.length hi - HT.sIx xs.length 0 lo), IsTpl.new _ _⟩


def rCatT (K : PySem.W.Frag) : R2 := fun x y H Q => ∃ a b xs ys, x = .ref a ∧ y = .ref b ∧ SqT K H a xs ∧ SqT K H b ys ∧ xs ≠ [] ∧ xs.length + ys.length ≤ sizeLine ∧
  (ys = [] → Q (.ref a) H) ∧ (ys ≠ [] → ∀ p, H p = none → Q (.ref p) (upd H p (.tup (xs ++ ys))))
theorem Vals.nil_iff {xs : List V} {us : List Value} (r : Vals xs us) : us = [] ↔ xs = [] := by
  cases r with
  | nil => simp
  | cons _ _ => simp
theorem op_catT : OpR X (binaryOp .Add) (rCatT X.K) := by
  intro pins s σ H x y v u Q I rx ry h
  obtain ⟨a, b, xs, ys, rfl, rfl, ha, hb, hx, hz, q1, q2⟩ := h
  cases rx
  cases ry
  obtain ⟨its, r1, p1, _⟩ := I.tuple ha
  obtain ⟨its2, r2, p2, _⟩ := I.tuple hb
  refine HT.cat_tup p1 p2 (fun z => hx (r1.nil_iff.mp z)) (fun z => ⟨.ref a, H, I, rfl, q1 (r2.nil_iff.mp z)⟩) (fun z => ?_) (by rw [← r1.length, ← r2.length]; exact hz)
  refine ⟨.ref s.heap.objs.size, _, I.laid (t' := s.toks) (o := .tup (xs ++ ys)) (fun b ob q => Heap.get?_push_of_some _ q) (Nat.le_refl _) ?_, rfl, q2 (fun w => z (r2.nil_iff.mpr w)) _ (I.hok.fresh (Nat.le_refl _))⟩
  exact ⟨by rw [List.length_append]; exact hz, _, r1.append r2, IsTpl.new _ _⟩

end
end L2

namespace L2
open PySem PySem.Spec PyProof.Rows



def ixN (n : Nat) (i : Int) : Option Nat := if 0 ≤ i then (if i < n then some i.toNat else none) else if -(n : Int) ≤ i then some (i + n).toNat else none
def atI {α : Type} (xs : List α) (i : Int) : Option α := (ixN xs.length i).bind fun j => xs[j]?
theorem ixN_seq {n : Nat} {i : Int} {j : Nat} (h : ixN n i = some j) : seqIndex? i n = some j ∧ j < n ∧ -(n : Int) ≤ i ∧ i < n := by
  unfold ixN at h
  by_cases h0 : 0 ≤ i
  · rw [if_pos h0] at h
    by_cases h1 : i < n
    · rw [if_pos h1] at h
      have e : i.toNat = j := Option.some.inj h
      exact ⟨by rw [seqIndex_of h0 h1, e], by omega, by omega, h1⟩
    · rw [if_neg h1] at h; cases h
  · rw [if_neg h0] at h
    by_cases h1 : -(n : Int) ≤ i
    · rw [if_pos h1] at h
      have e : (i + n).toNat = j := Option.some.inj h
      exact ⟨by rw [seqIndex_neg (by omega) h1, e], by omega, h1, by omega⟩
    · rw [if_neg h1] at h; cases h
theorem atI_get {α : Type} {xs : List α} {i : Int} {v : α} (h : atI xs i = some v) : ∃ j, seqIndex? i xs.length = some j ∧ xs[j]? = some v ∧ j < xs.length ∧ -(xs.length : Int) ≤ i ∧ i < xs.length := by
  unfold atI at h
  cases e : ixN xs.length i with
  | none => rw [e] at h; cases h
  | some j =>
    rw [e] at h
    obtain ⟨h1, h2, h3, h4⟩ := ixN_seq e
    exact ⟨j, h1, h, h2, h3, h4⟩
theorem atI_nat {α : Type} {xs : List α} {j : Nat} {v : α} (h : xs[j]? = some v) : atI xs (j : Int) = some v := by
  have hj : j < xs.length := (List.getElem?_eq_some_iff.mp h).1
  have e : ixN xs.length (j : Int) = some j := by
    unfold ixN
    rw [if_pos (by omega), if_pos (by omega)]; simp
  unfold atI; rw [e]; exact h
def PlainIx (b : Expr) : Prop := ∀ o i, subscripted b false o i = operate [o, i] (getItem o i)

def IxR (X : Cx) (r : R2) : Prop :=
  ∀ (value slice : Expr) (pins : List (Addr × Obj)) (s : Shared) (σ : St) (H : Hp) (x y : V) (v u : Value) (Q : VK), Inv X pins σ H s → RelV x v → RelV y u → r x y H Q →
    subscripted slice false v u = operate [v, u] (getItem v u) → wpAny (model X.prog X.w) X.A (subscriptTail value slice v u) (EP X pins σ Q) X.xe s

def MtR (X : Cx) (id : String) (r : V → List V → Hp → VK → Prop) : Prop :=
  ∀ (pins : List (Addr × Obj)) (s : Shared) (σ : St) (H : Hp) (x : V) (xs : List V) (v : Value) (us : List Value) (Q : VK), Inv X pins σ H s → RelV x v → Vals xs us → r x xs H Q →
    wpAny (model X.prog X.w) X.A (call (.builtin id) (v :: us)) (EP X pins σ Q) X.xe s
section
variable {X : Cx} {a b : Expr} {ta tb : TE} {pos : Pos}
theorem pe_ix {r : R2} (hr : IxR X r) (ha : PE X a ta) (hb : PE X b tb) (hs : PlainIx b) : PE X (.Subscript a b pos) (tOp r ta tb) := by
  intro pins s σ H Q I h
  exact Subscript_ (binT ha hb I h fun v u s2 x y H2 I2 rx ry q => hr a b pins s2 σ H2 x y v u Q I2 rx ry q (hs _ _))

def rIxL (K : PySem.W.Frag) : R2 := fun x y H Q => ∃ p xs i v, x = .ref p ∧ y = .int i ∧ SqL K H p xs ∧ atI xs i = some v ∧ Q v H
def rIxT (K : PySem.W.Frag) : R2 := fun x y H Q => ∃ p xs i v, x = .ref p ∧ y = .int i ∧ SqT K H p xs ∧ atI xs i = some v ∧ Q v H
theorem ix_list : IxR X (rIxL X.K) := by
  intro value slice pins s σ H x y v u Q I rx ry h hs
  obtain ⟨p, xs, i, z, rfl, rfl, hq, he, q⟩ := h
  cases rx
  obtain ⟨t, rfl⟩ := ry
  obtain ⟨its, r, pl, hz⟩ := I.list hq
  obtain ⟨j, h1, h2, h3, h4, h5⟩ := atI_get he
  obtain ⟨w, ew, rw'⟩ := r.get h2
  have hl := r.length
  have hn := line63
  have fin : EP X pins σ Q w s := ⟨z, H, I, rw', q⟩
  by_cases h0 : 0 ≤ i
  · have hj : i.toNat = j := by
      rw [seqIndex_of h0 h5] at h1
      exact Option.some.inj h1
    exact item_listR pl.isList h0 (by omega) (by rw [hj]; simpa using ew) fin hs
  · have hj : (i + (its.toArray.size : Int)).toNat = j := by
      rw [seqIndex_neg (by omega) h4] at h1
      rw [List.size_toArray, ← hl]
      exact Option.some.inj h1
    exact subscriptTail_builtinR (x := w) pl.isList.typeIs slot_list_getitem.lookup
      (wpAny_getItem_list_neg (Q := fun r s' => r = w ∧ EP X pins σ Q r s') pl.isList (by omega) (by rw [List.size_toArray] <;> omega) (by omega) (by rw [hj]; simpa using ew) ⟨rfl, fin⟩) hs
theorem ix_tup : IxR X (rIxT X.K) := by
  intro value slice pins s σ H x y v u Q I rx ry h hs
  obtain ⟨p, xs, i, z, rfl, rfl, hq, he, q⟩ := h
  cases rx
  obtain ⟨t, rfl⟩ := ry
  obtain ⟨its, r, pl, hz⟩ := I.tuple hq
  obtain ⟨j, h1, h2, h3, h4, h5⟩ := atI_get he
  obtain ⟨w, ew, rw'⟩ := r.get h2
  have hl := r.length
  have hn := line63
  have fin : EP X pins σ Q w s := ⟨z, H, I, rw', q⟩
  exact subscriptTail_builtinR (x := w) pl.typeIs slot_tuple_getitem.lookup
    (getItem_tuple (j := j) (Q := fun r s' => r = w ∧ EP X pins σ Q r s') pl (by omega) (by omega) (by rw [List.size_toArray, ← hl]; exact h1) (by simpa using ew) ⟨rfl, fin⟩) hs
theorem slice_bounds (lo hi : Option Int) (n : Nat) : (sliceBounds lo hi none n).1 = ((HT.sIx n 0 lo : Nat) : Int) ∧ (sliceBounds lo hi none n).2.1 = ((HT.sIx n n hi : Nat) : Int) ∧ (sliceBounds lo hi none n).2.2 = 1 := by
  refine ⟨?_, ?_, rfl⟩
  · cases lo with
    | none => simp [sliceBounds, HT.sIx]
    | some i =>
      simp only [sliceBounds, HT.sIx, Option.getD_none, show (1 : Int) > 0 by decide, if_true]
      by_cases h : i < 0
      · simp only [h, if_true] <;> omega
      · simp only [h, if_false] <;> omega
  · cases hi with
    | none => simp [sliceBounds, HT.sIx]
    | some i =>
      simp only [sliceBounds, HT.sIx, Option.getD_none, show (1 : Int) > 0 by decide, if_true]
      by_cases h : i < 0
      · simp only [h, if_true] <;> omega
      · simp only [h, if_false] <;> omega
theorem slicePick_cut (its : List Value) (lo hi : Option Int) : slicePick its.toArray lo hi none = ((its.drop (HT.sIx its.length 0 lo)).take (HT.sIx its.length its.length hi - HT.sIx its.length 0 lo)).toArray := by
  obtain ⟨h1, h2, h3⟩ := slice_bounds lo hi its.toArray.size
  unfold slicePick
  rw [h1, h2, h3]
  simp only [sliceRange_one, pick_run, List.size_toArray] <;> rfl

def rSlL (K : PySem.W.Frag) : V → Option Int → Option Int → Hp → VK → Prop := fun x lo hi H Q => ∃ a xs, x = .ref a ∧ SqL K H a xs ∧ ∀ p, H p = none → Q (.ref p) (upd H p (.lst (cutV xs lo hi)))
theorem sl_list : SlR X (rSlL X.K) := by
  intro pins s σ H x v vl vu lo hi sl Q I rx hs pl pu h
  obtain ⟨a, xs, rfl, hx, q⟩ := h
  cases rx
  obtain ⟨its, r, ht, hz⟩ := I.list hx
  have hlen := r.length
  refine ⟨"list", _, slot_list_getitem.lookup, ht.isList.typeIs, ?_⟩
  refine wpAny_getItem_list_slice ht.isList hs pl pu .none (by simp) ?_ (by rw [List.size_toArray] <;> omega)
  rw [slicePick_cut, ← hlen]
  refine ⟨.ref s.heap.objs.size, _, I.laid (t' := s.toks) (o := .lst (cutV xs lo hi)) (fun b ob q => Heap.get?_push_of_some _ q) (Nat.le_refl _) ?_, rfl, q _ (I.hok.fresh (Nat.le_refl _))⟩
  exact ⟨Nat.le_trans (cutV_length xs lo hi) hz, _, 0, (r.drop (HT.sIx xs.length 0 lo)).take (HT.sIx xs.length xs.length hi - HT.sIx xs.length 0 lo), Heap.get?_push_size _ rfl⟩


theorem call_len_seq : CallR X (.builtin "len") (fun xs H Q => ∃ p ys, xs = [.ref p] ∧ (SqL X.K H p ys ∨ SqT X.K H p ys) ∧ Q (.int ys.length) H) := by
  intro pins s σ H xs us Q I r h
  obtain ⟨p, ys, rfl, hq, q⟩ := h
  obtain ⟨u, rfl, rx⟩ := vals1 r
  cases rx
  have hn := line63
  rcases hq with hq | hq
  · obtain ⟨its, r', pl, hz⟩ := I.list hq
    have hlen := r'.length
    exact Calls.call_len_list pl.isList (by simp only [List.size_toArray] <;> omega) ⟨.int ys.length, H, I.tok _, ⟨s.toks + 1, by rw [List.size_toArray, hlen]⟩, q⟩
  · obtain ⟨its, r', pl, hz⟩ := I.tuple hq
    have hlen := r'.length
    exact len_tuple pl (by simp only [List.size_toArray] <;> omega) ⟨.int ys.length, H, I.tok _, ⟨s.toks + 1, by rw [List.size_toArray, hlen]⟩, q⟩
theorem call_tuple_of : CallR X (.type "tuple") (fun xs H Q => ∃ p ys, xs = [.ref p] ∧ ((SqL X.K H p ys ∧ ∀ l, H l = none → Q (.ref l) (upd H l (.tup ys))) ∨ (SqT X.K H p ys ∧ Q (.ref p) H))) := by
  intro pins s σ H xs us Q I r h
  obtain ⟨p, ys, rfl, h⟩ := h
  obtain ⟨u, rfl, rx⟩ := vals1 r
  cases rx
  rcases h with ⟨hq, q⟩ | ⟨hq, q⟩
  · obtain ⟨its, r', pl, hz⟩ := I.list hq
    have hlen := r'.length
    refine call_tuple_list pl.isList (fun h' kp => ?_) (by simp only [List.size_toArray] <;> omega)
    have I1 : Inv X pins σ H { s with heap := h' } := I.kept (t' := s.toks) kp
    have I2 : Inv X pins σ (upd H h'.objs.size (.tup ys)) { s with heap := h'.push { cls := .type "tuple", data := .seq its.toArray } } :=
      I1.laid (t' := s.toks) (fun b o e => Heap.get?_push_of_some _ e) (Nat.le_refl _) (show ObjOk X.prog X.w _ _ _ (.tup ys) from ⟨hz, its, r', IsTpl.new _ _⟩)
    exact ⟨.ref h'.objs.size, _, I2, rfl, q _ (I1.hok.fresh (Nat.le_refl _))⟩
  · obtain ⟨its, r', pl, hz⟩ := I.tuple hq
    exact call_tuple_same pl ⟨.ref p, H, I, rfl, q⟩



def tyV (K : PySem.W.Frag) (T : String) (x : V) (H : Hp) : Prop := match x with
  | .str _ => T = "str"
  | .int _ => T = "int"
  | .ref p => (T = "list" ∧ ∃ xs, SqL K H p xs) ∨ (T = "tuple" ∧ ∃ o, K.lookup p = some o ∧ o.cls = .type "tuple" ∧ o.dict = none) ∨
      (T = "dict" ∧ ((∃ kvs, H p = some (.dK kvs)) ∨ ∃ kvs, H p = some (.dT kvs))) ∨ (T = "set" ∧ ∃ S n, H p = some (.set S n))
  | _ => False
theorem tyV_is {pins : List (Addr × Obj)} {σ : St} {H : Hp} {s : Shared} {T : String} {x : V} {v : Value} (I : Inv X pins σ H s) (r : RelV x v) (ty : tyV X.K T x H) :
    s.TypeIs v T ∧ ∀ a, v = .ref a → ∃ ob, s.heap.get? a = some ob ∧ ob.dict = none := by
  cases x with
  | str z =>
    obtain ⟨t, rfl⟩ := r
    cases (show T = "str" from ty)
    exact ⟨typeIs_str s z t, fun _ e => nomatch e⟩
  | int i =>
    obtain ⟨t, rfl⟩ := r
    cases (show T = "int" from ty)
    exact ⟨typeIs_int s i t, fun _ e => nomatch e⟩
  | ref p =>
    cases r
    rcases ty with ⟨rfl, xs, hq⟩ | ⟨rfl, o, hk, hc, hd⟩ | ⟨rfl, hk⟩ | ⟨rfl, S, n, hk⟩
    · obtain ⟨its, _, pl, _⟩ := I.list hq
      refine ⟨pl.isList.typeIs, fun a e => ?_⟩
      cases e
      obtain ⟨o, n, e, c, hd, _⟩ := pl
      exact ⟨o, e, hd⟩
    · refine ⟨⟨o, I.kIn p o hk, hc⟩, fun a e => ?_⟩
      cases e
      exact ⟨o, I.kIn _ o hk, hd⟩
    · have z : ∃ o, s.heap.get? p = some o ∧ o.ExactDict := by
        rcases hk with ⟨kvs, hk⟩ | ⟨kvs, hk⟩
        · obtain ⟨_, _, _, _, o, _, _, e, ex, _⟩ := I.hok p _ hk
          exact ⟨o, e, ex⟩
        · obtain ⟨_, _, _, _, o, _, _, e, ex, _⟩ := I.hok p _ hk
          exact ⟨o, e, ex⟩
      obtain ⟨o, e, ex⟩ := z
      refine ⟨⟨o, e, ex.1⟩, fun a e2 => ?_⟩
      cases e2
      exact ⟨o, e, ex.2.1⟩
    · obtain ⟨o, _, _, _, e, ex, _⟩ := I.hok p _ hk
      refine ⟨⟨o, e, ex.1⟩, fun a e2 => ?_⟩
      cases e2
      exact ⟨o, e, ex.2.1⟩
  | _ => exact False.elim ty
def tBM (K : PySem.W.Frag) (T : String) (r : V → List V → Hp → VK → Prop) (to : TE) (t : TA) : TE := fun σ H Q => to σ H fun x H1 => tyV K T x H1 ∧ t σ H1 fun xs H2 => r x xs H2 Q
variable {o e : Expr} {es : List Expr} {to : TE} {t : TA} {name : Str} {apos cpos : Pos} {T id : String} {r : V → List V → Hp → VK → Prop}
theorem pe_bm (pa : PlainAttrs T) (slot : Slot T name id) (hty : typeOf (.builtin id) = pure (.type "method_descriptor")) (hm : MtR X id r) (ho : PE X o to) (ha : PA X (e :: es) t)
    (hbase : attributeBase o name X.env (eval o X.env) = eval o X.env := by rfl)
    (hfew : ((backTo cpos (starEach (e :: es) X.env)).all (fun x => !x.1) && (backToKw cpos (keywordEach [] X.env)).all (fun x => x.1.isSome)
      && decide ((e :: es).length + ([] : List Keyword).length + (if ([] : List Keyword).isEmpty then 0 else 1) < 30)) = true := by rfl)
    (hline : (apos.endLine == cpos.line) = true := by rfl) (hs : starEach (e :: es) X.env = (false, eval e X.env) :: starEach es X.env := by rfl) (hplain : (backTo cpos (starEach es X.env)).any (·.1) = false := by rfl) :
    PE X (.Call (.Attribute o name apos) (e :: es) [] cpos) (tBM X.K T r to t) := by
  intro pins s σ H Q I h
  refine wpAny_Call_method_late hbase hfew hline rfl (thn (ho pins s σ H _ I h) fun v s1 ⟨x, H1, I1, r1, ty, q1⟩ => ?_)
  obtain ⟨h1, h2⟩ := tyV_is I1 r1 ty
  refine ⟨T, id, pa, slot, hty, h1, h2, ?_⟩
  have hA := ha cpos pins s1 σ H1 _ I1 q1
  rw [hs] at hA ⊢
  refine Calls.callWith_builtin (by show (false || (backTo cpos (starEach es X.env)).any (·.1)) = false; rw [hplain] <;> rfl) (Calls.evalArgs_plain ?_)
  exact thn hA fun us s2 ⟨vs, H2, I2, r2, q2⟩ => hm pins s2 σ H2 x vs v us Q I2 r1 r2 q2

end
end L2

namespace L2
open PySem PySem.Spec PyProof.Rows

def MtM (X : Cx) (id : String) (r : V → List V → Hp → VK → Prop) : Prop :=
  ∀ (pins : List (Addr × Obj)) (s : Shared) (σ : St) (H : Hp) (x : V) (xs : List V) (v : Value) (us : List Value) (Q : VK), Inv X pins σ H s → RelV x v → Vals xs us → r x xs H Q →
    wpAny (model X.prog X.w) X.A (call (.builtin id) (v :: us)) (EP X pins σ Q) X.xe s


theorem Vals.one : ∀ {x : V} {us : List Value}, Vals [x] us → ∃ u, us = [u] ∧ RelV x u
  | _, _, .cons r .nil => ⟨_, rfl, r⟩
section
variable {X : Cx} {pins : List (Addr × Obj)} {σ : St} {H : Hp} {s : Shared} {l b : Addr} {xs ys zs : List V}


theorem Inv.lset {its its' : List Value} {n : Nat} {f : Array Value → Array Value} {t' : Nat} (I : Inv X pins σ H s) (hH : H l = some (.lst xs))
    (e : s.heap.get? l = some { cls := .type "list", data := .seq its.toArray n }) (hf : f its.toArray = its'.toArray) (hv : Vals ys its') (hz : ys.length ≤ sizeLine) :
    Inv X pins σ (upd H l (.lst ys)) { s with heap := s.heap.update l (Obj.mapSeq f), toks := t' } := by
  have q := PySem.IsL.update e f
  rw [hf] at q
  refine I.write (x := l) (e := l) (by rw [hH]; exact trivial) (.inl rfl) (fun b' u hb hu => (Heap.get?_update_other s.heap (Obj.mapSeq f) (Ne.symm hb)).trans hu) ⟨_, q⟩ ?_
  exact ⟨hz, its', _, hv, q⟩
theorem Inv.lstM (I : Inv X pins σ H s) (hH : H l = some (.lst xs)) : xs.length ≤ sizeLine ∧ ∃ (its : List Value) (n : Nat), Vals xs its ∧ xs.length = its.length ∧ s.heap.get? l = some { cls := .type "list", data := .seq its.toArray n } := by
  obtain ⟨z, its, n, r, e⟩ := I.hok l _ hH
  exact ⟨z, its, n, r, r.length, e⟩

end

section
variable {X : Cx}


def rAppend : V → List V → Hp → VK → Prop := fun x vs H Q => ∃ l xs y, x = .ref l ∧ vs = [y] ∧ H l = some (.lst xs) ∧ xs.length < sizeLine ∧ Q .non (upd H l (.lst (xs ++ [y])))
theorem mt_append : MtM X "list.append" rAppend := by
  intro pins s σ H x vs v us Q I rx rv h
  obtain ⟨l, xs, y, rfl, rfl, hH, hz, q⟩ := h
  cases rx
  obtain ⟨u, rfl, ru⟩ := rv.one
  obtain ⟨z, its, n, r, hl, e⟩ := I.lstM hH
  refine call_meets F.slot_list_append ⟨_, e, rfl⟩ F.entry_list_append (F.args_list_append_2 _ _) (PySem.list_append l its.toArray n u (by rw [List.size_toArray]; omega)) ⟨e, ?_⟩
  refine ⟨.non, _, I.lset (its' := its ++ [u]) hH e (by simp) (r.append (.cons ru .nil)) ?_, rfl, q⟩
  rw [List.length_append, List.length_singleton]
  omega

end


section
variable {prog : Program} {w : World} {A : Around} {E : Value → Shared → Prop} {s : Shared}
end

section
variable {X : Cx}

end
end L2

namespace Att
open PySem PySem.W PySem.Calls PyProof.Rows


theorem ints_of_wellAll {P : Params} {h : Heap} : ∀ (ns : List Int) (vs : List Value), WellAll P h vs (ns.map WData.int) → IntsAre vs ns := by
  intro ns
  induction ns with
  | nil =>
    intro vs w
    rw [List.map_nil] at w
    cases w
    exact .nil
  | cons n ns ih =>
    intro vs w
    rw [List.map_cons] at w
    cases w with
    | cons a b =>
      cases a
      exact .cons _ _ (ih _ b)

theorem script_of {l : OpenLaw} {n : Nat} (hn : l.most = some n) {P : Params} {h : Heap} {args : List WData} {vals : List Value}
    (hpre : l.row.toRowW.claim.pre args = true) (hwl : WellAll P h vals args) :
    ∃ a vs ns, vals = [Value.ref a] ∧ args = [WData.list (ns.map WData.int)] ∧ h.get? a = some { cls := .type "list", data := .seq vs.toArray } ∧ IntsAre vs ns ∧ ns.length ≤ n := by
  have hsh : WShape.hasAll [] args [.list .int] = true := (pre_splitW hpre).1
  have hc : l.pre.holds [] { args := args } = true := (pre_splitW hpre).2
  obtain ⟨d, r, rfl, h1, h2⟩ := hasAllW_cons hsh
  obtain rfl := hasAllW_nil h2
  obtain ⟨xs, rfl, h3⟩ := hasW_list h1
  obtain ⟨ns, rfl⟩ := items_int h3
  have hlen : ns.length ≤ n := by
    unfold OpenLaw.pre at hc
    have h4 : (WTm.not (.lt (.lit (.int (n : Int))) (.len (.arg 0)))).holds [] { args := [.list (ns.map .int)] } = true := by
      have h4 := (holds_andW hc).1
      rw [hn] at h4
      exact h4
    have h5 := condW_of h4 (w_not (w_lt w_lit (w_len_list (w_arg rfl))))
    rw [List.length_map] at h5
    refine Nat.le_of_not_lt fun q => ?_
    have q' : (n : Int) < ((ns.length : Nat) : Int) := by omega
    first
      | (rw [decide_eq_true q'] at h5; exact absurd h5 (by decide))
      | (simp at h5; omega)
  cases hwl with
  | cons w1 w2 =>
    cases w2
    cases w1 with
    | list ho hall => exact ⟨_, _, ns, rfl, rfl, ho, ints_of_wellAll ns _ hall, hlen⟩

theorem post_true (l : OpenLaw) (args : List WData) : l.row.toRowW.claim.post args (.bool true) args = true :=
  postW_of (r := l.row.toRowW) (X := (true == true))
    (show WShape.has [] (.bool true) .bool = true by first | rfl | decide | simp [WShape.has, WShape.arms, WShape.armsAll])
    (show (WTm.eq .res (.lit (.bool true))).value [] { args := args, res := some (.bool true), after := args } = some (.bool (true == true)) from w_eq_bool (w_res rfl) w_lit) rfl


theorem attach_call {l : OpenLaw} {n : Nat} {q : Program} {loose : List Str} {XP : (Str → Option Value) → Heap → Prop} {YP : World → Heap → Prop} {d : DefRec}
    (hn : l.most = some n) (hdf : d.params.defaults = [])
    (call : ∀ (w : World) (s₀ s₁ : Shared) (mg mb : Str → Option Value) (fa : Addr) (o : Obj) (pm cd doc : Value) (a : Addr) (vs : List Value) (ns : List Int),
      Ground q loose [] XP w s₀ mg mb s₁.heap → YP w s₁.heap →
      s₁.heap.get? fa = some o → o.data = .func (docDef d.name d.params d.body d.scope pm cd doc) → s₁.heap.CodeRec cd d.name → mg d.name = some (.ref fa) →
      s₁.heap.get? a = some { cls := .type "list", data := .seq vs.toArray } → IntsAre vs ns → ns.length ≤ n → s₁.gens = #[] →
      codeAny (model l.prog w) callerA (.call (.ref fa) ⟨[.ref a], []⟩) (fun r s' => r = .ok (.ret (.bool true)) ∧ OldK s₁.heap s'.heap ∧ s'.os = s₁.os ∧ AllBare s'.gens) s₁) :
    WalkO q loose XP YP l.row.toRowW d [] (fun f vs => PySem.call f vs) := by
  intro w s₀ s₁ mg mb G Y fa o pm cd doc dV kV ho hd hcd hD hmg hg args vals as hpre hlay hrd hwl hlo
  obtain rfl : dV = .none := Dflts.none hD hdf
  obtain rfl : kV = .none := Dflts.noKw hD
  obtain ⟨a, vs, ns, rfl, rfl, hobj, hints, hlen⟩ := script_of hn hpre hwl
  refine enter_call (codeAny_mono (call w s₀ s₁ mg mb fa o pm cd doc a vs ns G Y ho (fd_plain hd) hcd hmg hobj hints hlen hg) fun r s' hq => ?_)
  obtain ⟨rfl, h2, h3, h4⟩ := hq
  exact ⟨.inl ⟨.bool true, .bool true, [], rfl, fun _ => rfl, .bool true, post_true l _, fun _ => ⟨List.Pairwise.nil, fun _ hm => (nomatch hm)⟩⟩, h2, h3, h4⟩


section
variable {prog : Program} {w : World} {A : Around} {E : Value → Shared → Prop} {s : Shared} {K : Frag}


end
end Att

namespace L2
open PySem PySem.Spec PyProof.Rows

theorem vals_ints : ∀ {vs : List Value} {ns : List Int}, IntsAre vs ns → Vals (ns.map V.int) vs
  | _, _, .nil => .nil
  | _, _, .cons n t h => .cons ⟨t, rfl⟩ (vals_ints h)


def Only (H : Hp) : Prop := ∀ b, H b = none ∨ ∃ o xs, H b = some (.frz o (.lst xs))


theorem law_call {P : Program} {w : World} {K : PySem.W.Frag} {mg mb : Str → Option Value} {CX : CXT} {k : Nat} {fa a : Addr} {fd : FuncData} {x : Str} {sp : Sp} {s₁ : Shared} {vs : List Value} {ns : List Int}
    (KX : K.In s₁.heap) (hns : s₁.heap.Ns mainGlobals mg) (hb : s₁.heap.Ns builtinsNs mb) (hbb : ∀ x : Str, x ≠ "__name__" → mb x = bootBuiltins x) (hlim : s₁.heap.NoLimit) (hg : s₁.gens = #[])
    (ha : s₁.heap.get? a = some { cls := .type "list", data := .seq vs.toArray }) (hi : IntsAre vs ns) (hl : ns.length ≤ sizeLine) (hr : Room k callerA)
    (F : ∀ base : Heap, K.In base → base.Ns mainGlobals mg → FnOk P w K mg base CX k fa fd [x] sp) (hbind : ∀ (s : Shared) (u : Value), BindsTo s fd ⟨[u], []⟩ [(x, u)])
    (hsp : ∀ H : Hp, Only H → SqL K H a (ns.map V.int) → sp [.ref a] H (fun v _ => v = .bl true) fun _ _ _ => False)
    (hCX : ∀ H e s', CX [] H s₁ (fun _ _ _ => False) e s' → False) :
    codeAny (model P w) callerA (.call (.ref fa) ⟨[.ref a], []⟩) (fun r s' => r = .ok (.ret (.bool true)) ∧ OldK s₁.heap s'.heap ∧ s'.os = s₁.os ∧ AllBare s'.gens) s₁ := by
  have rv := vals_ints hi
  have lenV := hi.length
  -- from an abstract heap in which nothing but the script may be tracked
  have core : ∀ H : Hp, Only H → SqL K H a (ns.map V.int) → HOk P w H s₁.heap → (∀ b, H b ≠ none → b = a) → (H a ≠ none → K.lookup a = none) →
      codeAny (model P w) callerA (.call (.ref fa) ⟨[.ref a], []⟩) (fun r s' => r = .ok (.ret (.bool true)) ∧ OldK s₁.heap s'.heap ∧ s'.os = s₁.os ∧ AllBare s'.gens) s₁ := by
    intro H hO hS hok hA hK
    have base_of : ∀ {b : Addr} {o : Obj}, s₁.heap.get? b = some o → H b = none → (hidT s₁.heap H).get? b = some o := fun e n => hidT_get e n
    have noA : ∀ {b : Addr} {o : Obj} {es : Array DictEntry} {ep : Nat}, s₁.heap.get? b = some o → o.data = .dict es ep → H b = none := fun {b o es ep} e d => by
      cases q : H b with
      | none => rfl
      | some u =>
        have e' : b = a := hA b (by rw [q]; simp)
        subst e'
        rw [ha] at e; cases e
        have d' : Data.seq vs.toArray _ = Data.dict es ep := d
        cases d'
    have nsK : ∀ {b : Addr} {m : Str → Option Value}, s₁.heap.Ns b m → (hidT s₁.heap H).Ns b m := fun {b m} ⟨o, es, ep, e, d, r⟩ => ⟨o, es, ep, base_of e (noA e d), d, r⟩
    have hKb : K.In (hidT s₁.heap H) := fun b o e => base_of (KX b o e) (by
      cases q : H b with
      | none => rfl
      | some u =>
        have e' : b = a := hA b (by rw [q]; simp)
        subst e'
        rw [hK (by rw [q]; simp)] at e; cases e)
    have hM : Mod K mg (hidT s₁.heap H) := ⟨hKb, nsK hns, ⟨mb, nsK hb, hbb⟩, let ⟨mc, h1, h2⟩ := hlim; ⟨mc, nsK h1, h2⟩⟩
    have e0 : Env0 P w K mg (hidT s₁.heap H) callerA [] s₁ H := ⟨rfl, hM, fun b o e => of_hidT e, Nat.le_of_eq (hidT_size _ _), trivial, fun b hb => absurd (show b ∈ ([] : List Addr) from hb) (by simp), hok, .of_eq hg⟩
    refine codeAny_mono ((F _ hKb (nsK hns)).run callerA [] s₁ H ⟨[.ref a], []⟩ [.ref a] [.ref a] _ _ hr e0 (hbind s₁ (.ref a)) (.cons rfl .nil) (hsp H hO hS)) fun r s' h => ?_
    cases r with
    | error e => exact (hCX H e s' h).elim
    | ok fl =>
      cases fl with
      | next => exact False.elim h
      | brk => exact False.elim h
      | cont => exact False.elim h
      | ret u =>
        obtain ⟨v, H', os, bare, un, hok', r', q⟩ := h
        have q' : v = .bl true := q
        subst q'
        obtain rfl : u = Value.bool true := r'
        refine ⟨rfl, OldK.of_keep fun b o e => ?_, os, bare⟩
        cases q : H b with
        | none => exact un.keep b o e q (by intro z; exact absurd (show b ∈ ([] : List Addr) from z) (by simp)) (by simp)
        | some u =>
          rcases hO b with z | ⟨ob, xs, z⟩
          · rw [q] at z; cases z
          · have z2 := un.frzs b ob _ z
            obtain ⟨e1, _⟩ := hok b _ z
            obtain ⟨e2, _⟩ := hok' b _ z2
            rw [e] at e1; cases e1
            exact e2
  cases hk : K.lookup a with
  | some o =>
    -- the script is one of the module's own objects
    have e := KX a o hk
    rw [ha] at e
    cases e
    refine core (fun _ => none) (fun _ => .inl rfl) (.inr ⟨_, vs.toArray, _, hk, rfl, rfl, rfl, by rw [List.size_toArray, lenV]; exact hl, by simpa using rv⟩) (fun b u z => by have z' : (none : Option HO) = some u := z; cases z') (fun b z => absurd rfl z) fun z => absurd rfl z
  | none =>
    refine core (fun b => if b = a then some (.frz { cls := .type "list", data := .seq vs.toArray } (.lst (ns.map V.int))) else none) (fun b => ?_) (.inl (.inr ⟨{ cls := .type "list", data := .seq vs.toArray }, if_pos rfl⟩)) (fun b u z => ?_) (fun b z => ?_) fun _ => hk
    · by_cases hb : b = a
      · exact .inr ⟨_, _, if_pos hb⟩
      · exact .inl (if_neg hb)
    · by_cases hb : b = a
      · have z' := (if_pos hb).symm.trans z
        cases z'
        subst hb
        exact ⟨ha, by rw [List.length_map]; exact hl, vs, _, rv, ha⟩
      · have z' := (if_neg hb).symm.trans z
        cases z'
    · by_cases hb : b = a
      · exact hb
      · exact absurd (if_neg hb) z
end L2

namespace L2
open PySem PySem.Spec PyProof.Rows

theorem walk_of {l : PySem.W.OpenLaw} {n k : Nat} {q : Program} {loose : List Str} {XP : (Str → Option Value) → Heap → Prop} {YP : World → Heap → Prop} {d : DefRec} {K : Params → PySem.W.Frag} {CX : World → CXT} {sp : World → Sp} {x : Str}
    (hn : l.most = some n) (hn2 : n ≤ sizeLine) (hdf : d.params.defaults = []) (hr : Room k callerA)
    (hY : ∀ (w : World) (h : Heap), YP w h → (K w.params).In h)
    (F : ∀ (w : World) (mg : Str → Option Value) (fa : Addr) (h : Heap), (K w.params).In h → h.Ns mainGlobals mg → mg d.name = some (.ref fa) →
      ∃ fd : FuncData, (∀ (s : Shared) (u : Value), BindsTo s fd ⟨[u], []⟩ [(x, u)]) ∧
        ∀ base : Heap, (K w.params).In base → base.Ns mainGlobals mg → FnOk l.prog w (K w.params) mg base (CX w) k fa fd [x] (sp w))
    (hsp : ∀ (w : World) (H : Hp) (a : Addr) (ns : List Int), ns.length ≤ n → Only H → SqL (K w.params) H a (ns.map V.int) → sp w [.ref a] H (fun v _ => v = .bl true) fun _ _ _ => False)
    (hCX : ∀ (w : World) (H : Hp) (s : Shared) (e : Value) (s' : Shared), CX w [] H s (fun _ _ _ => False) e s' → False) :
    PySem.W.WalkO q loose XP YP l.row.toRowW d [] (fun f vs => PySem.call f vs) := by
  refine Att.attach_call hn hdf fun w s₀ s₁ mg mb fa o pm cd doc a vs ns G Y ho hd hcd hmg hobj hints hlen hg => ?_
  have KX := hY w _ Y
  obtain ⟨fd, hb, hF⟩ := F w mg fa _ KX G.T.g hmg
  exact law_call KX G.T.g G.T.b G.T.builtins G.T.nolimit hg hobj hints (Nat.le_trans hlen hn2) hr hF hb (fun H hO hS => hsp w H a ns hlen hO hS) fun H e s' => hCX w H s₁ e s'

end L2




namespace L2
open PySem PySem.Spec PyProof.Rows



def inClass (s : Stmt) (j : Nat) : Stmt := match s with
  | .ClassDef _ _ _ body _ _ _ _ _ _ _ => body.getD j (.Pass ⟨0, 0, 0, 0⟩)
  | _ => .Pass ⟨0, 0, 0, 0⟩
def defArgs (s : Stmt) : Arguments := match s with
  | .FunctionDef _ a _ _ _ _ _ _ _ _ => a
  | _ => { posonlyargs := [], args := [], vararg := none, kwonlyargs := [], kw_defaults := [], kwarg := none, defaults := [] }
def defBody (s : Stmt) : List Stmt := match s with
  | .FunctionDef _ _ b _ _ _ _ _ _ _ => b
  | _ => []
def defScope (s : Stmt) : Scope := match s with
  | .FunctionDef _ _ _ _ _ _ sc _ _ _ => sc
  | _ => { kind := .function, names := [], isGenerator := false, isCoroutine := false }


abbrev CX0 : CXT := fun _ _ _ _ _ _ => False
abbrev E0 : XK := fun _ _ _ => False
theorem pass0 {X : Cx} : Passes CX0 X E0 := fun _ _ _ _ _ _ _ h => h.elim


structure Fun (K : PySem.W.Frag) (x qual : Str) (st : Stmt) (f : Addr) (fd : FuncData) : Prop where
  ex : ∃ (oc : Value) (od : Option Addr) (kV doc pm : Value) (an : Option Addr) (cdv ct : Value) (osl : Array (Option Value)),
    fd = PySem.W.fnOf x qual (defArgs st) (defBody st) (defScope st) .none kV doc pm an cdv ct ∧ K.lookup f = some ⟨oc, od, .func fd, osl⟩ ∧ PySem.W.codeIn K cdv qual = true
  kp : PySem.W.keepIn K (.ref f) = true
section
variable {P : Program} {w : World} {K : PySem.W.Frag} {mg : Str → Option Value} {base : Heap}

theorem Fun.ok {x qual : Str} {st : Stmt} {f : Addr} {fd : FuncData} {N ps : List Str} {k : Nat} {sp : Sp} (F : Fun K x qual st f fd) (S : FnScope N ps (defScope st)) (len : ∀ vs H Q E, sp vs H Q E → vs.length = ps.length)
    (hbody : ∀ (cdv : Value) (A : Around) (outer : List Env) (s : Shared) (H : Hp) (vs : List V) (Q : VK) (E : XK), Room k (A.deeper (envOfC qual (defScope st) s.heap.objs.size f cdv)) → sp vs H Q E →
      ∃ t, PSs (cxOf CX0 P w K mg base N qual (defScope st) f cdv A outer s H E).nox (defBody st) t ∧ t { nx := fun _ H' => Q .non H', rt := Q } (start N vs) H) : FnOk P w K mg base CX0 (k + 1) f fd ps sp := by
  obtain ⟨oc, od, kV, doc, pm, an, cdv, ct, osl, rfl, lk, hcd⟩ := F.ex
  refine fn_of lk hcd S len fun A outer s H vs Q E hr hsp => ?_
  obtain ⟨t, h, q⟩ := hbody cdv A outer s H vs Q E hr hsp
  exact ⟨t, h.nox, q⟩

theorem Fun.binds {x qual : Str} {st : Stmt} {f : Addr} {fd : FuncData} {ps : List Str} (F : Fun K x qual st f fd)
    (h : ∀ (kV doc pm : Value) (an : Option Addr) (cdv ct : Value) (us : List Value), us.length = ps.length → bindArgs (PySem.W.fnOf x qual (defArgs st) (defBody st) (defScope st) .none kV doc pm an cdv ct) ⟨us, []⟩ = pure (ps.zip us)) : Binds K fd ps [] := by
  obtain ⟨oc, od, kV, doc, pm, an, cdv, ct, osl, rfl, lk, hcd⟩ := F.ex
  exact .all (h kV doc pm an cdv ct)
theorem fun_mk {x qual : Str} {st : Stmt} {f : Addr} {oc : Value} {od an : Option Addr} {osl : Array (Option Value)} {kV doc pm cdv ct : Value} (l : K.lookup f = some ⟨oc, od, .func (PySem.W.fnOf x qual (defArgs st) (defBody st) (defScope st) .none kV doc pm an cdv ct), osl⟩)
    (c : PySem.W.codeIn K cdv qual = true) (k : PySem.W.keepIn K (.ref f) = true) : Fun K x qual st f (PySem.W.fnOf x qual (defArgs st) (defBody st) (defScope st) .none kV doc pm an cdv ct) := ⟨⟨oc, od, kV, doc, pm, an, cdv, ct, osl, rfl, l, c⟩, k⟩
end
theorem hu_of {A : Around} {k : Nat} (hr : Room k A) : A.units + 1 < cLine := Nat.lt_of_le_of_lt (Nat.add_le_add_left (by decide : 1 ≤ 64) _) hr.units
theorem small1000 {n : Nat} (h : n ≤ 1000) : n < sizeLine := Nat.lt_of_le_of_lt h (by decide)


section
variable {X : Cx}
theorem pv (i : Nat) {x : Str} {pos : Pos} (hN : X.N[i]? = some x := by rfl) (hv : Vis X.env.scope x := by first | exact Or.inl rfl | exact Or.inr (Or.inl rfl) | exact Or.inr (Or.inr rfl)) (hd : (x == ("__debug__" : Str)) = false := by decide)
    (hcd : (x == ("__classdict__" : Str)) = false := by decide) : PE X (.Name x pos) (tVar i) := pe_var hN hv hd hcd

end


theorem iteF {A B : Prop} (h : B) : if false = true then A else B := by
  rw [if_neg Bool.false_ne_true]
  exact h
theorem iteT {A B : Prop} (h : A) : if true = true then A else B := by
  rw [if_pos rfl]
  exact h
theorem ite2 {c A B : Prop} [Decidable c] (h1 : c → A) (h2 : ¬ c → B) : if c then A else B := by
  by_cases h : c
  · rw [if_pos h]
    exact h1 h
  · rw [if_neg h]
    exact h2 h
def Same (H H' : Hp) : Prop := ∀ b o, H b = some o → H' b = some o
theorem Same.refl (H : Hp) : Same H H := fun _ _ h => h
theorem Same.trans {H H1 H2 : Hp} (a : Same H H1) (b : Same H1 H2) : Same H H2 := fun c o h => b c o (a c o h)
theorem Same.seq {K : PySem.W.Frag} {H H' : Hp} {a : Addr} {xs : List V} (e : Same H H') (h : SqL K H a xs) : SqL K H' a xs := by
  rcases h with (h | ⟨o, h⟩) | h
  · exact .inl (.inl (e _ _ h))
  · exact .inl (.inr ⟨o, e _ _ h⟩)
  · exact .inr h


section
variable {κ : Type} [DecidableEq κ]
end
end L2



namespace GX
open PySem

theorem forIn_fold {α β : Type} {f : α → β → Sem (ForInStep β)} (g : α → β → β) : ∀ (l : List α) (b : β), (∀ x ∈ l, ∀ b, f x b = pure (.yield (g x b))) →
    forIn l b f = pure (l.foldl (fun b x => g x b) b)
  | [], b, _ => rfl
  | x :: l, b, h => by
    simp only [List.forIn_cons, h x (.head _), pure_bind]
    exact forIn_fold g l (g x b) fun y hy => h y (List.mem_cons_of_mem _ hy)

def closeF (env : Env) (x : Str × NameKind) (cs : List (Str × Addr)) : List (Str × Addr) := if x.2 == .free then (x.1, (env.cells.lookup x.1).getD 0) :: cs else cs

theorem closure_eq {env : Env} {sc : Scope} (h : ∀ y ∈ sc.names, y.2 = .free → ∃ c, env.cells.lookup y.1 = some c) :
    closureFor sc env = pure (sc.names.foldl (fun b x => closeF env x b) []) := by
  simp only [closureFor]
  rw [forIn_fold (closeF env) sc.names [] (fun x hx b => by
    obtain ⟨n, k⟩ := x
    unfold closeF
    by_cases hk : k = .free
    · subst hk
      obtain ⟨c, hc⟩ := h _ hx rfl
      have e : cellOf env n = pure c := by unfold cellOf; rw [hc]
      simp [e, hc]
    · have hb : (k == NameKind.free) = false := by simpa using hk
      simp only [hb, Bool.false_eq_true, if_false])]
  rfl

theorem closeF_sub {env : Env} : ∀ (l : List (Str × NameKind)) (acc : List (Str × Addr)), (∀ y ∈ l, y.2 = .free → ∃ c, env.cells.lookup y.1 = some c) → (∀ p ∈ acc, env.cells.lookup p.1 = some p.2) →
    ∀ p ∈ l.foldl (fun b x => closeF env x b) acc, env.cells.lookup p.1 = some p.2
  | [], acc, _, ha => ha
  | x :: l, acc, h, ha => by
    refine closeF_sub l _ (fun y hy => h y (List.mem_cons_of_mem _ hy)) fun p hp => ?_
    unfold closeF at hp
    dsimp only at hp
    by_cases hk : x.2 = .free
    · obtain ⟨c, hc⟩ := h x List.mem_cons_self hk
      rw [hk] at hp
      simp only [beq_self_eq_true, if_true] at hp
      rcases List.mem_cons.mp hp with rfl | hp
      · rw [hc]; rfl
      · exact ha p hp
    · have hb : (x.2 == NameKind.free) = false := by simpa using hk
      simp only [hb, Bool.false_eq_true, if_false] at hp
      exact ha p hp
theorem closeF_has {env : Env} {n : Str} : ∀ (l : List (Str × NameKind)) (acc : List (Str × Addr)), ((∃ c, (n, c) ∈ acc) ∨ (n, NameKind.free) ∈ l) → ∃ c, (n, c) ∈ l.foldl (fun b x => closeF env x b) acc
  | [], acc, h => by
    rcases h with h | h
    · exact h
    · cases h
  | x :: l, acc, h => by
    refine closeF_has l _ ?_
    unfold closeF
    dsimp only
    rcases h with ⟨c, h⟩ | h
    · refine .inl ⟨c, ?_⟩
      split
      · exact List.mem_cons_of_mem _ h
      · exact h
    · rcases List.mem_cons.mp h with h | h
      · refine .inl ?_
        subst h
        exact ⟨_, by rw [if_pos (by rfl)]; exact .head _⟩
      · exact .inr h
theorem lookup_of_mem {n : Str} {c : Addr} : ∀ {l : List (Str × Addr)}, (n, c) ∈ l → ∃ c', l.lookup n = some c'
  | [], h => by cases h
  | (m, d) :: l, h => by
    rw [List.lookup_cons]
    cases e : n == m with
    | true => exact ⟨d, rfl⟩
    | false =>
      rcases List.mem_cons.mp h with h | h
      · cases h
        simp at e
      · exact lookup_of_mem h

theorem mem_lk {n : Str} {c : Addr} : ∀ {l : List (Str × Addr)}, l.lookup n = some c → (n, c) ∈ l
  | [], h => by cases h
  | (m, d) :: l, h => by
    rw [List.lookup_cons] at h
    cases e : n == m with
    | true =>
      rw [e] at h
      have e' : n = m := by simpa using e
      have h' : d = c := Option.some.inj h
      rw [e', h']
      exact List.mem_cons_self
    | false =>
      rw [e] at h
      exact List.mem_cons_of_mem _ (mem_lk h)


theorem closure_ok {env : Env} {sc : Scope} (h : ∀ y ∈ sc.names, y.2 = .free → ∃ c, env.cells.lookup y.1 = some c) :
    ∃ cl, closureFor sc env = pure cl ∧ (∀ x c, cl.lookup x = some c → env.cells.lookup x = some c) ∧ (∀ n, (n, NameKind.free) ∈ sc.names → ∃ c, cl.lookup n = some c) := by
  refine ⟨_, closure_eq h, fun x c e => ?_, fun n hn => ?_⟩
  · exact closeF_sub sc.names [] h (fun p hp => by cases hp) (x, c) (mem_lk e)
  · obtain ⟨c, hc⟩ := closeF_has (env := env) sc.names [] (.inr hn)
    exact lookup_of_mem hc


theorem lookup_relabel {env : Env} {x : Str} {names : List (Str × NameKind)} :
    (names.map fun (n, k) => if (k == NameKind.free && env.scope.kind == .function && env.kindOf n == some .cell) then (n, NameKind.cell) else (n, k)).lookup x
      = (names.lookup x).map fun k => if (k == NameKind.free && env.scope.kind == .function && env.kindOf x == some .cell) then NameKind.cell else k := by
  induction names with
  | nil => rfl
  | cons p r ih =>
    obtain ⟨n, k⟩ := p
    rw [List.map_cons]
    by_cases e : x = n
    · subst e
      dsimp only
      split <;> simp_all
    · have e' : (x == n) = false := by simpa using e
      dsimp only
      split <;> simp only [List.lookup_cons, e'] <;> exact ih


def oneTurn (elt target : Expr) (ifs : List Expr) (it acc : Value) (env : Env) : Sem Bool := do
  match ← pyNext it with
  | none => pure false
  | some v =>
    letOwnedTupleGo target it v
    assign target env v
    let ok ← forIn ifs true fun c r => if r = true then do let ok ← isTrue c env (eval c env); pure (ForInStep.yield ok) else pure (ForInStep.yield r)
    if ok = true then do
      let x ← eval elt env
      let _ ← call (.builtin "list.append") [acc, x]
      pure true
    else pure true
theorem turn_is (elt target iter : Expr) (ifs : List Expr) (scope : Scope) (pos : Pos) (it acc : Value) (env : Env) :
    compTurn (.ListComp elt [⟨target, iter, ifs, 0⟩] scope pos) 0 it acc env = (do
      standAt iter.pos
      let more ← oneTurn elt target ifs it acc env
      if more = true then again (.compLoop (.ListComp elt [⟨target, iter, ifs, 0⟩] scope pos) 0 it acc env) else pure (.done .next)) := by
  rw [compTurn_list, oneTurn]
  simp only [bind_assoc]
  congr 1
  funext _
  congr 1
  funext r
  cases r with
  | none => simp
  | some v =>
    simp only [bind_assoc]
    congr 1
    funext _
    congr 1
    funext _
    congr 1
    funext ok
    cases ok <;> simp
theorem compLoop_go {prog : Program} {w : World} {A : Around} {R : Result → Shared → Prop} {s : Shared} {elt target iter : Expr} {ifs : List Expr} {scope : Scope} {pos : Pos} {it acc : Value} {env : Env} (I : Nat → Shared → Prop)
    (turn : ∀ n s, I n s → wpAny (model prog w) A (oneTurn elt target ifs it acc env) (fun more s' => if more = true then ∃ m, m < n ∧ I m s' else R (.ok .next) s') (fun _ _ => False) s) (n : Nat) (h : I n s) :
    codeAny (model prog w) A (.compLoop (.ListComp elt [⟨target, iter, ifs, 0⟩] scope pos) 0 it acc env) R s := by
  apply codeAny_loop rfl I _ n h
  intro n s hI
  apply wpAny_noted
  rw [turn_is]
  change wpAny _ A _ _ _ _
  apply wpAny_bind
  apply wpAny_standAt
  apply wpAny_bind
  refine wpAny_mono (turn n s hI) (fun more s' q => ?_) fun _ _ z => z.elim
  cases more
  · exact wpAny_pure q
  · exact wpAny_pure ⟨rfl, q⟩
end GX

set_option Elab.async false
set_option linter.all false
set_option maxRecDepth 100000
namespace GX
open PySem PySem.Spec PyProof.Rows


section
variable {prog : Program} {w : World}
variable {A : Around} {key : Value} {op : CmpOp} {lp : String} {B : Builtin} {l I S : Addr} {vs : List Value} {bt : Nat → Nat → Bool} {G : List (Nat × Value) → Shared → Prop} {R : Result → Shared → Prop} {kw : List (Str × Value)}
end
end GX

namespace GX
open PySem
end GX

namespace GB

end GB

namespace GB
end GB

namespace L2
open PySem PySem.Spec PyProof.Rows


def capOk (N : List Str) (sc : Scope) (x : Str) : Option Nat → Bool
  | none => true
  | some j => decide (N[j]? = some x) && decide (sc.names.lookup x = some .free)

def BlkP (N N' : List Str) (src : List (Option Nat)) (esc sc : Scope) : Prop :=
  (∀ y ∈ sc.names, y.2 ≠ .cell) ∧ (∀ y ∈ sc.names, y.2 = .local → sc.names.lookup y.1 = some .local) ∧
  (∀ y ∈ sc.names, y.2 = .free → esc.names.lookup y.1 = some .cell ∨ esc.names.lookup y.1 = some .free) ∧
  N'.Nodup ∧ src.length = N'.length ∧ ∀ p ∈ N'.zip src, capOk N sc p.1 p.2 = true
instance (N N' : List Str) (src : List (Option Nat)) (esc sc : Scope) : Decidable (BlkP N N' src esc sc) := by unfold BlkP; infer_instance

def blkSt (src : List (Option Nat)) (σ : St) : St := src.map fun o => o.bind fun j => (σ[j]?).bind fun v => v
def Cx.blk (X : Cx) (N' : List Str) (sc : Scope) (cl : List (Str × Addr)) (C : Addr) (s2 : Shared) (H2 : Hp) (fp : List Addr) : Cx :=
  { X with N := N', s₀ := s2, H₀ := H2, env := compEnvC sc cl C X.env, outer := X.stack, ex := fp, fn := fun _ => false, pn := [], xe := fun _ _ => False }

def PIf (X : Cx) (ifs : List Expr) (t : TT) : Prop :=
  ∀ (pins : List (Addr × Obj)) (s : Shared) (σ : St) (H : Hp) (Q : Bool → Hp → Prop), Inv X pins σ H s → t σ H Q →
    wpAny (model X.prog X.w) X.A (forIn ifs true fun c r => if r = true then do let ok ← isTrue c X.env (eval c X.env); pure (ForInStep.yield ok) else pure (ForInStep.yield r)) (TP X pins σ Q) X.xe s
def tYes : TT := fun _ H Q => Q true H
theorem pif_nil {X : Cx} : PIf X [] tYes := fun _ _ _ H _ I h => wpAny_tests_nil ⟨H, I, h⟩
def cTurn (g : TG) (tt : TT) (te : TE) (D : Addr) (N : St → Hp → Prop) (x : V) (σ : St) (H : Hp) : Prop :=
  g x σ H fun σ2 H2 => tt σ2 H2 fun b H3 => if b = true then te σ2 H3 fun y H4 => ∃ ys, H4 D = some (.lst ys) ∧ ys.length < sizeLine ∧ N σ2 (upd H4 D (.lst (ys ++ [y]))) else N σ2 H3

def tComp (src : List (Option Nat)) (wi : TI) (g : TG) (tt : TT) (te : TE) : TE := fun σ H Q => wi σ H fun J H1 => ∀ D, H1 D = none → ∃ W : Nat → Nat → St → Hp → Prop, (∃ m, W 0 m (blkSt src σ) (upd H1 D (.lst []))) ∧
  ∀ i m σ' H', W i m σ' H' → (J.stop i H' ∧ Q (.ref D) H') ∨ (J.go i H' ∧ ∃ N : St → Hp → Prop, (∀ σ2 H2, N σ2 H2 → ∃ m', m' < m ∧ W (i + 1) m' σ2 H2) ∧
    ∀ x H'', J.yld i H' x H'' → cTurn g tt te D N x σ' H'')


theorem comp_core {X : Cx} {elt tg iter : Expr} {ifs : List Expr} {sc : Scope} {pos : Pos} {g : TG} {tt : TT} {te : TE} {N' : List Str} {src : List (Option Nat)} {cl : List (Str × Addr)} {pins : List (Addr × Obj)} {σ : St} {H2 : Hp} {s2 : Shared} {it : Addr} {fp : List Addr}
    {tn : Nat → Heap → Prop} {J : It} {W : Nat → Nat → St → Hp → Prop} {m0 : Nat} {Qe : Hp → Prop} {RR : Value → Addr → Result → Shared → Prop}
    (hc : X.calm = true) (hk : sc.kind = .function) (hB : BlkP X.N N' src X.env.scope sc) (hsub : ∀ x c, cl.lookup x = some c → X.env.cells.lookup x = some c) (hhas : ∀ n, (n, NameKind.free) ∈ sc.names → ∃ c, cl.lookup n = some c)
    (hg : ∀ cl C s2 H2 fp, N'.Nodup → PG (X.blk N' sc cl C s2 H2 fp) tg g)
    (ht : ∀ cl C s2 H2 fp, PIf (X.blk N' sc cl C s2 H2 fp) ifs tt)
    (he : ∀ cl C s2 H2 fp, PE (X.blk N' sc cl C s2 H2 fp) elt te)
    (I2 : Inv X pins σ H2 s2) (T : Turn X.prog X.w X.K tg J fp it tn) (st2 : tn 0 s2.heap) (f2 : ∀ b ∈ fp, FpOk X pins H2 b)
    (w0 : W 0 m0 (blkSt src σ) (upd H2 s2.heap.objs.size (.lst [])))
    (turn : ∀ i m σ' H', W i m σ' H' → (J.stop i H' ∧ Qe H') ∨ (J.go i H' ∧ ∃ N : St → Hp → Prop, (∀ σ2 H2, N σ2 H2 → ∃ m', m' < m ∧ W (i + 1) m' σ2 H2) ∧
      ∀ x H'', J.yld i H' x H'' → cTurn g tt te s2.heap.objs.size N x σ' H''))
    (fin : ∀ C s4 σ3 H3, s2.heap.objs.size ≤ C → Inv (X.blk N' sc cl C s2 H2 fp) [] σ3 H3 s4 → Qe H3 → RR (.ref s2.heap.objs.size) C (.ok .next) s4) :
    wpAny (model X.prog X.w) X.A (newList []) (fun acc s₃ => wpAny (model X.prog X.w) X.A (newFunctionEnv sc X.env.globals cl [] X.env.qual none .none (some X.env)) (fun cenv s₄ =>
      codeAny (model X.prog X.w) X.A (.compStart (.ListComp elt [⟨tg, iter, ifs, 0⟩] sc pos) 0 (.ref it) acc { cenv with scope := relabel sc X.env }) (RR acc cenv.locals) s₄) X.xe s₃) X.xe s2 := by
  obtain ⟨b1, b2, b3, b4, b5, b6⟩ := hB
  refine wpAny_newObj_type (wpAny_newFunctionEnv b1 (by intro y hy; simp at hy) (fun h₁ ns₁ sb₁ => ?_) hk)
  dsimp only at ns₁ sb₁ ⊢
  generalize hP : s2.heap.push { cls := .type "list", dict := none, data := .seq ([] : List Value).toArray } = Hl at ns₁ sb₁ ⊢
  have hC : Hl.objs.size = s2.heap.objs.size + 1 := by rw [← hP, Heap.size_push]
  have nDC : s2.heap.objs.size ≠ Hl.objs.size := by rw [hC]; exact Nat.ne_of_lt (Nat.lt_succ_self _)
  have below : ∀ {b : Addr} {o : Obj}, s2.heap.get? b = some o → b ≠ Hl.objs.size := fun {b o} z => by
    have := Heap.lt_size z
    rw [hC]
    exact Nat.ne_of_lt (Nat.lt_succ_of_lt this)
  have old : ∀ b o, s2.heap.get? b = some o → h₁.get? b = some o := fun b o z => sb₁.extBut b o (below z) (Heap.get?_push_of_some _ (hP ▸ Heap.get?_push_of_some _ z))
  have hD1 : h₁.get? s2.heap.objs.size = some { cls := .type "list", data := .seq ([] : List Value).toArray } := sb₁.extBut _ _ nDC (Heap.get?_push_of_some _ (hP ▸ Heap.get?_push_size _ rfl))
  have fD : H2 s2.heap.objs.size = none := I2.hok.fresh (Nat.le_refl _)
  have fC : H2 Hl.objs.size = none := I2.hok.fresh (by rw [hC]; exact Nat.le_succ _)
  have ok : (X.blk N' sc cl Hl.objs.size s2 H2 fp).Ok := by
    refine ⟨I2.ok.mod, hk, I2.ok.glob, I2.ok.blt, ?_, fun x y c h1 h2 => I2.ok.inj x y c (hsub x c h1) (hsub y c h2), fun x hx => ?_, fun x c z => ?_, I2.ok.hd, I2.ok.frames, .inl rfl, fun b hb => ⟨?_, fun x c z => (f2 b hb).2.2.2.2.1 x c (hsub x c z)⟩,
      I2.bs, Nat.le_trans I2.ok.bsz I2.sz, fun b o z hb => ?_, fun b hb z => ?_, I2.stack, I2.stkFree⟩
    · show s2.heap.objs.size ≤ Hl.objs.size
      rw [hC]; exact Nat.le_succ _
    · have hx' : (sc.names.map fun (n, k) => if (k == NameKind.free && X.env.scope.kind == .function && X.env.kindOf n == some .cell) then (n, NameKind.cell) else (n, k)).lookup x = some .cell ∨
          (sc.names.map fun (n, k) => if (k == NameKind.free && X.env.scope.kind == .function && X.env.kindOf n == some .cell) then (n, NameKind.cell) else (n, k)).lookup x = some .free := hx
      rw [GX.lookup_relabel] at hx'
      cases e : sc.names.lookup x with
      | none =>
        rw [e] at hx'
        simp at hx'
      | some k =>
        rw [e] at hx'
        by_cases hf : k = .free
        · subst hf
          exact hhas x (PySem.mem_of_lookup e)
        · have hb : (k == NameKind.free) = false := by simpa using hf
          have e2 : ((some k).map fun k => if (k == NameKind.free && X.env.scope.kind == .function && X.env.kindOf x == some .cell) then NameKind.cell else k) = some k := by
            show some (if (k == NameKind.free && X.env.scope.kind == .function && X.env.kindOf x == some .cell) = true then NameKind.cell else k) = some k
            rw [hb, Bool.false_and, Bool.false_and]
            rfl
          rw [e2] at hx'
          rcases hx' with z | z
          · exact absurd (Option.some.inj z) (b1 _ (PySem.mem_of_lookup e))
          · exact absurd (Option.some.inj z) hf
    · cases z
    · obtain ⟨o, z, _⟩ := T.obj 0 _ st2 b hb
      exact below z
    · rcases (f2 b hb).2.2.2.1 with f3 | f3
      · exact I2.ok.noex b o z f3
      · have l1 := Heap.lt_size z
        have l2 := I2.ok.bsz
        exact absurd (Nat.lt_of_lt_of_le l1 (Nat.le_trans l2 f3)) (Nat.lt_irrefl _)
    · rcases List.mem_cons.mp (I2.stkSub b z) with z | z
      · exact (f2 b hb).2.1 z
      · exact (f2 b hb).2.2.1 z
  have IY : Inv (X.blk N' sc cl Hl.objs.size s2 H2 fp) [] (blkSt src σ) (upd H2 s2.heap.objs.size (.lst [])) { s2 with heap := h₁, toks := s2.toks + ([] : List (Str × Value)).length } := by
    refine ⟨ok, rfl, I2.bare, Un.laid old (Nat.le_refl _) fD, ⟨_, ns₁, fun i x v e1 e2 _ => ?_⟩, fun x c z => ?_, ?_, fun x c z => ?_, fun p hp => ?_, I2.hok.laid old (Nat.le_refl _) ⟨Nat.zero_le _, [], 0, .nil, hD1⟩, ?_⟩
    · have e1' : N'[i]? = some x := e1
      unfold blkSt at e2
      rw [List.getElem?_map] at e2
      cases es : src[i]? with
      | none => rw [es] at e2; cases e2
      | some o =>
        rw [es] at e2
        cases o with
        | none => cases e2
        | some j =>
          have e3 : (σ[j]?).bind (fun v => v) = some v := Option.some.inj e2
          have e4 : σ[j]? = some (some v) := by
            cases q : σ[j]? with
            | none => rw [q] at e3; cases e3
            | some w => rw [q] at e3; exact congrArg some e3
          have hz : (x, some j) ∈ N'.zip src := List.mem_of_getElem? (i := i) (by rw [List.getElem?_zip_eq_some]; exact ⟨e1', es⟩)
          have hcap := b6 _ hz
          have hcap' : (decide (X.N[j]? = some x) && decide (sc.names.lookup x = some .free)) = true := hcap
          rw [Bool.and_eq_true] at hcap'
          have c1 : X.N[j]? = some x := of_decide_eq_true hcap'.1
          have c2 : sc.names.lookup x = some .free := of_decide_eq_true hcap'.2
          have hfree := PySem.mem_of_lookup c2
          have vis := b3 _ hfree rfl
          obtain ⟨m, hn, hl⟩ := I2.loc
          obtain ⟨u, ru, lk⟩ := hl j x v c1 e4 (.inr vis)
          rcases lk with ⟨k1, _⟩ | ⟨_, c, k2, z⟩
          · have k1' : X.env.scope.names.lookup x = some .local := k1
            rcases vis with v | v <;> (rw [k1'] at v; cases v)
          · obtain ⟨c', k3⟩ := hhas x hfree
            have k4 := hsub x c' k3
            rw [k2] at k4
            cases k4
            refine ⟨u, ru, .inr ⟨?_, c, k3, z.keeps old⟩⟩
            show (sc.names.map fun (n, k) => if (k == NameKind.free && X.env.scope.kind == .function && X.env.kindOf n == some .cell) then (n, NameKind.cell) else (n, k)).lookup x = some .cell ∨
              (sc.names.map fun (n, k) => if (k == NameKind.free && X.env.scope.kind == .function && X.env.kindOf n == some .cell) then (n, NameKind.cell) else (n, k)).lookup x = some .free
            rw [GX.lookup_relabel, c2]
            show some (if _ then NameKind.cell else NameKind.free) = _ ∨ some (if _ then NameKind.cell else NameKind.free) = _
            split
            · exact .inl rfl
            · exact .inr rfl
    · obtain ⟨v, q⟩ := I2.cell x c (hsub x c z)
      exact ⟨v, q.keeps old⟩
    · show upd H2 s2.heap.objs.size (.lst []) Hl.objs.size = none
      rw [upd_ne (Ne.symm nDC)]
      exact fC
    · obtain ⟨v, q⟩ := I2.cell x c (hsub x c z)
      rw [upd_ne (Nat.ne_of_lt q.lt)]
      exact I2.freeC x c (hsub x c z)
    · exact absurd (show p ∈ ([] : List (Addr × Obj)) from hp) (by simp)
    · show (src.map _).length = N'.length
      rw [List.length_map]
      exact b5
  have stat : ∀ {H' : Hp}, (∀ b ∈ fp, H' b = none) → ∀ b ∈ fp, FpOk (X.blk N' sc cl Hl.objs.size s2 H2 fp) [] H' b := fun hn b hb =>
    ⟨hn b hb, (ok.exf b hb).1, ok.exfs b hb, .inl hb, (ok.exf b hb).2, fun p hp => absurd (show p ∈ ([] : List (Addr × Obj)) from hp) (by simp)⟩
  have loop : codeAny (model X.prog X.w) X.A (.compLoop (.ListComp elt [⟨tg, iter, ifs, 0⟩] sc pos) 0 (.ref it) (.ref s2.heap.objs.size) (compEnvC sc cl Hl.objs.size X.env))
      (RR (.ref s2.heap.objs.size) Hl.objs.size) { s2 with heap := h₁, toks := s2.toks + ([] : List (Str × Value)).length } := by
    refine GX.compLoop_go (fun n s' => ∃ i σ' H', Inv (X.blk N' sc cl Hl.objs.size s2 H2 fp) [] σ' H' s' ∧ tn i s'.heap ∧ (∀ b ∈ fp, H' b = none) ∧ W i n σ' H') ?_ m0
      ⟨0, _, _, IY, T.keep 0 _ _ st2 (fun b _ o z => old b o z), fun b hb => ?_, w0⟩
    · rintro n s3 ⟨i, σ3, H3, I3, st3, fr3, w3⟩
      rcases turn i n σ3 H3 w3 with ⟨stop, qn⟩ | ⟨go, N, hN, step⟩
      · refine wpAny_bind (thn (T.done (X.blk N' sc cl Hl.objs.size s2 H2 fp) rfl rfl rfl hc i [] s3 σ3 H3 (fun _ _ => False) I3 (stat fr3) st3 stop) fun r s4 ⟨hr, I4⟩ => ?_)
        subst hr
        exact wpAny_pure <| fin _ s4 σ3 H3 (by rw [hC]; exact Nat.le_succ _) I4 qn
      · refine wpAny_bind (thn (T.item (X.blk N' sc cl Hl.objs.size s2 H2 fp) rfl rfl rfl hc i [] s3 σ3 H3 (fun _ _ => False) I3 (stat fr3) st3 go) fun r s4 ⟨u, hr, h4⟩ => ?_)
        subst hr
        refine wpAny_bind (thn h4 fun _ s5 ⟨x, H5, I5, r5, y5, st5, fr5⟩ => ?_)
        have I5' := I5.pinned (stat fr5) (T.obj _ _ st5)
        have again : ∀ {σ7 : St} {H7 : Hp} {s7 : Shared}, Inv (X.blk N' sc cl Hl.objs.size s2 H2 fp) ([] ++ pinsAt fp s5.heap) σ7 H7 s7 → N σ7 H7 →
            ∃ m, m < n ∧ ∃ i σ' H', Inv (X.blk N' sc cl Hl.objs.size s2 H2 fp) [] σ' H' s7 ∧ tn i s7.heap ∧ (∀ b ∈ fp, H' b = none) ∧ W i m σ' H' := fun {σ7 H7 s7} I7 n7 => by
          obtain ⟨m', hm, w7⟩ := hN σ7 H7 n7
          refine ⟨m', hm, i + 1, σ7, H7, I7.unpinned, T.keep _ _ _ st5 fun b hb o z => (I7.pin (b, o) (List.mem_append_right _ (List.mem_append_right _ (mem_pinsAt hb z)))).1, fun b hb => ?_, w7⟩
          obtain ⟨o, z, _⟩ := T.obj _ _ st5 b hb
          exact (I7.pin (b, o) (List.mem_append_right _ (List.mem_append_right _ (mem_pinsAt hb z)))).2.1
        refine wpAny_bind (thn (hg cl Hl.objs.size s2 H2 fp b4 _ s5 σ3 H5 x u _ I5' r5 (step x H5 y5)) fun _ s6 ⟨σ6, H6, I6, q6⟩ => ?_)
        refine wpAny_bind (thn (ht cl Hl.objs.size s2 H2 fp _ s6 σ6 H6 _ I6 q6) fun ok s7 ⟨H7, I7, q7⟩ => ?_)
        cases ok with
        | true =>
          rw [if_pos rfl] at q7 ⊢
          refine wpAny_bind (thn (he cl Hl.objs.size s2 H2 fp _ s7 σ6 H7 _ I7 q7) fun yv s8 ⟨y, H8, I8, r8, ys, hD, hz, n8⟩ => ?_)
          exact wpAny_bind <| thn (mt_append (X := X.blk N' sc cl Hl.objs.size s2 H2 fp) _ s8 σ6 H8 (.ref s2.heap.objs.size) [y] (.ref s2.heap.objs.size) [yv] (fun _ H' => N σ6 H') I8 rfl (.cons r8 .nil) ⟨_, ys, y, rfl, rfl, hD, hz, n8⟩)
            fun _ s9 ⟨_, H9, I9, _, n9⟩ => wpAny_pure (again I9 n9)
        | false =>
          rw [if_neg Bool.false_ne_true] at q7 ⊢
          exact wpAny_pure (again I7 q7)
    · obtain ⟨o, z, _⟩ := T.obj 0 _ st2 b hb
      rw [upd_ne (Nat.ne_of_lt (Heap.lt_size z))]
      exact (f2 b hb).1
  exact codeAny_compStart_list loop (T.self X.A 0 _ _ _ (T.keep 0 _ _ st2 (fun b _ o z => old b o z)) loop)

theorem ps_comp {X : Cx} {elt tg iter : Expr} {ifs : List Expr} {sc : Scope} {pos py spos : Pos} {y : Str} {i : Nat} {wi : TI} {g : TG} {tt : TT} {te : TE} (N' : List Str) (src : List (Option Nat))
    (hN : X.N.Nodup) (hy : X.N[i]? = some y) (hl : Loc X.env.scope y) (hc : X.calm = true) (hk : sc.kind = .function) (hB : decide (BlkP X.N N' src X.env.scope sc) = true) (hi : PI X tg iter wi)
    (hg : ∀ cl C s2 H2 fp, N'.Nodup → PG (X.blk N' sc cl C s2 H2 fp) tg g)
    (ht : ∀ cl C s2 H2 fp, PIf (X.blk N' sc cl C s2 H2 fp) ifs tt)
    (he : ∀ cl C s2 H2 fp, PE (X.blk N' sc cl C s2 H2 fp) elt te)
    (hsw : swapsWith (.ListComp elt [⟨tg, iter, ifs, 0⟩] sc pos) (some (.Name y py)) spos.line X.env = pure true := by rfl)
    (hs : ∀ x, foldedSetIterable iter X.env x = pure x := by intro _; rfl) (hf : X.fn y = true ∨ X.env.scope.names.lookup y = some .local := by first | exact .inl rfl | exact .inr rfl) :
    PS X (.Assign [.Name y py] (.ListComp elt [⟨tg, iter, ifs, 0⟩] sc pos) spos) (tAsg (tComp src wi g tt te) (gName i)) := by
  intro pins s σ H D I h
  have B := of_decide_eq_true hB
  obtain ⟨cl, hclos, hsub, hhas⟩ := GX.closure_ok (env := X.env) (sc := sc) fun y hy hf => I.ok.has y.1 (B.2.2.1 y hy hf)
  rw [exec_Assign_Name_used _ _ _ _ hsw]
  refine wpAny_bind (wpAny_standAt (wpAny_bind ?_))
  show wpAny _ X.A (do let _ ← comprehension (.ListComp elt [⟨tg, iter, ifs, 0⟩] sc pos) sc X.env _ (newList []) false (eval iter X.env) (some (assign (.Name y py) X.env))) _ _ s
  refine wpAny_bind (wpAny_mono (wpAny_comprehension_free (use := some (assign (.Name y py) X.env)) (Q := fun _ s' => SP X pins D .next s') rfl hs hclos hk B.2.1
    (thn (hi pins s σ H _ I h) fun v s1 h1 => thn h1 fun itv s2 h2 => ?_)) (fun _ s' hq => wpAny_pure (wpAny_pure hq)) fun _ _ e => e)
  obtain ⟨it, fp, tn, J, H2, e, I2, T, st2, f2, q⟩ := h2
  subst e
  obtain ⟨W, ⟨m0, w0⟩, turn⟩ := q s2.heap.objs.size (I2.hok.fresh (Nat.le_refl _))
  refine comp_core (RR := fun acc C => compPost (model X.prog X.w) X.A X.xe (some (assign (.Name y py) X.env)) (fun _ s' => SP X pins D .next s') acc C) (Qe := fun H' => D.nx (σ.set i (some (.ref s2.heap.objs.size))) H') hc hk B hsub hhas hg ht he I2 T st2 f2 w0 turn
    fun C s4 σ3 H3 hC I4 qn => ?_
  have IX : Inv X pins σ H3 s4 := I2.call' (ch := fp) I4.os I4.base I4.hok I4.bare fun b hb => ⟨(f2 b hb).2.2.2.1, (f2 b hb).2.1, (f2 b hb).2.2.2.2.1, (f2 b hb).2.2.2.2.2⟩
  have nC : ∀ {b : Addr} {o : Obj}, s2.heap.get? b = some o → C ≠ b := fun {b o} z => Nat.ne_of_gt (Nat.lt_of_lt_of_le (Heap.lt_size z) hC)
  have nL : C ≠ X.env.locals := Nat.ne_of_gt (Nat.lt_of_lt_of_le I2.lt hC)
  have nK : ∀ x c, X.env.cells.lookup x = some c → c ≠ C := fun x c z => by
    obtain ⟨v, o, ho, _⟩ := I2.cell x c z
    exact Ne.symm (nC ho)
  obtain ⟨m, hn, _⟩ := I4.loc
  show wpAny _ X.A (assign (.Name y py) X.env (.ref s2.heap.objs.size)) _ _ s4
  refine wpAny_assign_Name (store_ok2 IX hN hy hl (v := .ref s2.heap.objs.size) rfl (fun s5 I5 h5 => ?_) hf)
  obtain ⟨a, sb, ha⟩ := h5
  have na : C ≠ a := by
    rcases ha with z | z
    · rw [z]; exact nL
    · exact Ne.symm (nK _ _ z)
  refine ⟨m, hn.sameBut sb na, fun h' sb' => ⟨_, H3, ?_, qn⟩⟩
  exact I5.turned (it := C) (t' := s5.toks) (fun b o hb z => (sb'.2 b hb).trans z) I4.free nL (.inr (Nat.le_trans I2.sz hC)) nK fun p hp => Ne.symm (nC (I2.pin p hp).1)


theorem comp_range {lo : Int} {n : Nat} {g : TG} {tt : TT} {te : TE} {σ : St} {H : Hp} {D : Addr} {Qe : Hp → Prop} (Pv : Nat → St → Hp → Prop) (h0 : Pv 0 σ H)
    (hs : ∀ i σ H, i < n → Pv i σ H → cTurn g tt te D (Pv (i + 1)) (.int (lo + i)) σ H) (hd : ∀ σ H, Pv n σ H → Qe H) :
    ∃ W : Nat → Nat → St → Hp → Prop, (∃ m, W 0 m σ H) ∧ ∀ i m σ' H', W i m σ' H' → ((Itr lo n).stop i H' ∧ Qe H') ∨ ((Itr lo n).go i H' ∧ ∃ N : St → Hp → Prop, (∀ σ2 H2, N σ2 H2 → ∃ m', m' < m ∧ W (i + 1) m' σ2 H2) ∧
      ∀ x H'', (Itr lo n).yld i H' x H'' → cTurn g tt te D N x σ' H'') := by
  refine ⟨fun i m σ H => m = n - i ∧ i ≤ n ∧ Pv i σ H, ⟨n, by simp, Nat.zero_le _, h0⟩, ?_⟩
  rintro i m σ H ⟨rfl, hi, p⟩
  by_cases hlt : i < n
  · refine .inr ⟨hlt, Pv (i + 1), fun σ' H' p' => ⟨n - (i + 1), by omega, rfl, hlt, p'⟩, fun x H' y => ?_⟩
    obtain ⟨e, y⟩ := y
    subst e y
    exact hs i σ _ hlt p
  · have e : i = n := by omega
    subst e
    exact .inl ⟨Nat.le_refl _, hd σ H p⟩
end L2

namespace L2
open PySem PySem.Spec PyProof.Rows
section
variable {X : Cx}

def CDivB (_ j : Int) : Prop := 0 < j ∧ j < 18446744073709551616
theorem op_fdivB : OpR X (binaryOp .FloorDiv) (rI CDivB fun i j => .int (i / j)) := opI fun i j _ _ _ _ _ hc q => by
  have h1 : (0 : Int) < j := hc.1
  have h2 : j < 18446744073709551616 := hc.2
  refine floordiv_int (by omega) (by rw [Int.fdiv_eq_ediv_of_nonneg i (by omega)]; exact q) (.inl (PyProof.noPylong_of_log2 ?_))
  have h3 : j.natAbs.log2 < 64 := (Nat.log2_lt (by omega)).mpr (by omega)
  omega
theorem op_isB : OpR X (compareOp .Is) (fun x y H Q => ∃ a b, x = .bl a ∧ y = .bl b ∧ Q (.bl (a == b)) H) := by
  intro pins s σ H x y v u Q I rx ry h
  obtain ⟨a, b, rfl, rfl, q⟩ := h
  cases rx
  cases ry
  exact is_bool (fin_bl I q rfl)
theorem call_isinst : CallR X (.builtin "isinstance") (fun xs H Q => ∃ (x : V) (t : Value) (T : String) (b : Bool), xs = [x, .ty T] ∧ TyOf X.K H x t ∧ PySem.W.kitOne X.K t (.type T) = some b ∧ Q (.bl b) H) := by
  intro pins s σ H xs us Q I r h
  obtain ⟨x, t, T, b, rfl, ty, e, q⟩ := h
  obtain ⟨u, w', rfl, r1, r2⟩ := vals2 r
  obtain rfl : w' = Value.type T := r2
  exact isinst_ok I r1 ty e fun tk => ⟨.bl b, H, I.tok tk, rfl, q⟩
end


structure Cal (K : PySem.W.Frag) (mg : Str → Option Value) (x : Str) (f : Addr) (fd : FuncData) (ps : List Str) : Prop where
  mg : mg x = some (.ref f)
  kp : PySem.W.keepIn K (.ref f) = true
  bd : Binds K fd ps []
theorem pcall {X : Cx} {k : Nat} {f : Addr} {fd : FuncData} {ps : List Str} {sp : Sp} {x : Str} {e : Expr} {es : List Expr} {t : TA} {p pos : Pos} (F : FnOk X.prog X.w X.K X.mg X.base CX0 k f fd ps sp) (c : Cal X.K X.mg x f fd ps) (hr : Room k X.A) (ha : PA X (e :: es) t)
    (hg : Gl X x := by rfl) (hdb : (x == ("__debug__" : Str)) = false := by decide) (he : starEach (e :: es) X.env = (false, eval e X.env) :: starEach es X.env := by rfl) (hpl : (backTo pos (starEach es X.env)).any (·.1) = false := by rfl) :
    PE X (.Call (.Name x p) (e :: es) [] pos) (tCall sp [] E0 t) := pe_call F hr hg c.mg c.kp c.bd .nil pass0 ha hdb he hpl

theorem pe_type {X : Cx} {x : Str} {T : String} {pos : Pos} (hm : X.mg x = none) (hv : bootBuiltins x = some (.type T)) (hg : Gl X x := by rfl) (hn : x ≠ "__name__" := by decide) (hdb : (x == ("__debug__" : Str)) = false := by decide) : PE X (.Name x pos) (tC (.ty T)) :=
  pe_bltn hg hm hv rfl hn hdb
def tTru (K : PySem.W.Frag) (t : TE) : TT := fun σ H Q => t σ H fun x H' => ∃ k, TruV K x H' k ∧ Q k H'

theorem pt_callK {X : Cx} (K : PySem.W.Frag) {f : Expr} {es : List Expr} {kws : List Keyword} {pos : Pos} {t : TE} (hK : X.K = K) (h : PE X (.Call f es kws pos) t) : PT X (.Call f es kws pos) (tTru K t) := by
  subst hK
  exact pt_truth h fun _ => rfl

end L2

namespace L2
open PySem PySem.Spec PyProof.Rows
section
variable {X : Cx}
end
end L2

set_option Elab.async false
set_option linter.all false
set_option maxRecDepth 100000
namespace GX
open PySem
section
variable {prog : Program} {w : World} {A : Around} {E : Value → Shared → Prop} {s : Shared} {l : Addr} {items : Array Value} {n : Nat} {Q : Option Value → Shared → Prop}
end
end GX

set_option Elab.async false
set_option linter.all false
set_option maxRecDepth 100000
namespace GX
open PySem
section
variable {prog : Program} {w : World} {A : Around} {R : Result → Shared → Prop} {I d : Addr} {fp wr : List Addr} {n : Nat} {P : Nat → Value → Prop} {St : Nat → Heap → Prop} {K : Type} [DecidableEq K] {knd : KeyKind prog w K}
end
section
variable {prog : Program} {w : World} {A : Around} {E : Value → Shared → Prop} {s : Shared} {K : Type} [DecidableEq K] {knd : KeyKind prog w K}
end
end GX
namespace GX
open PySem PyProof.Rows
section
variable {prog : Program} {w : World} {A : Around} {E : Value → Shared → Prop} {s : Shared}

end
end GX

namespace L2
open PySem PySem.Spec PyProof.Rows

section
variable {X : Cx}
def Pr (H : Hp) (x : V) (p : Int × Int) : Prop := ∃ a, x = .ref a ∧ H a = some (.tup [.int p.1, .int p.2])
abbrev Prs (H : Hp) : List V → List (Int × Int) → Prop := Paired (Pr H)
theorem Prs.mono {H H' : Hp} (h : ∀ a xs, H a = some (.tup xs) → H' a = some (.tup xs)) {xs : List V} {ps : List (Int × Int)} (r : Prs H xs ps) : Prs H' xs ps := Paired.mapP r fun _ _ ⟨a, e1, e2⟩ => ⟨a, e1, h a _ e2⟩
theorem Prs.snoc {H : Hp} {x : V} {p : Int × Int} : ∀ {xs : List V} {ps : List (Int × Int)}, Prs H xs ps → Pr H x p → Prs H (xs ++ [x]) (ps ++ [p])
  | _, _, .nil, h => .cons h .nil
  | _, _, .cons r t, h => .cons r (Prs.snoc t h)
theorem Prs.len {H : Hp} {xs : List V} {ps : List (Int × Int)} (r : Prs H xs ps) : xs.length = ps.length := Paired.length r
end
end L2

namespace L2
open PySem PySem.Spec PyProof.Rows
section
variable {X : Cx}

end
section
variable {X : Cx}
end
end L2

set_option Elab.async false
set_option linter.all false
set_option maxRecDepth 100000
namespace GX
open PySem PyProof.Rows

end GX

set_option Elab.async false
set_option linter.all false
set_option maxRecDepth 100000
namespace GX
open PySem PyProof.Rows
section
variable {prog : Program} {w : World} {A : Around} {E : Value → Shared → Prop} {s : Shared}

end
end GX

set_option Elab.async false
set_option linter.all false
set_option maxRecDepth 100000
namespace GX
open PySem PyProof.Rows
section
variable {prog : Program} {w : World} {A : Around} {E : Value → Shared → Prop} {s : Shared}
end
end GX

set_option Elab.async false
set_option linter.all false
set_option maxRecDepth 100000
namespace GX
open PySem PyProof.Rows
section
variable {prog : Program} {w : World} {A : Around} {E : Value → Shared → Prop} {s : Shared}

end
end GX
namespace GX
open PySem PyProof.Rows
section
variable {prog : Program} {w : World} {A : Around} {E : Value → Shared → Prop} {s : Shared}

variable {I a : Addr} {o : Obj} {es : Array (Int × Value)} {ep : Nat} {t : SetTable} {i : Nat}
end
end GX

set_option Elab.async false
set_option linter.all false
set_option maxRecDepth 100000
namespace GX
open PySem PyProof.Rows
section
variable {prog : Program} {w : World} {A : Around} {E : Value → Shared → Prop} {s : Shared} {I a : Addr} {o : Obj} {es : Array (Int × Value)} {ep : Nat} {t : SetTable}
end
end GX

set_option Elab.async false
set_option linter.all false
set_option maxRecDepth 100000
namespace GX
open PySem PyProof.Rows
section
variable {prog : Program} {w : World} {A : Around} {E : Value → Shared → Prop} {s : Shared} {a : Addr} {o : Obj} {es : Array (Int × Value)} {ep : Nat} {t : SetTable}

end
end GX

set_option Elab.async false
set_option linter.all false
set_option maxRecDepth 100000
namespace L2
open PySem PySem.Spec PyProof.Rows

section
variable {X : Cx}
end
end L2

set_option Elab.async false
set_option linter.all false
set_option maxRecDepth 100000
namespace GX
open PySem PyProof.Rows
section
variable {prog : Program} {w : World} {A : Around} {E : Value → Shared → Prop} {s : Shared} {I : Addr} {fp wr : List Addr} {N : Nat} {P : Nat → Value → Prop} {St : Nat → Heap → Prop}
end
end GX
namespace L2
open PySem PySem.Spec PyProof.Rows
section
variable {X : Cx}

end
end L2

set_option Elab.async false
set_option linter.all false
set_option maxRecDepth 100000
namespace L2
open PySem PySem.Spec PyProof.Rows
section
variable {X : Cx}

end
end L2

set_option Elab.async false
set_option linter.all false
set_option maxRecDepth 100000
namespace L2
open PySem PySem.Spec PyProof.Rows

mutual
inductive Dp (K : PySem.W.Frag) (H : Hp) : V → PyData → Prop
  | none : Dp K H .non .none
  | bool (b : Bool) : Dp K H (.bl b) (.bool b)
  | int (i : Int) : Dp K H (.int i) (.int i)
  | str (x : Str) : Dp K H (.str x) (.str x)
  | tup {a : Addr} {xs : List V} {ds : List PyData} : SqT K H a xs → Dps K H xs ds → Dp K H (.ref a) (.tuple ds)
inductive Dps (K : PySem.W.Frag) (H : Hp) : List V → List PyData → Prop
  | nil : Dps K H [] []
  | cons {x : V} {xs : List V} {d : PyData} {ds : List PyData} : Dp K H x d → Dps K H xs ds → Dps K H (x :: xs) (d :: ds)
end
section
variable {X : Cx} {pins : List (Addr × Obj)} {σ : St} {H : Hp} {s : Shared}
mutual
theorem Dp.reads (I : Inv X pins σ H s) : ∀ {x : V} {d : PyData} {u : Value}, Dp X.K H x d → RelV x u → ∃ as, Reads s.heap u d as
  | _, _, _, .none, r => by cases r; exact ⟨_, .none⟩
  | _, _, _, .bool b, r => by cases r; exact ⟨_, .bool b⟩
  | _, _, _, .int i, r => by obtain ⟨t, rfl⟩ := r; exact ⟨_, .int i t⟩
  | _, _, _, .str z, r => by obtain ⟨t, rfl⟩ := r; exact ⟨_, .str z t⟩
  | _, _, _, .tup h t, r => by
    cases r
    obtain ⟨its, rv, ⟨o, e, c, n, dd⟩, _⟩ := I.tuple h
    obtain ⟨as, q⟩ := Dps.reads I t rv
    exact ⟨_, .tuple e c dd (by simpa using q)⟩
theorem Dps.reads (I : Inv X pins σ H s) : ∀ {xs : List V} {ds : List PyData} {us : List Value}, Dps X.K H xs ds → Vals xs us → ∃ as, ReadsAll s.heap us ds as
  | _, _, _, .nil, r => by cases r; exact ⟨_, .nil⟩
  | _, _, _, .cons h t, r => by
    cases r with
    | cons r1 r2 =>
      obtain ⟨as, q⟩ := Dp.reads I h r1
      obtain ⟨bs, q2⟩ := Dps.reads I t r2
      exact ⟨_, .cons q q2⟩
end

def Dl (K : PySem.W.Frag) (H : Hp) (x : V) (d : PyData) : Prop := Dp K H x d ∨ ∃ a xs ds, x = .ref a ∧ d = .list ds ∧ SqL K H a xs ∧ Dps K H xs ds
theorem Dl.reads (I : Inv X pins σ H s) {x : V} {d : PyData} {u : Value} (h : Dl X.K H x d) (r : RelV x u) : ∃ as, Reads s.heap u d as := by
  rcases h with h | ⟨a, xs, ds, rfl, rfl, h, t⟩
  · exact Dp.reads I h r
  · cases r
    obtain ⟨its, rv, ⟨o, n, e, c, _, dd⟩, _⟩ := I.list h
    obtain ⟨as, q⟩ := Dps.reads I t rv
    exact ⟨_, .list e c dd (by simpa using q)⟩

def rEqP (K : PySem.W.Frag) : R2 := fun x y H Q => ∃ d e, Dl K H x d ∧ Dl K H y e ∧ d.canLay0 = true ∧ e.canLay0 = true ∧ min d.depth e.depth ≤ 60 ∧ Q (.bl (d.eqv e)) H
def rNeP (K : PySem.W.Frag) : R2 := fun x y H Q => ∃ d e, Dl K H x d ∧ Dl K H y e ∧ d.canLay0 = true ∧ e.canLay0 = true ∧ min d.depth e.depth ≤ 60 ∧ Q (.bl (!d.eqv e)) H
theorem op_eqDl (hu : X.A.units + 64 < cLine) : OpR X (compareOp .Eq) (rEqP X.K) := by
  intro pins s σ H x y v u Q I rx ry h
  obtain ⟨d, e, h1, h2, c1, c2, dp, q⟩ := h
  obtain ⟨as, r1⟩ := h1.reads I rx
  obtain ⟨bs, r2⟩ := h2.reads I ry
  exact SeqAt.compareEq_reads r1 r2 c1 c2 (by omega) ⟨.bl _, H, I, rfl, q⟩
theorem op_neDl (hu : X.A.units + 64 < cLine) : OpR X (compareOp .NotEq) (rNeP X.K) := by
  intro pins s σ H x y v u Q I rx ry h
  obtain ⟨d, e, h1, h2, c1, c2, dp, q⟩ := h
  obtain ⟨as, r1⟩ := h1.reads I rx
  obtain ⟨bs, r2⟩ := h2.reads I ry
  exact SeqAt.compareNe_reads r1 r2 c1 c2 (by omega) ⟨.bl _, H, I, rfl, q⟩

def rInP (K : PySem.W.Frag) (neg : Bool) : R2 := fun x y H Q => ∃ a xs ds d, y = .ref a ∧ (SqL K H a xs ∨ SqT K H a xs) ∧ Dps K H xs ds ∧ Dp K H x d ∧ PyData.canLayAll0 ds = true ∧ d.canLay0 = true ∧ d.depth ≤ 60 ∧ Q (.bl (if neg then !(ds.any fun z => z.eqv d) else ds.any fun z => z.eqv d)) H
theorem op_inP (hu : X.A.units + 64 < cLine) : OpR X (compareOp .In) (rInP X.K false) := by
  intro pins s σ H x y v u Q I rx ry h
  obtain ⟨a, xs, ds, d, rfl, hs, hd, hx, c1, c2, dp, q⟩ := h
  obtain ⟨bs, r2⟩ := hx.reads I rx
  cases ry
  rcases hs with hs | hs
  · obtain ⟨as, r1⟩ := Dl.reads I (x := .ref a) (u := .ref a) (.inr ⟨a, xs, ds, rfl, rfl, hs, hd⟩) rfl
    exact SeqAt.in_list_reads r1 r2 c1 c2 (by omega) ⟨.bl _, H, I, rfl, q⟩
  · obtain ⟨as, r1⟩ := Dp.reads I (x := .ref a) (u := .ref a) (.tup hs hd) rfl
    exact SeqAt.in_tuple_reads r1 r2 c1 c2 (by omega) ⟨.bl _, H, I, rfl, q⟩
theorem op_notinP (hu : X.A.units + 64 < cLine) : OpR X (compareOp .NotIn) (rInP X.K true) := by
  intro pins s σ H x y v u Q I rx ry h
  obtain ⟨a, xs, ds, d, rfl, hs, hd, hx, c1, c2, dp, q⟩ := h
  obtain ⟨bs, r2⟩ := hx.reads I rx
  cases ry
  rcases hs with hs | hs
  · obtain ⟨as, r1⟩ := Dl.reads I (x := .ref a) (u := .ref a) (.inr ⟨a, xs, ds, rfl, rfl, hs, hd⟩) rfl
    exact SeqAt.notIn_list_reads r1 r2 c1 c2 (by omega) ⟨.bl _, H, I, rfl, q⟩
  · obtain ⟨as, r1⟩ := Dp.reads I (x := .ref a) (u := .ref a) (.tup hs hd) rfl
    exact SeqAt.notIn_tuple_reads r1 r2 c1 c2 (by omega) ⟨.bl _, H, I, rfl, q⟩
end
theorem rEqP_refl {K : PySem.W.Frag} {x y : V} {H : Hp} {Q : VK} {d : PyData} (h1 : Dl K H x d) (h2 : Dl K H y d) (c : d.canLay0 = true) (dp : d.depth ≤ 60) (q : Q (.bl true) H) : rEqP K x y H Q :=
  ⟨d, d, h1, h2, c, c, by omega, by rw [SeqAt.eqv_refl d c]; exact q⟩
theorem rNeP_refl {K : PySem.W.Frag} {x y : V} {H : Hp} {Q : VK} {d : PyData} (h1 : Dl K H x d) (h2 : Dl K H y d) (c : d.canLay0 = true) (dp : d.depth ≤ 60) (q : Q (.bl false) H) : rNeP K x y H Q :=
  ⟨d, d, h1, h2, c, c, by omega, by rw [SeqAt.eqv_refl d c]; exact q⟩
end L2

set_option Elab.async false
set_option linter.all false
set_option maxRecDepth 100000
namespace L2
open PySem PySem.Spec PyProof.Rows
theorem same_upd {H : Hp} {l : Addr} {o : HO} (h : H l = none) : Same H (upd H l o) := fun b u e => by rw [upd_ne (ne_of_none e h)]; exact e

def But (d : Addr) (H H' : Hp) : Prop := ∀ b, b ≠ d → H' b = H b
theorem But.upd {d : Addr} {H : Hp} {o : HO} : But d H (L2.upd H d o) := fun b h => upd_ne h
theorem But.same {d : Addr} {B H H' : Hp} (e : But d H H') (s : Same B H) (h : B d = none) : Same B H' := fun b o hb => by rw [e b (ne_of_none hb h)]; exact s b o hb
theorem But.at {d b : Addr} {H H' : Hp} {o : Option HO} (e : But d H H') (n : b ≠ d) (h : H b = o) : H' b = o := by rw [e b n]; exact h
theorem But.of {d b : Addr} {H H' : Hp} {o u : HO} (e : But d H H') (hd : H d = some u) (h : H b = some o) (n : o ≠ u) : H' b = some o := e.at (ne_of h hd n) h
def nwT (xs : List V) (H : Hp) (Q : VK) : Prop := xs.length ≤ sizeLine ∧ ∀ p, H p = none → Q (.ref p) (upd H p (.tup xs))
def nwL (xs : List V) (H : Hp) (Q : VK) : Prop := xs.length ≤ sizeLine ∧ ∀ p, H p = none → Q (.ref p) (upd H p (.lst xs))
section
variable {D : Ends} {σ : St} {H : Hp} {Q : VK} {K : PySem.W.Frag}
theorem x_seq {t u : TS} (h : t { D with nx := u D } σ H) : tSeq t u D σ H := h
theorem x_seqA {te : TE} {g : TG} {u : TS} (h : te σ H fun x H1 => g x σ H1 (u D)) : tSeq (tAsg te g) u D σ H := h
theorem x_seqD {te : TE} {u : TS} (h : te σ H fun _ H1 => u D σ H1) : tSeq (tDrop te) u D σ H := h
theorem x_seqF {wi : TI} {g : TG} {tb u : TS} (h : tFor wi g tb { D with nx := u D } σ H) : tSeq (tFor wi g tb) u D σ H := h
theorem x_seqM {ta tv : TE} {f : Str} {u : TS} (h : sFld K ta tv f { D with nx := u D } σ H) : tSeq (sFld K ta tv f) u D σ H := h
theorem x_seqG {c : TT} {te : TE} {u : TS} (h : c σ H fun b H1 => if b = true then te σ H1 D.rt else u D σ H1) : tSeq (tIfS c (tRet te) tNext) u D σ H := h

theorem x_next (h : D.nx σ H) : tNext D σ H := h
theorem x_ret {te : TE} (h : te σ H D.rt) : tRet te D σ H := h
theorem x_drop {te : TE} (h : te σ H fun _ H1 => D.nx σ H1) : tDrop te D σ H := h
theorem x_asg {te : TE} {g : TG} (h : te σ H fun x H1 => g x σ H1 D.nx) : tAsg te g D σ H := h
theorem x_ifs {c : TT} {t u : TS} (h : c σ H fun b H1 => if b = true then t D σ H1 else u D σ H1) : tIfS c t u D σ H := h
theorem x_name {i : Nat} {v : V} {R : St → Hp → Prop} (h : R (σ.set i (some v)) H) : gName i v σ H R := h
theorem x_var {i : Nat} {v : V} (h1 : σ[i]? = some (some v)) (h : Q v H) : tVar i σ H Q := ⟨v, h1, h⟩
theorem x_c {v : V} (h : Q v H) : tC v σ H Q := h
theorem x_op {r : R2} {ta tb : TE} (h : ta σ H fun x H1 => tb σ H1 fun y H2 => r x y H2 Q) : tOp r ta tb σ H Q := h
theorem x_I0 {g : Int → Int → V} {i j : Int} (h : Q (g i j) H) : rI0 g (.int i) (.int j) H Q := ⟨i, j, rfl, rfl, h⟩
theorem x_I {C : Int → Int → Prop} {g : Int → Int → V} {i j : Int} (hc : C i j) (h : Q (g i j) H) : rI C g (.int i) (.int j) H Q := ⟨i, j, rfl, rfl, hc, h⟩
theorem decI (i j : Int) : decide (V.int i = V.int j) = decide (i = j) := by
  by_cases h : i = j
  · subst h; rw [decide_eq_true rfl, decide_eq_true rfl]
  · rw [decide_eq_false h, decide_eq_false (fun e => h (V.int.inj e))]
theorem decS (i j : Str) : decide (V.str i = V.str j) = decide (i = j) := by
  by_cases h : i = j
  · subst h; rw [decide_eq_true rfl, decide_eq_true rfl]
  · rw [decide_eq_false h, decide_eq_false (fun e => h (V.str.inj e))]
theorem x_eqI {i j : Int} (h : Q (.bl (decide (i = j))) H) : rEq (.int i) (.int j) H Q := ⟨rfl, by rw [decI]; exact h⟩
theorem x_eqS {i j : Str} (h : Q (.bl (decide (i = j))) H) : rEq (.str i) (.str j) H Q := ⟨rfl, by rw [decS]; exact h⟩
theorem x_neS {i j : Str} (h : Q (.bl (!decide (i = j))) H) : rNe (.str i) (.str j) H Q := ⟨rfl, by rw [decS]; exact h⟩
theorem decB (i j : Bool) : decide (V.bl i = V.bl j) = (i == j) := by cases i <;> cases j <;> rfl
theorem x_eqB {i j : Bool} (h : Q (.bl (i == j)) H) : rEq (.bl i) (.bl j) H Q := ⟨rfl, by rw [decB]; exact h⟩
theorem x_neB {i j : Bool} (h : Q (.bl (!(i == j))) H) : rNe (.bl i) (.bl j) H Q := ⟨rfl, by rw [decB]; exact h⟩
theorem x_test {t : TE} {R : Bool → Hp → Prop} (h : t σ H fun x H' => ∃ k, x = .bl k ∧ R k H') : tTest t σ H R := h
theorem x_tru {t : TE} {R : Bool → Hp → Prop} (h : t σ H fun x H' => ∃ k, TruV K x H' k ∧ R k H') : tTru K t σ H R := h
theorem x_exbl {c : Bool} {P : Bool → Prop} (h : P c) : ∃ k, V.bl c = .bl k ∧ P k := ⟨c, rfl, h⟩
theorem x_extru {c : Bool} {P : Bool → Prop} (h : P c) : ∃ k, TruV K (.bl c) H k ∧ P k := ⟨c, rfl, h⟩
theorem x_and {t u : TT} {R : Bool → Hp → Prop} (h : t σ H fun c H1 => if c = true then u σ H1 R else R false H1) : tAnd t u σ H R := h
theorem x_or {t u : TT} {R : Bool → Hp → Prop} (h : t σ H fun c H1 => if c = true then R true H1 else u σ H1 R) : tOr t u σ H R := h
theorem x_not {t : TT} {R : Bool → Hp → Prop} (h : t σ H fun c H1 => R (!c) H1) : tNot t σ H R := h
theorem x_andV {ta tb : TE} (h : ta σ H fun x H1 => ∃ c, x = .bl c ∧ if c = true then tb σ H1 Q else Q (.bl false) H1) : tAndV ta tb σ H Q := h
theorem x_notV {ta : TE} (h : ta σ H fun x H1 => ∃ c, x = .bl c ∧ Q (.bl (!c)) H1) : tNotV ta σ H Q := h
theorem x_nil {R : List V → Hp → Prop} (h : R [] H) : tNil σ H R := h
theorem x_cons {ta : TE} {tr : TA} {R : List V → Hp → Prop} (h : ta σ H fun x H1 => tr σ H1 fun xs H2 => R (x :: xs) H2) : tCons ta tr σ H R := h
theorem x_tup {t : TA} (h : t σ H fun xs H1 => nwT xs H1 Q) : tTup t σ H Q := h
theorem x_lst {t : TA} (h : t σ H fun xs H1 => nwL xs H1 Q) : tLst t σ H Q := h
theorem x_nwT {xs : List V} (hl : xs.length ≤ sizeLine) (h : ∀ p H', H p = none → Same H H' → H' p = some (.tup xs) → Q (.ref p) H') : nwT xs H Q := ⟨hl, fun p hp => h p _ hp (same_upd hp) upd_same⟩
theorem x_nwL {xs : List V} (hl : xs.length ≤ sizeLine) (h : ∀ p H', H p = none → Same H H' → H' p = some (.lst xs) → Q (.ref p) H') : nwL xs H Q := ⟨hl, fun p hp => h p _ hp (same_upd hp) upd_same⟩
theorem x_call {sp : Sp} {dvs : List V} {E : XK} {t : TA} (h : t σ H fun vs H1 => sp (vs ++ dvs) H1 Q E) : tCall sp dvs E t σ H Q := h
theorem x_cb {r : List V → Hp → VK → Prop} {t : TA} (h : t σ H fun vs H1 => r vs H1 Q) : tCB r t σ H Q := h
theorem x_sl {r : V → Option Int → Option Int → Hp → VK → Prop} {te : TE} {tl th : TO} (h : te σ H fun x H1 => tl σ H1 fun l H2 => th σ H2 fun u H3 => r x l u H3 Q) : tSl r te tl th σ H Q := h
theorem x_nopart {R : Option Int → Hp → Prop} (h : R none H) : tNoPart σ H R := h
theorem x_part {t : TE} {R : Option Int → Hp → Prop} (h : t σ H fun x H1 => ∃ i, x = .int i ∧ R (some i) H1) : tPart t σ H R := h
theorem x_exint {c : Int} {P : Int → Prop} (h : P c) : ∃ k, V.int c = .int k ∧ P k := ⟨c, rfl, h⟩
theorem x_slL {a : Addr} {xs : List V} {lo hi : Option Int} (h1 : SqL K H a xs) (h : ∀ p H', H p = none → Same H H' → H' p = some (.lst (cutV xs lo hi)) → Q (.ref p) H') : rSlL K (.ref a) lo hi H Q := ⟨a, xs, rfl, h1, fun p hp => h p _ hp (same_upd hp) upd_same⟩
theorem x_ixL {a : Addr} {xs : List V} {i : Int} {v : V} (h1 : SqL K H a xs) (h2 : atI xs i = some v) (h : Q v H) : rIxL K (.ref a) (.int i) H Q := ⟨a, xs, i, v, rfl, rfl, h1, h2, h⟩
theorem x_ixT {a : Addr} {xs : List V} {i : Int} {v : V} (h1 : SqT K H a xs) (h2 : atI xs i = some v) (h : Q v H) : rIxT K (.ref a) (.int i) H Q := ⟨a, xs, i, v, rfl, rfl, h1, h2, h⟩

theorem x_for {wi : TI} {g : TG} {tb : TS} (h : wi σ H fun J H1 => ∃ W : Nat → Nat → St → Hp → Prop, (∃ m, W 0 m σ H1) ∧ ∀ i m σ H, W i m σ H →
  (J.stop i H ∧ D.nx σ H) ∨ (J.go i H ∧ ∃ N : St → Hp → Prop, (∀ σ' H', N σ' H' → ∃ m', m' < m ∧ W (i + 1) m' σ' H') ∧ ∀ x H', J.yld i H x H' → g x σ H' fun σ2 H2 => tb { D with nx := N, ct := N, bk := D.nx } σ2 H2)) : tFor wi g tb D σ H := h
theorem x_ir1 {ta : TA} {R : It → Hp → Prop} (h : ta σ H fun vs H1 => ∃ j : Int, vs = [.int j] ∧ -(2 ^ 62) ≤ j ∧ j < 2 ^ 62 ∧ R (Itr 0 j.toNat) H1) : iRng1 ta σ H R := h
theorem x_bm {T : String} {r : V → List V → Hp → VK → Prop} {to : TE} {t : TA} (h : to σ H fun x H1 => tyV K T x H1 ∧ t σ H1 fun xs H2 => r x xs H2 Q) : tBM K T r to t σ H Q := h
theorem x_tyl {a : Addr} {xs : List V} {P : Prop} (hd : H a = some (.lst xs)) (h : P) : tyV K "list" (.ref a) H ∧ P := ⟨.inl ⟨rfl, _, SqL.of hd⟩, h⟩
theorem x_append {a : Addr} {xs : List V} {y : V} (hd : H a = some (.lst xs)) (hl : xs.length < sizeLine) (h : ∀ H2, But a H H2 → H2 a = some (.lst (xs ++ [y])) → Q .non H2) : rAppend (.ref a) [y] H Q := ⟨a, xs, y, rfl, rfl, hd, hl, h _ .upd upd_same⟩
theorem x_comp {src : List (Option Nat)} {wi : TI} {g : TG} {tt : TT} {te : TE} (h : wi σ H fun J H1 => ∀ D, H1 D = none → ∃ W : Nat → Nat → St → Hp → Prop, (∃ m, W 0 m (blkSt src σ) (upd H1 D (.lst []))) ∧
  ∀ i m σ' H', W i m σ' H' → (J.stop i H' ∧ Q (.ref D) H') ∨ (J.go i H' ∧ ∃ N : St → Hp → Prop, (∀ σ2 H2, N σ2 H2 → ∃ m', m' < m ∧ W (i + 1) m' σ2 H2) ∧
    ∀ x H'', J.yld i H' x H'' → cTurn g tt te D N x σ' H'')) : tComp src wi g tt te σ H Q := h
end
theorem iteNT {A B : Prop} (h : B) : if (!true) = true then A else B := h
theorem iteNF {A B : Prop} (h : A) : if (!false) = true then A else B := h
end L2

set_option Elab.async false
set_option linter.all false
set_option maxRecDepth 100000
namespace L2
open PySem PySem.Spec PyProof.Rows
section
variable {X : Cx} {K : PySem.W.Frag}
theorem ix_tupK (hK : X.K = K) : IxR X (rIxT K) := by subst hK; exact ix_tup
theorem ix_listK (hK : X.K = K) : IxR X (rIxL K) := by subst hK; exact ix_list
theorem sl_listK (hK : X.K = K) : SlR X (rSlL K) := by subst hK; exact sl_list
theorem sl_tupK (hK : X.K = K) : SlR X (rSlT K) := by subst hK; exact sl_tup
theorem op_eqK (hK : X.K = K) (hu : X.A.units + 64 < cLine) : OpR X (compareOp .Eq) (rEqP K) := by subst hK; exact op_eqDl hu
theorem op_neK (hK : X.K = K) (hu : X.A.units + 64 < cLine) : OpR X (compareOp .NotEq) (rNeP K) := by subst hK; exact op_neDl hu
theorem op_inK (hK : X.K = K) (hu : X.A.units + 64 < cLine) : OpR X (compareOp .In) (rInP K false) := by subst hK; exact op_inP hu
theorem op_ninK (hK : X.K = K) (hu : X.A.units + 64 < cLine) : OpR X (compareOp .NotIn) (rInP K true) := by subst hK; exact op_notinP hu
theorem op_catTK (hK : X.K = K) : OpR X (binaryOp .Add) (rCatT K) := by subst hK; exact op_catT
def rLen (K : PySem.W.Frag) : List V → Hp → VK → Prop := fun xs H Q => ∃ p ys, xs = [.ref p] ∧ (SqL K H p ys ∨ SqT K H p ys) ∧ Q (.int ys.length) H
theorem call_lenK (hK : X.K = K) : CallR X (.builtin "len") (rLen K) := by subst hK; exact call_len_seq
def rTupleOf (K : PySem.W.Frag) : List V → Hp → VK → Prop := fun xs H Q => ∃ p ys, xs = [.ref p] ∧ ((SqL K H p ys ∧ ∀ l, H l = none → Q (.ref l) (upd H l (.tup ys))) ∨ (SqT K H p ys ∧ Q (.ref p) H))
theorem call_tupleK (hK : X.K = K) : CallR X (.type "tuple") (rTupleOf K) := by subst hK; exact call_tuple_of
def rIsI (K : PySem.W.Frag) : List V → Hp → VK → Prop := fun xs H Q => ∃ (x : V) (t : Value) (T : String) (b : Bool), xs = [x, .ty T] ∧ TyOf K H x t ∧ PySem.W.kitOne K t (.type T) = some b ∧ Q (.bl b) H
theorem call_isiK (hK : X.K = K) : CallR X (.builtin "isinstance") (rIsI K) := by subst hK; exact call_isinst
theorem pt_nameK {x : Str} {pos : Pos} {t : TE} (hK : X.K = K) (h : PE X (.Name x pos) t) : PT X (.Name x pos) (tTru K t) := by
  subst hK
  exact pt_truth h fun _ => rfl
theorem pe_appendK {o e : Expr} {to : TE} {t : TA} {apos cpos : Pos} (hK : X.K = K) (h : PE X (.Call (.Attribute o "append" apos) [e] [] cpos) (tBM X.K "list" rAppend to t)) : PE X (.Call (.Attribute o "append" apos) [e] [] cpos) (tBM K "list" rAppend to t) := by subst hK; exact h
end
section
variable {σ : St} {H : Hp} {Q : VK} {K : PySem.W.Frag}
theorem x_rtupL {a : Addr} {xs : List V} (hd : SqL K H a xs) (h : ∀ p H', H p = none → Same H H' → H' p = some (.tup xs) → Q (.ref p) H') : rTupleOf K [.ref a] H Q := ⟨a, xs, rfl, .inl ⟨hd, fun p hp => h p _ hp (same_upd hp) upd_same⟩⟩
end
end L2

set_option Elab.async false
set_option linter.all false
set_option maxRecDepth 100000
namespace L2
open PySem PySem.Spec PyProof.Rows
theorem atI_int {α : Type} {xs : List α} {i : Int} {v : α} (h0 : 0 ≤ i) (h : xs[i.toNat]? = some v) : atI xs i = some v := by
  obtain ⟨n, rfl⟩ := Int.eq_ofNat_of_zero_le h0
  exact atI_nat h
def SmH (H H' : Hp) : Prop := ∀ a xs, H a = some (.tup xs) → H' a = some (.tup xs)
theorem SmH.trans {H1 H2 H3 : Hp} (a : SmH H1 H2) (b : SmH H2 H3) : SmH H1 H3 := fun _ _ h => b _ _ (a _ _ h)
theorem SmH.same {H H' : Hp} (e : Same H H') : SmH H H' := fun _ _ h => e _ _ h
theorem SmH.but {H H' : Hp} {l : Addr} {o : HO} (e : But l H H') (h : H l = some o) (n : ∀ xs, o ≠ .tup xs) : SmH H H' := fun a xs z => e.of h z (Ne.symm (n xs))
section
variable {σ : St} {H : Hp} {Q : VK} {K : PySem.W.Frag} {X : Cx}
theorem x_rlenQ {a : Addr} {xs : List V} (hd : SqL K H a xs ∨ SqT K H a xs) (h : Q (.int xs.length) H) : rLen K [.ref a] H Q := ⟨a, xs, rfl, hd, h⟩
end
end L2

set_option Elab.async false
set_option linter.all false
set_option maxRecDepth 100000
namespace L2
open PySem PySem.Spec PyProof.Rows
section
variable {X : Cx} {CX : CXT} {k : Nat} {f C : Addr} {fd : FuncData} {ps : List Str} {sp : Sp} {dvs : List V} {ds : List Value} {E : XK} {x m : Str} {p pos apos : Pos} {e o : Expr} {es : List Expr} {ta : TE} {t : TA}

structure ClsFn (K : PySem.W.Frag) (C : Addr) (m : Str) (f : Addr) : Prop where
  ga : PySem.W.specialIn K (.ref C) "__getattribute__" = some (some (.builtin "type.__getattribute__"))
  rd : PySem.W.readsIn K C (.type "type") = true
  at_ : PySem.W.findCls K (.ref C) (.type "type") m = some (.val (.ref f))
  hd : PySem.W.handedIn (.ref f) = true
  kp : PySem.W.keepIn K (.ref f) = true
theorem pe_clsfn {pl : Sem Bool} (hg : Gl X x) (hm : X.mg x = some (.ref C)) (c : ClsFn X.K C m f) (F : FnOk X.prog X.w X.K X.mg X.base CX0 k f fd ps sp) (hb : Binds X.K fd ps []) (hr : Room k X.A) (ha : PA X (e :: es) t)
    (hdb : (x == ("__debug__" : Str)) = false := by decide)
    (hst : starEach (e :: es) X.env = (false, eval e X.env) :: starEach es X.env := by rfl) (hpl : (backTo pos (starEach es X.env)).any (·.1) = false := by rfl)
    (ht : eval (.Call (.Attribute (.Name x p) m apos) (e :: es) [] pos) X.env = (do
      let ov ← eval (.Name x p) X.env
      standAt apos.atName
      let (f, first) ← holding [ov] (getMethod ov m pl)
      callWith pos f first (backTo pos (starEach (e :: es) X.env)) (backToKw pos (keywordEach [] X.env))) := by rfl) :
    PE X (.Call (.Attribute (.Name x p) m apos) (e :: es) [] pos) (tCall sp [] E0 t) := by
  intro pins s σ H Q I h
  refine PySem.W.methodCall_KW (pl := pl) (thn (pe_glob (v := .ref C) hg hm rfl hdb pins s σ H (fun v H1 => v = .ref C ∧ t σ H1 fun vs H2 => sp (vs ++ []) H2 Q E0) I ⟨rfl, h⟩) fun u s1 ⟨x, H1, I1, rx, ex, q⟩ => ?_) ht
  subst ex
  obtain rfl : u = Value.ref C := rx
  refine PySem.W.method_cls I1.kIn c.ga (PySem.W.cls_value I1.kIn c.rd c.at_ c.hd ?_)
  refine PySem.W.callWith_K (first := []) (h₀ := X.base) I.ok.mod.kin c.kp (thn (ha pos pins _ σ H1 _ (I1.tok _) q) fun us s2 ⟨vs, H2, I2, r, q2⟩ => ⟨I2.kIn, ?_⟩) hst hpl
  exact run_fn (us := us) (vs := vs) F hr hb .nil pass0 I2 r q2

def MOk (P : Program) (w : World) (K : PySem.W.Frag) (mg : Str → Option Value) (base : Heap) (k : Nat) (m : Str) (ms : List (Addr × Sp)) : Prop :=
  ∀ cs ∈ ms, ∃ f fd ps, Cls K cs.1 ∧ Meth K cs.1 m f ∧ FnOk P w K mg base CX0 k f fd ps cs.2 ∧ Binds K fd ps []
theorem MOk.nil {P : Program} {w : World} {K : PySem.W.Frag} {mg : Str → Option Value} {base : Heap} : MOk P w K mg base k m [] := fun _ h => nomatch h
theorem MOk.cons {P : Program} {w : World} {K : PySem.W.Frag} {mg : Str → Option Value} {base : Heap} {ms : List (Addr × Sp)} (c : Cls K C) (hm : Meth K C m f) (F : FnOk P w K mg base CX0 k f fd ps sp) (hb : Binds K fd ps []) (r : MOk P w K mg base k m ms) : MOk P w K mg base k m ((C, sp) :: ms) := by
  intro cs h
  rcases List.mem_cons.mp h with rfl | h
  · exact ⟨f, fd, ps, c, hm, F, hb⟩
  · exact r cs h
def mtS (ms : List (Addr × Sp)) (m : Str) (t : TA) (σ : St) (x : V) (H : Hp) (Q : VK) : Prop :=
  ∃ cs ∈ ms, ∃ a dx fs, x = .ref a ∧ H a = some (.ins cs.1 dx fs) ∧ fs.lookup m = none ∧ t σ H fun vs H2 => cs.2 (x :: (vs ++ [])) H2 Q E0
def tMethS (ms : List (Addr × Sp)) (m : Str) (ta : TE) (t : TA) : TE := fun σ H Q => ta σ H fun x H1 => mtS ms m t σ x H1 Q
theorem pe_methS0 {pl : Sem Bool} {ms : List (Addr × Sp)} (M : MOk X.prog X.w X.K X.mg X.base k m ms) (he : PE X o ta) (hr : Room k X.A)
    (ht : eval (.Call (.Attribute o m apos) [] [] pos) X.env = (do
      let ov ← eval o X.env
      standAt apos.atName
      let (f, first) ← holding [ov] (getMethod ov m pl)
      callWith pos f first (backTo pos (starEach [] X.env)) (backToKw pos (keywordEach [] X.env))) := by rfl) :
    PE X (.Call (.Attribute o m apos) [] [] pos) (tMethS ms m ta tNil) := by
  intro pins s σ H Q I h
  refine PySem.W.methodCall_KW (pl := pl) (thn (he pins s σ H _ I h) fun u s1 ⟨x, H1, I1, rx, cs, hcs, a, dx, fs, ex, ea, l, q⟩ => ?_) ht
  subst ex
  obtain rfl : u = Value.ref a := rx
  obtain ⟨f, fd, ps, c, hm, F, hb⟩ := M cs hcs
  refine getmeth_ok I1 ea c hm l ?_
  exact PySem.W.callWith_K0 (first := [.ref a]) I1.kIn hm.kp (run_fn (us := [.ref a]) (vs := [.ref a]) F hr hb .nil pass0 I1 (.cons rfl .nil) q)
structure InsF (K : PySem.W.Frag) (C : Addr) : Prop where
  ha : PySem.W.findIn K (.ref C) "__class__" = some (some (.builtin "object.__class__"))
  hn : PySem.W.specialIn K (.builtin "object.__class__") "__get__" = some (some (.builtin "getset_descriptor.__get__"))
  htk : PySem.W.takesIn K (.builtin "object.__class__") = some true
  hm : PySem.W.mroIn K C (.type "object") = some true
theorem InsF.ty {K : PySem.W.Frag} {H : Hp} {a C dx : Addr} {fs : List (Str × V)} (i : InsF K C) (e : H a = some (.ins C dx fs)) (c : Cls K C) : TyOf K H (.ref a) (.ref C) := .ins e c i.ha i.hn i.htk i.hm
theorem kit_of {K : PySem.W.Frag} {C D : Addr} {b : Bool} (h0 : (Value.ref C == Value.ref D) = false) (h1 : (PySem.W.clsIn K D).isSome = true) (h2 : PySem.W.typeIn K (.ref D) = some (.type "type")) (h3 : PySem.W.mroIn K C (.ref D) = some b) : PySem.W.kitOne K (.ref C) (.ref D) = some b := by
  unfold PySem.W.kitOne
  rw [if_neg (by rw [h0]; decide)]
  unfold PySem.W.kitCls
  show (if ((PySem.W.clsIn K D).isSome && PySem.W.typeIn K (.ref D) == some (.type "type")) = true then PySem.W.subIn K (.ref C) (.ref D) else none) = some b
  rw [h1, h2, if_pos (by rfl)]
  exact h3
theorem kit_same {K : PySem.W.Frag} {C : Addr} (h0 : (Value.ref C == Value.ref C) = true) : PySem.W.kitOne K (.ref C) (.ref C) = some true := by
  unfold PySem.W.kitOne
  rw [if_pos h0]
def rIsC (K : PySem.W.Frag) : List V → Hp → VK → Prop := fun xs H Q => ∃ (x : V) (t : Value) (C : Addr) (b : Bool), xs = [x, .ref C] ∧ TyOf K H x t ∧ PySem.W.kitOne K t (.ref C) = some b ∧ Q (.bl b) H
end
section
variable {X : Cx} {K : PySem.W.Frag}
theorem call_isiC (hK : X.K = K) : CallR X (.builtin "isinstance") (rIsC K) := by
  subst hK
  intro pins s σ H xs us Q I r h
  obtain ⟨x, t, C, b, rfl, ty, e, q⟩ := h
  cases r with
  | cons r1 r2 =>
    cases r2 with
    | cons r3 r4 =>
      cases r4
      cases r3
      exact isinst_ok I r1 ty e fun tk => ⟨.bl b, H, I.tok _, rfl, q⟩
theorem pe_fldK {e : Expr} {ta : TE} {f : Str} {pos : Pos} (hK : X.K = K) (he : PE X e ta) (hb : attributeBase e f X.env (eval e X.env) = eval e X.env) : PE X (.Attribute e f pos) (tFld K ta f) := by subst hK; exact pe_fld he hb
theorem ps_fldK {o value : Expr} {ta tv : TE} {f : Str} {pos pos' : Pos} (hK : X.K = K) (ha : PE X o ta) (hv : PE X value tv) (hs : swapsWith value (some (.Attribute o f pos')) pos.line X.env = pure false) : PS X (.Assign [.Attribute o f pos'] value pos) (sFld K ta tv f) := by subst hK; exact ps_fld ha hv hs
end
section
variable {D : Ends} {σ : St} {H : Hp} {Q : VK} {K : PySem.W.Frag}
def fldK (K : PySem.W.Frag) (f : Str) (x : V) (H : Hp) (Q : VK) : Prop := ∃ a C dx fs v, x = .ref a ∧ H a = some (.ins C dx fs) ∧ Cls K C ∧ NoAttr K C f ∧ fs.lookup f = some v ∧ Q v H
theorem x_fld {ta : TE} {f : Str} (h : ta σ H fun x H1 => fldK K f x H1 Q) : tFld K ta f σ H Q := h
theorem x_fldk {f : Str} {a C dx : Addr} {fs : List (Str × V)} {v : V} (e : H a = some (.ins C dx fs)) (c : Cls K C) (n : NoAttr K C f) (l : fs.lookup f = some v) (h : Q v H) : fldK K f (.ref a) H Q := ⟨a, C, dx, fs, v, rfl, e, c, n, l, h⟩
def sfK (K : PySem.W.Frag) (f : Str) (y x : V) (H : Hp) (R : Hp → Prop) : Prop := ∃ a C dx fs, x = .ref a ∧ H a = some (.ins C dx fs) ∧ Cls K C ∧ NoAttr K C f ∧ fs.length < 1000 ∧ R (upd H a (.ins C dx (putF f y fs)))
theorem x_sfld {ta tv : TE} {f : Str} (h : tv σ H fun y H1 => ta σ H1 fun x H2 => sfK K f y x H2 fun H3 => D.nx σ H3) : sFld K ta tv f D σ H := h
theorem x_sfk {f : Str} {y : V} {a C dx : Addr} {fs : List (Str × V)} {R : Hp → Prop} (e : H a = some (.ins C dx fs)) (c : Cls K C) (n : NoAttr K C f) (hl : fs.length < 1000) (h : ∀ H2, But a H H2 → H2 a = some (.ins C dx (putF f y fs)) → R H2) : sfK K f y (.ref a) H R := ⟨a, C, dx, fs, rfl, e, c, n, hl, h _ .upd upd_same⟩
theorem x_methS {ms : List (Addr × Sp)} {m : Str} {ta : TE} {t : TA} (h : ta σ H fun x H1 => mtS ms m t σ x H1 Q) : tMethS ms m ta t σ H Q := h
theorem x_mtS0 {ms : List (Addr × Sp)} {m : Str} {t : TA} {C a dx : Addr} {sp : Sp} {fs : List (Str × V)} (e : H a = some (.ins C dx fs)) (l : fs.lookup m = none) (h : t σ H fun vs H2 => sp (.ref a :: (vs ++ [])) H2 Q E0) : mtS ((C, sp) :: ms) m t σ (.ref a) H Q :=
  ⟨(C, sp), List.mem_cons_self, a, dx, fs, rfl, e, l, h⟩
theorem x_mtS1 {ms : List (Addr × Sp)} {m : Str} {t : TA} {cs : Addr × Sp} {x : V} (h : mtS ms m t σ x H Q) : mtS (cs :: ms) m t σ x H Q := by
  obtain ⟨c, h1, h2⟩ := h
  exact ⟨c, List.mem_cons_of_mem _ h1, h2⟩
def mkK (C : Addr) (sp : Sp) (vs : List V) (H : Hp) (Q : VK) : Prop := ∀ x dx, H x = none → H dx = none → dx ≠ x → sp (.ref x :: (vs ++ [])) (upd (upd H dx (.own x)) x (.ins C dx [])) (fun v H2 => v = .non ∧ Q (.ref x) H2) E0
theorem x_make {C : Addr} {sp : Sp} {t : TA} (h : t σ H fun vs H1 => mkK C sp vs H1 Q) : tMake C sp [] E0 t σ H Q := h
theorem x_mk {C : Addr} {sp : Sp} {vs : List V} (h : ∀ x dx H', H x = none → Same H H' → H' x = some (.ins C dx []) → sp (.ref x :: (vs ++ [])) H' (fun v H2 => v = .non ∧ Q (.ref x) H2) E0) : mkK C sp vs H Q := by
  intro x dx nx ndx nex
  refine h x dx _ nx (fun b o e => ?_) upd_same
  rw [upd_ne (ne_of_none e nx), upd_ne (ne_of_none e ndx)]
  exact e
end
theorem x_nx {f b c : St → Hp → Prop} {r : VK} {σ : St} {H : Hp} (h : f σ H) : Ends.nx ⟨f, r, b, c⟩ σ H := h
theorem x_yes {σ : St} {H : Hp} {R : Bool → Hp → Prop} (h : R true H) : tYes σ H R := h
theorem x_turn {g : TG} {tt : TT} {te : TE} {D : Addr} {N : St → Hp → Prop} {x : V} {σ : St} {H : Hp} (h : g x σ H fun σ2 H2 => tt σ2 H2 fun b H3 => if b = true then te σ2 H3 fun y H4 => ∃ ys, H4 D = some (.lst ys) ∧ ys.length < sizeLine ∧ N σ2 (upd H4 D (.lst (ys ++ [y]))) else N σ2 H3) : cTurn g tt te D N x σ H := h
end L2

set_option Elab.async false
set_option linter.all false
set_option maxRecDepth 100000
namespace L2
open PySem PySem.Spec PyProof.Rows
theorem same_prs {H H' : Hp} (s : Same H H') {xs : List V} {ps : List (Int × Int)} (r : Prs H xs ps) : Prs H' xs ps := r.mono fun a xs e => s a _ e
def cfl (n c k w cs : V) : List (Str × V) := [("number", n), ("caller", c), ("count", k), ("word", w), ("causes", cs)]
theorem cfl_put (n c k w cs : V) : putF "causes" cs (putF "word" w (putF "count" k (putF "caller" c (putF "number" n [])))) = cfl n c k w cs := by
  have e : ∀ (a b : Str), decide (a = b) = false → a ≠ b := fun a b h => of_decide_eq_false h
  simp only [putF, cfl, if_neg (e "number" "caller" (by decide +kernel)), if_neg (e "number" "count" (by decide +kernel)), if_neg (e "caller" "count" (by decide +kernel)), if_neg (e "number" "word" (by decide +kernel)), if_neg (e "caller" "word" (by decide +kernel)), if_neg (e "count" "word" (by decide +kernel)), if_neg (e "number" "causes" (by decide +kernel)), if_neg (e "caller" "causes" (by decide +kernel)), if_neg (e "count" "causes" (by decide +kernel)), if_neg (e "word" "causes" (by decide +kernel))]
theorem cfl_number {n c k w cs : V} : (cfl n c k w cs).lookup ("number" : Str) = some n := by kernel_rfl
theorem cfl_caller {n c k w cs : V} : (cfl n c k w cs).lookup ("caller" : Str) = some c := by kernel_rfl
theorem cfl_count {n c k w cs : V} : (cfl n c k w cs).lookup ("count" : Str) = some k := by kernel_rfl
theorem cfl_word {n c k w cs : V} : (cfl n c k w cs).lookup ("word" : Str) = some w := by kernel_rfl
theorem cfl_causes {n c k w cs : V} : (cfl n c k w cs).lookup ("causes" : Str) = some cs := by kernel_rfl
theorem cfl_asks_place {n c k w cs : V} : (cfl n c k w cs).lookup ("asks_place" : Str) = none := by kernel_rfl
theorem cfl_kind {n c k w cs : V} : (cfl n c k w cs).lookup ("kind" : Str) = none := by kernel_rfl
theorem cfl_name {n c k w cs : V} : (cfl n c k w cs).lookup ("name" : Str) = none := by kernel_rfl
theorem cfl_told {n c k w cs : V} : (cfl n c k w cs).lookup ("told" : Str) = none := by kernel_rfl
theorem x_kinds {K : PySem.W.Frag} {H : Hp} {Q : VK} {a : Addr} {kd : Str} (h : kd = "own" ∨ kd = "heard" ∨ kd = "one") (ha : SqT K H a [.str "own", .str "heard", .str "one"]) (q : Q (.bl false) H) : rInP K true (.str kd) (.ref a) H Q := by
  refine ⟨a, _, _, _, rfl, .inr ha, .cons (.str _) (.cons (.str _) (.cons (.str _) .nil)), .str kd, by kernel_rfl, ?_, by show 0 ≤ 60; decide, ?_⟩
  · rcases h with rfl | rfl | rfl <;> kernel_rfl
  · have e : (([.str "own", .str "heard", .str "one"] : List PyData).any fun z => z.eqv (.str kd)) = true := by rcases h with rfl | rfl | rfl <;> kernel_rfl
    show Q (.bl (!_)) H
    rw [e]
    exact q
theorem ne_oh : decide (("heard" : Str) = "own") = false := by decide +kernel
theorem ne_oo : decide (("one" : Str) = "own") = false := by decide +kernel
theorem ne_ho : decide (("one" : Str) = "heard") = false := by decide +kernel
theorem ne_ow : decide (("own" : Str) = "one") = false := by decide +kernel
theorem ne_hw : decide (("heard" : Str) = "one") = false := by decide +kernel
theorem eq_oo : decide (("own" : Str) = "own") = true := by decide +kernel
theorem eq_hh : decide (("heard" : Str) = "heard") = true := by decide +kernel
theorem eq_ww : decide (("one" : Str) = "one") = true := by decide +kernel
theorem at3s (x y z : Str) (c : Int) : ∃ v : Str, atI [V.str x, V.str y, V.str z] (c % 3) = some (.str v) ∧ (v = x ∨ v = y ∨ v = z) := by
  have h1 := Int.emod_nonneg c (show (3 : Int) ≠ 0 by decide)
  have h2 := Int.emod_lt_of_pos c (show (0 : Int) < 3 by decide)
  rcases (by omega : c % 3 = 0 ∨ c % 3 = 1 ∨ c % 3 = 2) with h | h | h
  · exact ⟨x, by rw [h]; exact atI_nat (j := 0) rfl, .inl rfl⟩
  · exact ⟨y, by rw [h]; exact atI_nat (j := 1) rfl, .inr (.inl rfl)⟩
  · exact ⟨z, by rw [h]; exact atI_nat (j := 2) rfl, .inr (.inr rfl)⟩
def prD (p : Int × Int) : PyData := .tuple [.int p.1, .int p.2]
theorem Prs.dps {K : PySem.W.Frag} {H : Hp} : ∀ {xs : List V} {ps : List (Int × Int)}, Prs H xs ps → Dps K H xs (ps.map prD)
  | _, _, .nil => .nil
  | _, _, .cons r t => by
    obtain ⟨a, rfl, h⟩ := r
    exact .cons (.tup (SqT.of h) (.cons (.int _) (.cons (.int _) .nil))) (Prs.dps t)
theorem prs_lay : ∀ ps : List (Int × Int), PyData.canLayAll0 (ps.map prD) = true
  | [] => rfl
  | p :: ps => by rw [List.map_cons, PyData.canLayAll0.eq_2, prs_lay ps]; rfl
theorem prs_dep : ∀ ps : List (Int × Int), PyData.depthAll (ps.map prD) ≤ 1
  | [] => by rw [List.map_nil, PyData.depthAll.eq_1]; omega
  | p :: ps => by
    have e : PyData.depthAll ((p :: ps).map prD) = max (prD p).depth (PyData.depthAll (ps.map prD)) := rfl
    rw [e]
    have := prs_dep ps
    have : (prD p).depth = 1 := rfl
    omega
structure TCall (K : PySem.W.Frag) (C : Addr) : Prop where
  cl : Cls K C
  n1 : NoAttr K C "number"
  n2 : NoAttr K C "caller"
  n3 : NoAttr K C "count"
  n4 : NoAttr K C "word"
  n5 : NoAttr K C "causes"
end L2

set_option Elab.async false
set_option linter.all false
set_option maxRecDepth 100000
namespace L2
open PySem PySem.Spec PyProof.Rows

section
variable {X : Cx}
end
section
variable {D : Ends} {σ : St} {H : Hp} {Q : VK}
end
end L2

set_option Elab.async false
set_option linter.all false
set_option maxRecDepth 100000
namespace L2
open PySem PySem.Spec PyProof.Rows
end L2

set_option Elab.async false
set_option linter.all false
set_option maxRecDepth 100000
namespace L2
open PySem PySem.Spec PyProof.Rows

section
variable {X : Cx}
end
section
variable {X : Cx}
end
end L2

set_option Elab.async false
set_option linter.all false
set_option maxRecDepth 100000
namespace L2
open PySem PySem.Spec PyProof.Rows
section
variable {X : Cx}

end
end L2

set_option Elab.async false
set_option linter.all false
set_option maxRecDepth 100000
namespace L2
open PySem PySem.Spec PyProof.Rows
section
variable {X : Cx}

end
end L2

set_option Elab.async false
set_option linter.all false
set_option maxRecDepth 100000
namespace GX
open PySem
section
variable {prog : Program} {w : World} {A : Around} {E : Value → Shared → Prop} {s : Shared} {K : Type} [DecidableEq K] {knd : KeyKind prog w K}

end
end GX
namespace L2
open PySem PySem.Spec PyProof.Rows
section
variable {X : Cx}
end
end L2

set_option Elab.async false
set_option linter.all false
set_option maxRecDepth 100000
namespace GX
open PySem PyProof.Rows
end GX
namespace L2
open PySem PySem.Spec PyProof.Rows

section
variable {X : Cx}
end
end L2

set_option Elab.async false
set_option linter.all false
set_option maxRecDepth 100000
namespace HT
open PySem PyProof.Rows
section
open PySem.SeqAt
open PySem.AutoSeq1 (wpAny_loadPart')
open PySem.MeetsSeq PySem.MeetsSeq2 PySem.MeetsSeq3
end
section
variable {prog : Program} {w : World} {A : Around} {E : Value → Shared → Prop} {s : Shared}
end
end HT
namespace L2
open PySem PySem.Spec PyProof.Rows
section
variable {X : Cx}

end

section
variable {me hd ba ye vo re ag v : V}
end

end L2

set_option Elab.async false
set_option linter.all false
set_option maxRecDepth 100000
namespace GX
open PySem PyProof.Rows
section
variable {prog : Program} {w : World} {A : Around} {R : Result → Shared → Prop} {I d : Addr} {fp wr : List Addr} {n : Nat} {P : Nat → Value → Prop} {St : Nat → Heap → Prop} {K : Type} [DecidableEq K] {knd : KeyKind prog w K}

end
section
variable {prog : Program} {w : World} {A : Around} {E : Value → Shared → Prop} {s : Shared} {K : Type} [DecidableEq K] {knd : KeyKind prog w K}

end
end GX
namespace L2
open PySem PySem.Spec PyProof.Rows

section
variable {X : Cx}
end
end L2

set_option Elab.async false
set_option linter.all false
set_option maxRecDepth 100000
namespace L2
open PySem PySem.Spec PyProof.Rows

section
variable {X : Cx} {pins : List (Addr × Obj)} {σ : St} {H : Hp} {s : Shared}
end
section
variable {X : Cx} {pins : List (Addr × Obj)} {σ : St} {l f : Addr} {xs : List V} {its : List Value} {ks : List (List Int)} {k : Nat} {fd : FuncData} {ps : List Str} {sp : Sp}
end
section
variable {X : Cx}
end
end L2

set_option Elab.async false
set_option linter.all false
set_option maxRecDepth 100000
namespace L2
open PySem PySem.Spec PyProof.Rows
section
variable {prog : Program} {w : World} {A : Around} {E : Value → Shared → Prop} {s : Shared}

end
end L2

set_option Elab.async false
set_option linter.all false
set_option maxRecDepth 100000
namespace L2
open PySem PySem.Spec PyProof.Rows

section
variable {n : Nat} (hn : 0 < n)
include hn
end
section
variable {prog : Program} {w : World} {A : Around} {E : Value → Shared → Prop} {s : Shared}

end
section
variable {X : Cx}

end
end L2

set_option Elab.async false
set_option linter.all false
set_option maxRecDepth 100000
namespace L2
open PySem PySem.Spec PyProof.Rows
section
variable {X : Cx} {pins : List (Addr × Obj)} {σ : St} {H H0 : Hp} {s : Shared} {h' : Heap}

end
section
variable {X : Cx} {pins : List (Addr × Obj)} {σ : St} {H : Hp} {s : Shared} {D f : Addr} {xs : List V} {its : List Value} {ks : List (List Int)} {k : Nat} {fd : FuncData} {ps : List Str} {sp : Sp}

end
end L2

set_option Elab.async false
set_option linter.all false
set_option maxRecDepth 100000
namespace L2
open PySem PySem.Spec PyProof.Rows

section
variable {X : Cx}
end
end L2

set_option Elab.async false
set_option linter.all false
set_option maxRecDepth 100000
namespace L2
open PySem PySem.Spec PyProof.Rows
section
variable {X : Cx}

end
end L2

set_option Elab.async false
set_option linter.all false
set_option maxRecDepth 100000
namespace L2
open PySem PySem.Spec PyProof.Rows
section
variable {X : Cx}
end

end L2

set_option Elab.async false
set_option linter.all false
set_option maxRecDepth 100000
namespace L2
open PySem PySem.Spec PyProof.Rows
section
variable {X : Cx} {K : PySem.W.Frag}

end
end L2

set_option Elab.async false
set_option linter.all false
set_option maxRecDepth 100000
namespace GX
open PySem PySem.Spec PyProof.Rows

section
variable {prog : Program} {w : World} {A : Around} {s : Shared} {E : Value → Shared → Prop} {it l : Addr}
end
end GX

set_option Elab.async false
set_option linter.all false
set_option maxRecDepth 100000
namespace GX
open PySem PySem.Spec PyProof.Rows

section
variable {prog : Program} {w : World} {A : Around} {s : Shared} {E : Value → Shared → Prop} {it v d : Addr} {es : Array DictEntry} {i ep : Nat}
end
end GX

set_option Elab.async false
set_option linter.all false
set_option maxRecDepth 100000
namespace GX
open PySem PySem.Spec PyProof.Rows
section
variable {prog : Program} {w : World} {K : Type} [DecidableEq K] {knd : HeapKind prog w K} {d a : Addr} {xs : List (K × Addr × Value)} {k : K} {j : Nat} {p : Addr × Value}
end
end GX

set_option Elab.async false
set_option linter.all false
set_option maxRecDepth 100000
namespace L2
open PySem PySem.Spec PyProof.Rows

section
variable {X : Cx} {tg : Expr}
end
end L2

set_option Elab.async false
set_option linter.all false
set_option maxRecDepth 100000
namespace L2
open PySem PySem.Spec PyProof.Rows

section
variable {X : Cx}
end

section
variable {X : Cx}
end
end L2

set_option Elab.async false
set_option linter.all false
set_option maxRecDepth 100000
namespace L2
open PySem PySem.Spec PyProof.Rows
section
variable {X : Cx}
end
end L2

set_option Elab.async false
set_option linter.all false
set_option maxRecDepth 100000
namespace L2
open PySem PySem.Spec PyProof.Rows

section
variable (ky : Nat → Int)
variable {ky} {n : Nat} (hn : 0 < n)
end
section
variable {prog : Program} {w : World} {A : Around} {E : Value → Shared → Prop} {s : Shared}
end
section
variable {X : Cx} {pins : List (Addr × Obj)} {σ : St} {H : Hp} {s : Shared} {D f : Addr} {xs : List V} {its : List Value} {ks : List (List Int)} {k : Nat} {fd : FuncData} {ps : List Str} {sp : Sp}

end

section
variable {X : Cx}
end
end L2

set_option Elab.async false
set_option linter.all false
set_option maxRecDepth 100000
namespace L2
open PySem PySem.Spec PyProof.Rows
section
variable {X : Cx}

end
end L2

set_option Elab.async false
set_option linter.all false
set_option maxRecDepth 100000
namespace L2
open PySem PySem.Spec PyProof.Rows

section
variable {P : Program} {w : World} {H H' : Hp} {h h' : Heap} {cs fs : List Addr}
end

section
variable {CX : CXT} {P : Program} {w : World} {K : PySem.W.Frag} {mg : Str → Option Value} {base : Heap} {N ps : List Str} {qual : Str} {scope : Scope} {f : Addr} {cd : Value} {cl : List (Str × Addr)} {A : Around} {outer : List Env} {s : Shared} {H : Hp} {E : XK} {us : List Value} {vs vals : List V}

end
end L2

set_option Elab.async false
set_option linter.all false
set_option maxRecDepth 100000
namespace L2
open PySem PySem.Spec PyProof.Rows

section
variable {X : Cx}
end
end L2

set_option Elab.async false
set_option linter.all false
set_option maxRecDepth 100000
namespace L2
open PySem PySem.Spec PyProof.Rows

section
variable {X : Cx}
end
end L2

set_option Elab.async false
set_option linter.all false
set_option maxRecDepth 100000
namespace L2
open PySem PySem.Spec PyProof.Rows

end L2

set_option Elab.async false
set_option linter.all false
set_option maxRecDepth 100000
namespace L2
open PySem PySem.Spec PyProof.Rows

section
variable {P : Program} {w : World} {K : PySem.W.Frag} {mg : Str → Option Value} {base : Heap}
end

end L2

set_option Elab.async false
set_option linter.all false
set_option maxRecDepth 100000
namespace L2
open PySem PySem.Spec PyProof.Rows

section
variable {X : Cx}
end
section
variable {P : Program} {w : World} {K : PySem.W.Frag} {mg : Str → Option Value} {base : Heap}

end
section
variable {X : Cx}

end
section
variable {me hd ba ye vo re ag : V}
end
end L2

set_option Elab.async false
set_option linter.all false
set_option maxRecDepth 100000
namespace L2
open PySem PySem.Spec PyProof.Rows

section
variable {X : Cx} {k : Nat} {m : Str} {pos apos : Pos} {e o : Expr} {es : List Expr} {ta : TE} {t : TA} {ix : List Nat} {cl : List (Str × Addr)}
end
section
variable {σ : St} {H : Hp} {Q : VK} {ix : List Nat} {cl : List (Str × Addr)}
end

section
variable {X : Cx} {pins : List (Addr × Obj)} {σ : St} {H : Hp} {s : Shared}
end
end L2

set_option Elab.async false
set_option linter.all false
set_option maxRecDepth 100000
namespace L2
open PySem PySem.Spec PyProof.Rows

section
variable {CX : CXT} {P : Program} {w : World} {K : PySem.W.Frag} {mg : Str → Option Value} {base : Heap} {N ps : List Str} {qual : Str} {scope : Scope} {f : Addr} {cd : Value} {cl : List (Str × Addr)} {A : Around} {outer : List Env} {s : Shared} {H : Hp} {E : XK} {us : List Value} {vs vals : List V}
end
section
variable {P : Program} {w : World} {K : PySem.W.Frag} {mg : Str → Option Value} {base : Heap}

end
section
variable {X : Cx} {K : PySem.W.Frag}
end
end L2

set_option Elab.async false
set_option linter.all false
set_option maxRecDepth 100000
namespace L2
open PySem PySem.Spec PyProof.Rows

def CXR (P : Program) (w : World) : CXT := fun outer H s E e s' => ∃ (ea C : Addr) (a0 : Value) (B : Heap) (H' : Hp), e = .ref ea ∧ s'.os = s.os ∧ AllBare s'.gens ∧ Un (frs outer) [] H H' s.heap s'.heap ∧ HOk P w H' s'.heap ∧
  Heap.FlyingW B outer ea (.ref C) a0 s'.heap ∧ (∀ b o, s'.heap.get? b = some o → b ∉ frs outer → ((∃ o0, s.heap.get? b = some o0) ∨ ∃ u, H' b = some u) → B.get? b = some o) ∧ H' ea = none ∧ E (.ref ea) (some C) H'
theorem ObjOk.at {P : Program} {w : World} {H : Hp} {h : Heap} {a : Addr} {o : HO} (x : ObjOk P w H h a o) : ∃ ob, h.get? a = some ob := by
  cases o with
  | lst xs => obtain ⟨_, _, _, _, e⟩ := x; exact ⟨_, e⟩
  | tup xs => obtain ⟨_, _, _, ob, e, _⟩ := x; exact ⟨_, e⟩
  | dK kvs => obtain ⟨_, _, _, _, o, _, _, e, _⟩ := x; exact ⟨_, e⟩
  | dT kvs => obtain ⟨_, _, _, _, o, _, _, e, _⟩ := x; exact ⟨_, e⟩
  | set S n => obtain ⟨o, _, _, _, e, _⟩ := x; exact ⟨_, e⟩
  | ins C dx fs => obtain ⟨_, _, _, e, _⟩ := x; exact ⟨_, e⟩
  | own _ => exact x
  | xd fs => obtain ⟨_, ⟨o, _, _, e, _⟩, _⟩ := x; exact ⟨_, e⟩
  | rng lo hi => obtain ⟨_, _, _, e⟩ := x; exact ⟨_, e⟩
  | frz o u => exact ⟨_, x.1⟩
  | tbl ps => exact ⟨_, x⟩
  | met f x' => exact ⟨_, x⟩
  | ext φ => exact x.2.1

theorem leave_up {P : Program} {w : World} {X : Cx} {pins : List (Addr × Obj)} {σ : St} {H1 H' : Hp} {s1 s' : Shared} {h' B : Heap} (I : Inv X pins σ H1 s1) (hex : X.ex = []) (hP : X.prog = P) (hw : X.w = w) (un : Un (frs X.stack) [] H1 H' s1.heap s'.heap) (hok : HOk P w H' s'.heap)
    (hB : ∀ b o, s'.heap.get? b = some o → b ∉ frs X.stack → ((∃ o0, s1.heap.get? b = some o0) ∨ ∃ u, H' b = some u) → B.get? b = some o) (st : B.StaysIn h') (up : s'.heap.UpToSlots h') (hstk : X.stack = X.env :: X.outer) :
    Un (frs X.outer) [] X.H₀ H' X.s₀.heap h' ∧ HOk P w H' h' ∧ ∀ b o, h'.get? b = some o → b ∉ frs X.outer → ((∃ o0, X.s₀.heap.get? b = some o0) ∨ ∃ u, H' b = some u) → B.get? b = some o := by
  have base := I.base
  rw [hex] at base
  have frN : ∀ b, b ∈ frs X.stack → H' b = none := fun b hb => by
    obtain ⟨_, o, ho, _⟩ := I.stack.mem hb
    exact un.free b o ho (I.stkFree b hb) (by simp)
  have frO : ∀ b, b ∈ frs X.outer → b ∈ frs X.stack := fun b hb => by
    rw [hstk]
    unfold frs
    rw [List.filterMap_cons]
    cases X.env.frame with
    | none => exact hb
    | some _ => exact List.mem_cons_of_mem _ hb
  have lo : ∀ b o, X.s₀.heap.get? b = some o → b ∉ frs X.outer → b ∉ frs X.stack := fun b o e n z => by
    rcases List.mem_cons.mp (I.stkSub b z) with q | q
    · rw [q] at e
      exact absurd (Heap.lt_size e) (Nat.not_lt.mpr I.ok.above)
    · exact n q
  have slot' : ∀ b o, s'.heap.get? b = some o → b ∈ frs X.stack → ∃ sl, h'.get? b = some { o with slots := sl } := fun b o e hb => by
    obtain ⟨_, o1, ho1, nf⟩ := I.stack.mem hb
    obtain ⟨sl, e1⟩ := un.slot b o1 ho1 (I.stkFree b hb) hb (by simp)
    rw [e] at e1
    cases e1
    exact up b _ e nf
  have keepR : ∀ b o, s'.heap.get? b = some o → b ∉ frs X.stack → ((∃ o0, s1.heap.get? b = some o0) ∨ ∃ u, H' b = some u) → h'.get? b = some o := fun b o e n r => st b o (hB b o e n r)
  have sz : ∀ b o, X.s₀.heap.get? b = some o → ∃ o0, s1.heap.get? b = some o0 := fun b o e => base.there b o e (by simp)
  refine ⟨⟨fun b o e n hf _ => ?_, fun b o e n hf _ => ?_, fun b o e n _ => ?_, fun b o e _ => ?_, fun b xs e => un.tups b xs (base.tups b xs e), fun b o u e => un.frzs b o u (base.frzs b o u e), fun b ps e => ?_⟩, fun a u e => ?_, fun b o e hf r => ?_⟩
  · have e1 := base.keep b o e n hf (by simp)
    have ns := lo b o e hf
    exact keepR b o (un.keep b o e1 (base.free b o e n (by simp)) ns (by simp)) ns (.inl (sz b o e))
  · obtain ⟨sl, e1⟩ := base.slot b o e n hf (by simp)
    obtain ⟨sl2, e2⟩ := un.slot b _ e1 (base.free b o e n (by simp)) (frO b hf) (by simp)
    obtain ⟨sl3, e3⟩ := slot' b _ e2 (frO b hf)
    exact ⟨sl3, e3⟩
  · obtain ⟨o1, e1⟩ := base.there b o e (by simp)
    exact un.free b o1 e1 (base.free b o e n (by simp)) (by simp)
  · obtain ⟨o1, e1⟩ := base.there b o e (by simp)
    obtain ⟨o2, e2⟩ := un.there b o1 e1 (by simp)
    by_cases hf : b ∈ frs X.stack
    · obtain ⟨sl, e3⟩ := slot' b o2 e2 hf
      exact ⟨_, e3⟩
    · exact ⟨o2, keepR b o2 e2 hf (.inl (sz b o e))⟩
  · obtain ⟨m1, e1⟩ := base.tbls b ps e
    obtain ⟨m2, e2⟩ := un.tbls b _ e1
    exact ⟨m1 ++ m2, by rw [e2, Array.append_assoc]⟩
  · refine (hok a u e).stay (fun b o hb q => ?_) (fun _ q => q) fun _ _ q => q
    have tr : ∃ v, H' b = some v := by
      rcases hb with z | z
      · exact ⟨u, z ▸ e⟩
      · exact ⟨_, z⟩
    refine keepR b o q (fun z => ?_) (.inr tr)
    obtain ⟨v, hv⟩ := tr
    rw [frN b z] at hv
    cases hv
  · have ex' : ∃ o', s'.heap.get? b = some o' := by
      rcases r with ⟨o0, e0⟩ | ⟨u, hu⟩
      · obtain ⟨o1, e1⟩ := base.there b o0 e0 (by simp)
        exact un.there b o1 e1 (by simp)
      · exact (hok b u hu).at
    obtain ⟨o', e'⟩ := ex'
    have ns : b ∉ frs X.stack := fun z => by
      rcases r with ⟨o0, e0⟩ | ⟨u, hu⟩
      · exact lo b o0 e0 hf z
      · rw [frN b z] at hu; cases hu
    have r' : (∃ o0, s1.heap.get? b = some o0) ∨ ∃ u, H' b = some u := r.imp (fun ⟨o0, e0⟩ => sz b o0 e0) id
    have eB := hB b o' e' ns r'
    rw [st b o' eB] at e
    cases e
    exact eB
section
variable {P : Program} {w : World} {K : PySem.W.Frag} {mg : Str → Option Value} {base : Heap} {N : List Str} {qual : Str} {scope : Scope} {f : Addr} {cd : Value} {A : Around} {outer : List Env} {s : Shared} {H : Hp} {E : XK}

def tRaise (C : Addr) (E : XK) (t : TA) : TS := fun _ σ H => t σ H fun vs H1 => vs.length ≤ sizeLine ∧ ∀ ea, H1 ea = none → E (.ref ea) (some C) H1

def XCls (K : PySem.W.Frag) (C N : Addr) (up : List Value) (newId : String) : Prop := ∃ nm qn bs hdct sn sub ab col dd k0 k1 k2 k3 k5, K.lookup C = some (excClassObj nm qn C N bs up hdct sn sub ab col dd k0 k1 k2 k3 k5 newId)
theorem XCls.mk {K : PySem.W.Frag} {C N : Addr} {up : List Value} {newId : String} {nm qn bs hdct sn sub ab col dd k0 k1 k2 k3 k5} (h : K.lookup C = some (excClassObj nm qn C N bs up hdct sn sub ab col dd k0 k1 k2 k3 k5 newId)) : XCls K C N up newId := ⟨_, _, _, _, _, _, _, _, _, _, _, _, _, _, h⟩

def XNew (K : PySem.W.Frag) (C : Addr) (bmB : List Value) (newId : String) : Prop := ∃ N up, XCls K C N up newId ∧ PySem.W.tailIn K bmB up = true ∧ PySem.W.nsOkIn K N = true ∧ PySem.W.nsIn K N "__init__" = some none

def XSub (K : PySem.W.Frag) (C D : Addr) : Prop := ∃ N up newId, XCls K C N up newId ∧ up.contains (.type "BaseException") = true ∧ (Value.ref C :: up).contains (.ref D) = true
theorem ps_raise {C : Addr} {Bn newId initId : String} {bmB : List Value} {x : Str} {np cpos pos : Pos} {e0 : Expr} {es : List Expr} {t : TA} (F : ExcBaseFacts Bn newId initId bmB) (hb : bmB.contains (.type "BaseException") = true) (hx : XNew K C bmB newId)
    (hg : Gl (cxOf (CXR P w) P w K mg base N qual scope f cd A outer s H E) x) (hm : mg x = some (.ref C)) (ha : PA (cxOf (CXR P w) P w K mg base N qual scope f cd A outer s H E) (e0 :: es) t)
    (hdb : (x == ("__debug__" : Str)) = false := by decide) (he : starEach (e0 :: es) (cxOf (CXR P w) P w K mg base N qual scope f cd A outer s H E).env = (false, eval e0 (cxOf (CXR P w) P w K mg base N qual scope f cd A outer s H E).env) :: starEach es (cxOf (CXR P w) P w K mg base N qual scope f cd A outer s H E).env := by rfl)
    (hpl : (backTo cpos (starEach es (cxOf (CXR P w) P w K mg base N qual scope f cd A outer s H E).env)).any (·.1) = false := by rfl) :
    PS (cxOf (CXR P w) P w K mg base N qual scope f cd A outer s H E) (.Raise (some (.Call (.Name x np) (e0 :: es) [] cpos)) none pos) (tRaise C E t) := by
  intro pins s1 σ H1 D I h
  obtain ⟨Nn, up, ⟨nm, qn, bs, hdct, sn, sub, ab, col, dd, k0, k1, k2, k3, k5, lk⟩, ht, hok, hno⟩ := hx
  have X := I.mod.kin
  have hC := X C _ lk
  have T := PySem.W.tail_of_in X ht
  have hN := Heap.Ns.of_isNs (PySem.W.isNs_of_in X hok)
  have hni := PySem.W.nsMap_none_of_in X hok hno
  refine wpAny_Raise_call_subT (C := C) (N := Nn) (nm := nm) (q := qn) (bs := bs) (bm := up) (hdct := hdct) (sn := sn) (sub := sub) (ab := ab) (col := col) (dd := dd) (k0 := k0) (k1 := k1) (k2 := k2) (k3 := k3) (k5 := k5) F (T.hasType hb) (I.ok.hd rfl) (by rw [he]; show (false || (backTo cpos (starEach es _)).any (·.1)) = false; rw [hpl]; rfl) hni (ld_glob I hg hm ⟨rfl, ?_⟩ hdb)
  rw [he]
  refine Calls.evalArgs_plain ?_
  have key := ha cpos pins s1 σ H1 _ I h
  rw [he] at key
  refine thn key fun us s2 ⟨vs, H2, I2, r, hl, q⟩ => ?_
  refine ⟨rfl, by rw [← r.length]; exact hl, I2.bk _ _ hC, hN.keeps I2.bk, T.keeps I2.bk, fun h' e hx => ?_⟩
  refine wpAny_leaves_madeW (base := PySem.W.hideAll s2.heap (frs (cxOf (CXR P w) P w K mg base N qual scope f cd A outer s H E).stack)) (h := s2.heap) I2.ok.frames rfl (fun b o q => PySem.W.of_hideAll _ q) (PySem.W.funFrames_hide I2.stack (fun env he a hf => List.mem_filterMap.mpr ⟨env, he, hf⟩)) hx fun h'' t fl tup tn upS => ?_
  have hB : ∀ b o, h'.get? b = some o → b ∉ frs (cxOf (CXR P w) P w K mg base N qual scope f cd A outer s H E).stack → ((∃ o0, s2.heap.get? b = some o0) ∨ ∃ u, H2 b = some u) → (PySem.W.hideAll s2.heap (frs (cxOf (CXR P w) P w K mg base N qual scope f cd A outer s H E).stack)).get? b = some o := fun b o e1 nb r1 => by
    obtain ⟨o0, e0⟩ : ∃ o0, s2.heap.get? b = some o0 := by
      rcases r1 with z | ⟨u, hu⟩
      · exact z
      · exact (I2.hok b u hu).at
    rw [hx.keeps b o0 e0] at e1
    cases e1
    exact PySem.W.hideAll_get _ e0 nb
  have hen : H2 e = none := by
    cases z : H2 e with
    | none => rfl
    | some u =>
      obtain ⟨ob, eo⟩ := (I2.hok e u z).at
      rw [hx.new] at eo
      cases eo
  obtain ⟨u1, u2, u3⟩ := leave_up (s' := { s2 with heap := h' }) I2 rfl rfl rfl (Un.kept hx.keeps) (I2.hok.kept hx.keeps) hB fl.1 upS rfl
  exact ⟨e, C, .ref t, _, H2, rfl, I2.os, I2.bare, u1, u2, fl, u3, hen, q e hen⟩
end
end L2

set_option Elab.async false
set_option linter.all false
set_option maxRecDepth 100000
namespace L2
open PySem PySem.Spec PyProof.Rows

def isX (ea C : Addr) : Heap → Prop := fun h => ∃ o, h.get? ea = some o ∧ o.cls = .ref C
abbrev xO (ea C : Addr) : HO := .ext (isX ea C)
section
variable {X : Cx} {pins : List (Addr × Obj)} {σ : St} {H H' : Hp} {s s' : Shared} {B h2 : Heap} {ea C : Addr} {a0 : Value}

theorem land_inv (I : Inv X pins σ H s) (os : s'.os = s.os) (gb : AllBare s'.gens) (un : Un (frs X.stack) [] H H' s.heap s'.heap) (hok : HOk X.prog X.w H' s'.heap) (fl : Heap.FlyingW B X.stack ea (.ref C) a0 s'.heap)
    (hB : ∀ b o, s'.heap.get? b = some o → b ∉ frs X.stack → ((∃ o0, s.heap.get? b = some o0) ∨ ∃ u, H' b = some u) → B.get? b = some o) (hn : H' ea = none) (fl2 : Heap.FlyingW B X.stack ea (.ref C) a0 h2) (up : s'.heap.UpToSlots h2) :
    Inv X pins σ (upd H' ea (xO ea C)) { s' with heap := h2 } := by
  have st := fl2.1
  have frN : ∀ b, b ∈ frs X.stack → H' b = none := fun b hb => by
    obtain ⟨_, o, ho, _⟩ := I.stack.mem hb
    exact un.free b o ho (I.stkFree b hb) (by simp)
  have slot' : ∀ b o, s'.heap.get? b = some o → b ∈ frs X.stack → (∀ vs, o.data ≠ .fields vs) ∧ ∃ sl, h2.get? b = some { o with slots := sl } := fun b o e hb => by
    obtain ⟨_, o1, ho1, nf⟩ := I.stack.mem hb
    obtain ⟨sl, e1⟩ := un.slot b o1 ho1 (I.stkFree b hb) hb (by simp)
    rw [e] at e1
    cases e1
    exact ⟨nf, up b _ e nf⟩
  have keepR : ∀ b o, s'.heap.get? b = some o → b ∉ frs X.stack → ((∃ o0, s.heap.get? b = some o0) ∨ ∃ u, H' b = some u) → h2.get? b = some o := fun b o e n r => st b o (hB b o e n r)
  have ne : ∀ b o, s.heap.get? b = some o → b ≠ ea := fun b o e z => by
    subst z
    obtain ⟨o1, e1⟩ := un.there b o e (by simp)
    obtain ⟨oe, vs, q1, _, q3, _⟩ := fl.first
    rw [e1] at q1
    cases q1
    by_cases hf : b ∈ frs X.stack
    · exact (slot' b _ e1 hf).1 _ q3
    · have := hB b _ e1 hf (.inl ⟨o, e⟩)
      rw [fl.2.1] at this
      cases this
  have neT : ∀ {b u}, H' b = some u → b ≠ ea := fun e z => by rw [z, hn] at e; cases e
  refine I.call' (s' := { s' with heap := h2 }) (ch := []) os ⟨fun b o e n hf _ => ?_, fun b o e n hf _ => ?_, fun b o e n _ => ?_, fun b o e _ => ?_, fun b xs e => ?_, fun b o u e => ?_, fun b ps e => ?_⟩ (fun a u e => ?_) gb (fun b z => absurd z (by simp))
  · exact keepR b o (un.keep b o e n hf (by simp)) hf (.inl ⟨o, e⟩)
  · obtain ⟨sl, e1⟩ := un.slot b o e n hf (by simp)
    obtain ⟨_, sl2, e2⟩ := slot' b _ e1 hf
    exact ⟨sl2, e2⟩
  · rw [upd_ne (ne b o e)]
    exact un.free b o e n (by simp)
  · obtain ⟨o1, e1⟩ := un.there b o e (by simp)
    by_cases hf : b ∈ frs X.stack
    · obtain ⟨_, sl, e2⟩ := slot' b o1 e1 hf
      exact ⟨_, e2⟩
    · exact ⟨o1, keepR b o1 e1 hf (.inl ⟨o, e⟩)⟩
  · have e1 := un.tups b xs e
    rw [upd_ne (neT e1)]; exact e1
  · have e1 := un.frzs b o u e
    rw [upd_ne (neT e1)]; exact e1
  · obtain ⟨m1, e1⟩ := un.tbls b ps e
    exact ⟨m1, by rw [upd_ne (neT e1)]; exact e1⟩
  · by_cases z : a = ea
    · subst z
      rw [upd_same] at e
      cases e
      obtain ⟨ob, q1, q2⟩ := fl2.there
      exact ⟨⟨ob, q1, q2⟩, ⟨ob, q1⟩, fun h3 h4 ⟨o, p1, p2⟩ k => ⟨o, k o p1, p2⟩⟩
    · rw [upd_ne z] at e
      refine (hok a u e).stay (fun b o hb q => ?_) (fun b q => by rw [upd_ne (neT q)]; exact q) fun b xs q => by rw [upd_ne (neT q)]; exact q
      have tr : ∃ v, H' b = some v := by
        rcases hb with w | w
        · exact ⟨u, w ▸ e⟩
        · exact ⟨_, w⟩
      refine keepR b o q (fun z => ?_) (.inr tr)
      obtain ⟨v, hv⟩ := tr
      rw [frN b z] at hv
      cases hv
end

abbrev Cx.hnd (X : Cx) (e : Value) : Cx := { X with A := X.A.mark (some e), calm := false, xe := fun _ _ => False }
theorem Inv.hnd {X : Cx} {pins : List (Addr × Obj)} {σ : St} {H : Hp} {s : Shared} (I : Inv X pins σ H s) (e : Value) : Inv (X.hnd e) pins σ H s :=
  ⟨⟨I.ok.mod, I.ok.kind, I.ok.glob, I.ok.blt, I.ok.above, I.ok.inj, I.ok.has, I.ok.cab, (fun z => nomatch z), I.ok.frames, I.ok.stk, I.ok.exf, I.ok.bs, I.ok.bsz, I.ok.noex, I.ok.exfs, I.ok.funs, I.ok.frf⟩, I.os, I.bare, I.base, I.loc, I.cell, I.free, I.freeC, I.pin, I.hok, I.len⟩
theorem Inv.unhnd {X : Cx} {pins : List (Addr × Obj)} {σ : St} {H : Hp} {s : Shared} {e : Value} (ok : X.Ok) (I : Inv (X.hnd e) pins σ H s) : Inv X pins σ H s :=
  ⟨ok, I.os, I.bare, I.base, I.loc, I.cell, I.free, I.freeC, I.pin, I.hok, I.len⟩
section
variable {X : Cx} {pins : List (Addr × Obj)} {σ : St} {H : Hp} {s : Shared}

theorem name_goes {M : Model} {A : Around} {E : Value → Shared → Prop} {i : Nat} {n : Str} {pos : Pos} {Q : Unit → Shared → Prop} (I : Inv X pins σ H s) (hN : X.N.Nodup) (hi : X.N[i]? = some n) (hl : X.env.scope.names.lookup n = some .local) (h : ∀ s', Inv X pins (σ.set i none) H s' → Q () s') :
    wpAny M A (do bindName X.env n .none; unbindBehindTheSuite X.env n pos) Q E s := by
  refine wpAny_bind (wpAny_bindName (store_ok (v := .non) I hN hi (.inl hl) rfl (fun s1 I1 => ?_) (.inr hl)))
  have il : i < σ.length := by rw [I.len]; exact (List.getElem?_eq_some_iff.mp hi).1
  obtain ⟨m, hn, lo⟩ := id I1.loc
  obtain ⟨u, _, hu⟩ := lo i n .non hi (List.getElem?_set_self il) (.inl hl)
  have hm : m n = some u := by
    rcases hu with ⟨_, z⟩ | ⟨k, _⟩
    · exact z
    · have k1 : X.env.kindOf n = some .local := hl
      rw [k1] at k
      rcases k with z | z <;> cases z
  refine wpAny_onRaise (wpAny_unbindName_local hl hn hm (by rw [I.ok.kind]; rfl) fun h' w hn' hs => ?_)
  obtain ⟨oL, _, _, hoL, _⟩ := id hn
  have cne := I1.cne
  have neL : ∀ b o, X.s₀.heap.get? b = some o → b ≠ X.env.locals := fun b o e => Nat.ne_of_lt (Nat.lt_of_lt_of_le (Heap.lt_size e) I.ok.above)
  refine h { s1 with heap := h' } ⟨I1.ok, I1.os, I1.bare, ⟨fun b o e n hb hx => (hs.2 b (neL b o e)).trans (I1.base.keep b o e n hb hx), fun b o e n hb hx => ?_, I1.base.free, fun b o e hx => ?_, I1.base.tups, I1.base.frzs, I1.base.tbls⟩, ⟨_, hn', fun j y v' e1 e2 e3 => ?_⟩, fun y c e => ?_, I1.free, I1.freeC, fun p hp => ?_, fun b ob e => ?_, by rw [List.length_set]; exact I.len⟩
  · obtain ⟨sl, e1⟩ := I1.base.slot b o e n hb hx
    exact ⟨sl, (hs.2 b (neL b o e)).trans e1⟩
  · obtain ⟨o', e1⟩ := I1.base.there b o e hx
    exact ⟨o', (hs.2 b (neL b o e)).trans e1⟩
  · by_cases hj : j = i
    · subst hj
      rw [List.getElem?_set_self il] at e2
      cases e2
    · rw [List.getElem?_set_ne (Ne.symm hj)] at e2
      have e2' : (σ.set i (some V.non))[j]? = some (some v') := by rw [List.getElem?_set_ne (Ne.symm hj)]; exact e2
      obtain ⟨u', r', q⟩ := lo j y v' e1 e2' e3
      refine ⟨u', r', ?_⟩
      rcases q with ⟨k, e⟩ | ⟨k, c, e, z⟩
      · refine .inl ⟨k, ?_⟩
        have : y ≠ n := fun e => hj (nodup_ix hN e1 (e ▸ hi))
        show (if y = n then w else m y) = some u'
        rw [if_neg this]
        exact e
      · exact .inr ⟨k, c, e, z.sameBut hs (cne y c e)⟩
  · obtain ⟨w', z⟩ := I1.cell y c e
    exact ⟨w', z.sameBut hs (cne y c e)⟩
  · obtain ⟨e, n, ne, nf, d⟩ := I1.pin p hp
    exact ⟨(hs.2 p.1 ne).trans e, n, ne, nf, d⟩
  · refine (I1.hok b ob e).stay (fun c w' hc q => (hs.2 c fun z => ?_).trans q) (fun _ q => q) fun _ _ q => q
    have fr := I1.free
    rcases hc with hc | hc
    · rw [← hc, z, fr] at e; cases e
    · rw [z, fr] at hc; cases hc
end
section
variable {M : Model} {A : Around} {E : Value → Shared → Prop}

theorem match_own {h : Heap} {g : Array GenState} {d : Drawn} {t : Nat} {os : OsState} {C D N N2 : Addr} {nm q nm2 q2 : Str} {bs bm bs2 bm2 : List Value} {hdct hdct2 : Bool} {sn sn2 : List Str} {sub sub2 : List Value} {ab ab2 : Bool} {col col2 : Option Bool} {dd dd2 : Option Addr} {k0 k1 k2 k3 k5 l0 l1 l2 l3 l5 : Option Value} {newId newId2 : String} {e : Addr} {oe : Obj} {b : Bool} {Q : Bool → Shared → Prop}
    (hC : h.get? C = some (excClassObj nm q C N bs bm hdct sn sub ab col dd k0 k1 k2 k3 k5 newId)) (hD : h.get? D = some (excClassObj nm2 q2 D N2 bs2 bm2 hdct2 sn2 sub2 ab2 col2 dd2 l0 l1 l2 l3 l5 newId2)) (he : h.get? e = some oe) (hcls : oe.cls = .ref C)
    (hbD : bm2.contains (.type "BaseException") = true) (hb : (Value.ref C :: bm).contains (.ref D) = b) (hq : Q b ⟨h, g, d, t, os⟩) : wpAny M A (excMatches (.ref e) (.ref D)) Q E ⟨h, g, d, t, os⟩ := by
  have cB : (Value.ref D :: bm2).contains (.type "BaseException") = true := by rw [List.contains_cons, hbD, Bool.or_true]
  have nt := tc_notTuple
  unfold excMatches
  repeat (first
    | (with_reducible refine wpAny_isSubtype_exc hD ?_; rw [cB])
    | (with_reducible refine wpAny_isSubtype_exc hC ?_; rw [hb])
    | (with_reducible refine wpAny_loadPart_at he ?_; rw [hcls])
    | with_reducible refine wpAny_loadPart_at hD ?_
    | wp_step)
  cases b <;> (wp_walk; exact hq)
end
end L2

set_option Elab.async false
set_option linter.all false
set_option maxRecDepth 100000
namespace L2
open PySem PySem.Spec PyProof.Rows

abbrev Cx.tr (X : Cx) (pins : List (Addr × Obj)) (EE : St → XK) : Cx := { X with pn := X.pn ++ pins, xe := fun e s' => ∃ σ H s, Inv X pins σ H s ∧ CXR X.prog X.w X.stack H s (EE σ) e s' }
section
variable {X : Cx} {pins pins' : List (Addr × Obj)} {σ : St} {H : Hp} {s s' : Shared} {EE : St → XK}
theorem Inv.tr (I : Inv X pins σ H s) (EE : St → XK) : Inv (X.tr pins EE) [] σ H s :=
  ⟨⟨I.ok.mod, I.ok.kind, I.ok.glob, I.ok.blt, I.ok.above, I.ok.inj, I.ok.has, I.ok.cab, I.ok.hd, I.ok.frames, I.ok.stk, I.ok.exf, I.ok.bs, I.ok.bsz, I.ok.noex, I.ok.exfs, I.ok.funs, I.ok.frf⟩, I.os, I.bare, I.base, I.loc, I.cell, I.free, I.freeC, by rw [List.append_nil]; exact I.pin, I.hok, I.len⟩
theorem Inv.untr (I : Inv (X.tr pins EE) pins' σ H s) : Inv X pins σ H s :=
  ⟨⟨I.ok.mod, I.ok.kind, I.ok.glob, I.ok.blt, I.ok.above, I.ok.inj, I.ok.has, I.ok.cab, I.ok.hd, I.ok.frames, I.ok.stk, I.ok.exf, I.ok.bs, I.ok.bsz, I.ok.noex, I.ok.exfs, I.ok.funs, I.ok.frf⟩, I.os, I.bare, I.base, I.loc, I.cell, I.free, I.freeC, fun p hp => I.pin p (List.mem_append_left _ hp), I.hok, I.len⟩
theorem SP.untr {D : Ends} {f : Flow} (h : SP (X.tr pins EE) pins' D f s') : SP X pins D f s' := by
  cases f with
  | next => obtain ⟨σ', H', I, q⟩ := h; exact ⟨σ', H', I.untr, q⟩
  | brk => obtain ⟨σ', H', I, q⟩ := h; exact ⟨σ', H', I.untr, q⟩
  | cont => obtain ⟨σ', H', I, q⟩ := h; exact ⟨σ', H', I.untr, q⟩
  | ret u => obtain ⟨v, σ', H', I, r, q⟩ := h; exact ⟨v, σ', H', I.untr, r, q⟩
end

def endX (i : Nat) (D : Ends) : Ends := { nx := fun σ H => D.nx (σ.set i none) H, rt := D.rt, bk := fun σ H => D.bk (σ.set i none) H, ct := fun σ H => D.ct (σ.set i none) H }

def tTryAs (K : PySem.W.Frag) (D : Addr) (i : Nat) (tb : (St → XK) → TS) (th : TS) : TS := fun Dn σ H =>
  tb (fun σ' ev c H' => ∃ ea C, ev = .ref ea ∧ c = some C ∧ XSub K C D ∧ th (endX i Dn) (σ'.set i (some (.ref ea))) (upd H' ea (xO ea C))) Dn σ H
theorem ps_tryAs {X : Cx} {K : PySem.W.Frag} {D L : Addr} {i : Nat} {n x : Str} {np hpos pos : Pos} {body : List Stmt} {b0 : Stmt} {suite : List Stmt} {tb : (St → XK) → TS} {th : TS} (hK : X.K = K) (hstk : X.stack = X.env :: X.outer) (hf : X.env.frame = some L)
    (hN : X.N.Nodup) (hi : X.N[i]? = some n) (hl : X.env.scope.names.lookup n = some .local) (hg : Gl X x) (hm : X.mg x = some (.ref D)) (hD : XSub K D D) (hb : ∀ pins EE, PSs (X.tr pins EE) body (tb EE)) (hs : ∀ ea, PSs (X.hnd (.ref ea)) (b0 :: suite) th) (hdb : (x == ("__debug__" : Str)) = false := by decide) :
    PS X (.Try body [.ExceptHandler (some (.Name x np)) (some n) (b0 :: suite) hpos] [] [] pos) (tTryAs K D i tb th) := by
  subst hK
  intro pins s σ H Dn I h
  refine wpAny_Try_except ?_
  refine wpAny_mono (hb pins _ [] s σ H Dn (I.tr _) h) (fun f s1 q => ?_) fun e s1 q => ?_
  · cases f with
    | next => exact wpAny_execs_nil q.untr
    | brk => exact q.untr
    | cont => exact q.untr
    | ret u => exact q.untr
  · obtain ⟨σ1, H1, s2, I2, ea, C, a0, B, H', rfl, os, gb, un, hok, fl, hB, hn, _, _, e1, e2, hmro, ht⟩ := q
    cases e1
    cases e2
    obtain ⟨hh, g, d, t, os'⟩ := s1
    have fl' := fl
    rw [hstk] at fl'
    have fr := I2.ok.frames
    rw [hstk] at fr
    refine wpAny_looks_onW fr hf fl' fun h1 held up1 => ?_
    refine wpAny_landsW held fun h2 fl2 up2 => ?_
    rw [← hstk] at fl2
    have up12 := up1.trans up2
    have J := land_inv I2 os gb un hok fl hB hn fl2 up12
    have Jh := J.hnd (.ref ea)
    refine wpAny_handleBy_cons (codeAny_handlers_test (ld_glob (X := X.hnd (.ref ea)) Jh hg hm ?_ hdb)) (by intro q; cases q)
    obtain ⟨_, _, _, ⟨_, _, _, _, _, _, _, _, _, _, _, _, _, _, lkC⟩, _, hcC⟩ := hmro
    obtain ⟨_, _, _, ⟨_, _, _, _, _, _, _, _, _, _, _, _, _, _, lkD⟩, hbD, _⟩ := hD
    obtain ⟨oe, hoe, hoc⟩ := fl2.there
    refine match_own (Jh.kIn _ _ lkC) (Jh.kIn _ _ lkD) hoe hoc hbD hcC ?_
    refine codeAny_handlers_suite_as ?_
    refine lands_againW fl2 fun h3 fl3 up3 => ?_
    have J3 := land_inv I2 os gb un hok fl hB hn fl3 (up12.trans up3)
    refine store_ok (X := X.hnd (.ref ea)) (v := .ref ea) (J3.hnd _) hN hi (.inl hl) rfl (fun s4 I4 => ?_) (.inr hl)
    refine wpAny_mono (hs ea pins s4 _ _ (endX i Dn) I4 ht) (fun f s5 q => ?_) fun _ _ z => z.elim
    cases f with
    | next => obtain ⟨σ', H', I5, q⟩ := q; exact name_goes (I5.unhnd J.ok) hN hi hl fun s6 I6 => ⟨_, _, I6, q⟩
    | brk => obtain ⟨σ', H', I5, q⟩ := q; exact name_goes (I5.unhnd J.ok) hN hi hl fun s6 I6 => ⟨_, _, I6, q⟩
    | cont => obtain ⟨σ', H', I5, q⟩ := q; exact name_goes (I5.unhnd J.ok) hN hi hl fun s6 I6 => ⟨_, _, I6, q⟩
    | ret u => obtain ⟨v, σ', H', I5, r, q⟩ := q; exact name_goes (I5.unhnd J.ok) hN hi hl fun s6 I6 => ⟨_, _, _, I6, r, q⟩
end L2

set_option Elab.async false
set_option linter.all false
set_option maxRecDepth 100000
namespace L2
open PySem PySem.Spec PyProof.Rows PySem.W

structure XcF (K : PySem.W.Frag) (C : Addr) : Prop where
  ga : PySem.W.findIn K (.ref C) "__getattribute__" = some (some (.builtin "BaseException.__getattribute__"))
  gn : PySem.W.findIn K (.ref C) "__getattr__" = some none
  ha : PySem.W.findIn K (.ref C) "__class__" = some (some (.builtin "object.__class__"))
  hn : PySem.W.specialIn K (.builtin "object.__class__") "__get__" = some (some (.builtin "getset_descriptor.__get__"))
  htk : PySem.W.takesIn K (.builtin "object.__class__") = some true
  hm : PySem.W.mroIn K C (.type "object") = some true
  hb : PySem.W.mroIn K C (.type "BaseException") = some true
  hd : PySem.W.hasDictIn K C = true
  hc : ∃ N up newId, XCls K C N up newId
section
variable {prog : Program} {w : World} {A : Around} {E : Value → Shared → Prop} {K : PySem.W.Frag} {x C : Addr}

def OfC (h : Heap) (x C : Addr) : Prop := ∃ o, h.get? x = some o ∧ o.cls = .ref C
theorem OfC.type {M : Model} {h : Heap} (I : OfC h x C) : Looks M h (typeOf (.ref x)) (.ref C) := by
  obtain ⟨o, e, c⟩ := I
  exact c ▸ (Looks.ld e).andThen .now
theorem xc_find {M : Model} {h : Heap} (F : XcF K C) (X : K.In h) : Looks M h (Builtin.ObjectAttr.find (.ref x) (.ref C) "__class__") (.bind (.builtin "getset_descriptor.__get__") (.builtin "object.__class__")) := by
  have L1 := looks_findIn (M := M) X F.ha
  have L2 : Looks M h (Builtin.ObjectAttr.getOf (some (.builtin "object.__class__"))) (some (.builtin "getset_descriptor.__get__")) := looks_specialIn X F.hn
  have L3 : Looks M h (Builtin.ObjectAttr.dataDescriptor? (some (.builtin "object.__class__")) (some (.builtin "getset_descriptor.__get__"))) (some (.builtin "getset_descriptor.__get__", .builtin "object.__class__")) := (looks_takesIn X F.htk).andThen .now
  exact L1.andThen (L2.andThen (L3.andThen (Looks.tag .now)))

theorem xc_get {R : Result → Shared → Prop} {s : Shared} (F : XcF K C) (X : K.In s.heap) (I : OfC s.heap x C) (hq : R (.ok (.ret (.ref C))) s) :
    codeAny (model prog w) A (.call (.builtin "getset_descriptor.__get__") ⟨[.builtin "object.__class__", .ref x, .ref C], []⟩) R s := by
  obtain ⟨h, g, d, t, os⟩ := s
  have LT := I.type (M := model prog w)
  have LI : Looks (model prog w) h (isInstance (.ref x) (.type "object")) true := LT.andThen (looks_mroIn X F.hm)
  apply codeAny_call_builtin KF.slot_gs.plain KF.entry_gs
  refine KF.slot_gs.check _ _ _ _ (.builtin "object.__class__") [.ref x, .ref C] [] _ KF.type_class (KF.args_gs _ _ _) ?_
  have ea : Builtin.Getset_descriptor.descrGetArgs ⟨[.builtin "object.__class__", .ref x, .ref C], []⟩ = pure (.builtin "object.__class__", some (.ref x), some (.ref C)) := by kernel_rfl
  show wpAny _ _ (Builtin.Getset_descriptor.descrGetArgs _ >>= _) _ _ _
  refine wpAny_bind (wpAny_of_eq ea ?_)
  show wpAny _ _ (Builtin.Getset_descriptor.descrCheckInstance (.builtin "object.__class__") (.ref x) >>= _) _ _ _
  have en : Builtin.Getset_descriptor.descrNameAndClass (.builtin "object.__class__") = pure ((("__class__" : Str), Value.type "object") : Str × Value) := by kernel_rfl
  refine wpAny_bind (wpAny_bind (wpAny_of_eq en (wpAny_bind (LI.at ?_))))
  dsimp only
  rw [if_neg (by decide)]
  refine wpAny_pure (wpAny_pure ⟨Code.quiet_builtin _ (by decide +kernel), codeAny_builtin KF.entry_class ?_⟩)
  show wpAny _ _ (shownTypeOf (.ref x) >>= _) _ _ _
  refine wpAny_bind (wpAny_bind (LT.at ?_))
  dsimp only
  rw [if_neg (show ¬ (Value.ref C == Value.type "builtin_function_or_method") = true from Bool.false_ne_true)]
  exact wpAny_pure (wpAny_pure hq)

theorem xc_call {tk : Tok} {R : Result → Shared → Prop} {s : Shared} (F : XcF K C) (X : K.In s.heap) (I : OfC s.heap x C) (hq : R (.ok (.ret (.ref C))) s) :
    codeAny (model prog w) A (.call (.builtin "BaseException.__getattribute__") ⟨[.ref x, .str "__class__" tk], []⟩) R s := by
  obtain ⟨h, g, d, t, os⟩ := s
  have LT := I.type (M := model prog w)
  have LB := looks_mroIn (M := model prog w) X F.hb
  have LF := xc_find (M := model prog w) (x := x) F X
  refine codeAny_call_builtin PySem.F.attr_ValueError.ga.plain PySem.F.entry_bexc_ga ?_
  show wpAny _ _ (checkBuiltinCall "BaseException.__getattribute__" ⟨[.ref x, .str "__class__" tk], []⟩) _ _ _
  have key : builtinKind "BaseException.__getattribute__" = some .slot ∧ splitId "BaseException.__getattribute__" = some ("BaseException", "__getattribute__") := by decide +kernel
  rw [checkBuiltinCall.eq_def, key.1, key.2]
  refine wpAny_bind ((LT.andThen LB).at ?_)
  rw [if_neg (show ¬ (!true) = true from Bool.false_ne_true)]
  refine wpAny_of_eq (PySem.F.args_bexc_ga (.ref x) (.str "__class__" tk)) ?_
  unfold Builtin.«object.__getattribute__»
  refine wpAny_bind (wpAny_pure ?_)
  refine wpAny_bind (wpAny_pure ?_)
  refine wpAny_bind (LT.at ?_)
  refine wpAny_bind (LF.at ?_)
  show wpAny _ _ (holding [Value.builtin "object.__class__"] (call (.builtin "getset_descriptor.__get__") [.builtin "object.__class__", .ref x, .ref C]) >>= _) _ _ _
  refine wpAny_bind (wpAny_holding (wpAny_call (xc_get F X I ?_)))
  exact wpAny_pure hq

theorem xc_class {Q : Option Value → Shared → Prop} {s : Shared} (F : XcF K C) (X : K.In s.heap) (I : OfC s.heap x C) (hq : Q (some (.ref C)) { s with toks := s.toks + 1 }) : wpAny (model prog w) A (getAttr? (.ref x) "__class__") Q E s := by
  obtain ⟨h, g, d, t, os⟩ := s
  have LT := I.type (M := model prog w)
  have L1 := looks_findIn (M := model prog w) X F.ga
  have L2 := looks_findIn (M := model prog w) X F.gn
  unfold getAttr?
  refine wpAny_bind (wpAny_mkText ?_)
  unfold getAttrBy? getAttrBy
  refine wpAny_bind (wpAny_attempt (wpAny_holding ?_))
  refine wpAny_bind (LT.at ?_)
  refine wpAny_bind (L1.at ?_)
  have own : ∀ b : Bool, ¬ (b && (Value.builtin "BaseException.__getattribute__" == Value.builtin "object.__getattribute__")) = true := by decide +kernel
  dsimp only
  rw [if_neg (own _)]
  unfold getAttrByItsOwn hookBefore
  rw [if_pos (show onTheHeap (Value.ref C) = true from rfl)]
  refine wpAny_bind (L2.at (wpAny_bind (wpAny_attempt (wpAny_holding ?_))))
  unfold callGetattribute boundAndCalled
  rw [if_neg (show ¬ (false && onTheHeap (Value.builtin "BaseException.__getattribute__")) = true by decide)]
  refine wpAny_bind (wpAny_of_eq (PySem.F.attr_ValueError.ga.bind _) ?_)
  refine wpAny_call (xc_call (s := ⟨h, g, d, t + 1, os⟩) F X I ?_)
  show wpAny _ _ (handedOut (.ref C)) _ _ _
  exact handed_on rfl (wpAny_pure hq)
theorem kitx_exc (F : XcF K C) : PySem.W.KitX K (.ref x) (.ref C) (fun h => OfC h x C) where
  ty := fun _ _ _ I => I.type
  it := fun _ h X _ A' Q' E' s' k q => mc_isType (s := s') (fun b o e => k b o (X b o e)) F.hd A' Q' E' s' (fun _ _ e => e) q
  ne := fun h tp dd its n sl X htp => Bool.eq_false_iff.mpr fun z => by
    obtain ⟨_, _, _, _, _, _, _, _, _, _, _, _, _, _, _, _, _, lk⟩ := F.hc
    cases Value.ref.inj (eq_of_beq z)
    have e : Value.type "tuple" = Value.type "type" := congrArg Obj.cls (Option.some.inj (htp.symm.trans (X _ _ lk)))
    exact absurd (Value.type.inj e) (by decide)
  ca := fun X I q => xc_class F X I q
end

def rIsX (K : PySem.W.Frag) : List V → Hp → VK → Prop := fun xs H Q => ∃ (ea C : Addr) (c : V) (cv : Value) (b : Bool), xs = [.ref ea, c] ∧ (∀ u, RelV c u → u = cv) ∧ H ea = some (xO ea C) ∧ XcF K C ∧ PySem.W.kitOne K (.ref C) cv = some b ∧ Q (.bl b) H
theorem call_isX {X : Cx} {K : PySem.W.Frag} (hK : X.K = K) : CallR X (.builtin "isinstance") (rIsX K) := by
  subst hK
  intro pins s σ H xs us Q I r h
  obtain ⟨ea, C, c, cv, b, rfl, hc, he, F, e, q⟩ := h
  obtain ⟨u, v, rfl, r1, r2⟩ := vals2 r
  cases r1
  obtain rfl := hc v r2
  have ox : OfC s.heap ea C := (I.hok ea _ he).1
  exact PySem.W.kia_one (kitx_exc F) I.kIn ox e (fun z => nomatch z) fun tk => ⟨.bl b, H, I.tok tk, rfl, q⟩
end L2

set_option Elab.async false
set_option linter.all false
set_option maxRecDepth 100000
namespace L2
open PySem PySem.Spec PyProof.Rows
section
variable {P : Program} {w : World} {K : PySem.W.Frag} {mg : Str → Option Value} {base : Heap}

theorem Fun.okX {x qual : Str} {st : Stmt} {f : Addr} {fd : FuncData} {N ps : List Str} {k : Nat} {sp : Sp} (F : Fun K x qual st f fd) (S : FnScope N ps (defScope st)) (len : ∀ vs H Q E, sp vs H Q E → vs.length = ps.length)
    (hbody : ∀ (cdv : Value) (A : Around) (outer : List Env) (s : Shared) (H : Hp) (vs : List V) (Q : VK) (E : XK), Room k (A.deeper (envOfC qual (defScope st) s.heap.objs.size f cdv)) → sp vs H Q E →
      ∃ t, PSs (cxOf (CXR P w) P w K mg base N qual (defScope st) f cdv A outer s H E) (defBody st) t ∧ t { nx := fun _ H' => Q .non H', rt := Q } (start N vs) H) : FnOk P w K mg base (CXR P w) (k + 1) f fd ps sp := by
  obtain ⟨oc, od, kV, doc, pm, an, cdv, ct, osl, rfl, lk, hcd⟩ := F.ex
  exact fn_of lk hcd S len fun A outer s H vs Q E hr hsp => hbody cdv A outer s H vs Q E hr hsp
end

theorem passX0 {X : Cx} {P : Program} {w : World} : Passes (CXR P w) X E0 := fun _ _ _ _ _ _ _ h => by
  obtain ⟨_, _, _, _, _, _, _, _, _, _, _, _, _, q⟩ := h
  exact q.elim
section
variable {X : Cx} {k : Nat} {f : Addr} {fd : FuncData} {ps : List Str} {sp : Sp} {x : Str} {e : Expr} {es : List Expr} {t : TA} {p pos : Pos}
theorem pcall0 (F : FnOk X.prog X.w X.K X.mg X.base (CXR X.prog X.w) k f fd ps sp) (c : Cal X.K X.mg x f fd ps) (hr : Room k X.A) (ha : PA X (e :: es) t)
    (hg : Gl X x := by rfl) (hdb : (x == ("__debug__" : Str)) = false := by decide) (he : starEach (e :: es) X.env = (false, eval e X.env) :: starEach es X.env := by rfl) (hpl : (backTo pos (starEach es X.env)).any (·.1) = false := by rfl) :
    PE X (.Call (.Name x p) (e :: es) [] pos) (tCall sp [] E0 t) := pe_call F hr hg c.mg c.kp c.bd .nil passX0 ha hdb he hpl

def tCallX (sp : Sp) (EE : St → XK) (t : TA) : TE := fun σ H Q => t σ H fun vs H1 => sp vs H1 Q (EE σ)
theorem pcallX {pins : List (Addr × Obj)} {EE : St → XK} (F : FnOk X.prog X.w X.K X.mg X.base (CXR X.prog X.w) k f fd ps sp) (c : Cal X.K X.mg x f fd ps) (hr : Room k X.A) (ha : PA (X.tr pins EE) (e :: es) t)
    (hg : Gl X x := by rfl) (hdb : (x == ("__debug__" : Str)) = false := by decide) (he : starEach (e :: es) X.env = (false, eval e X.env) :: starEach es X.env := by rfl) (hpl : (backTo pos (starEach es X.env)).any (·.1) = false := by rfl) :
    PE (X.tr pins EE) (.Call (.Name x p) (e :: es) [] pos) (tCallX sp EE t) := by
  intro pins' s σ H Q I h
  refine wpAny_Call_Name_kw (ld_glob I hg c.mg ?_ hdb)
  refine PySem.W.callWith_K (h₀ := X.base) I.ok.mod.kin c.kp (thn (ha pos pins' s σ H _ I h) fun us s1 ⟨vs, H1, I1, r, q⟩ => ⟨I1.kIn, ?_⟩) he hpl
  have hl : us.length = ps.length := by rw [← r.length]; exact F.len _ _ _ _ q
  have hb := c.bd s1 us I1.kIn (by rw [List.append_nil]; exact hl)
  rw [List.append_nil] at hb
  refine wpAny_call (codeAny_mono (F.run X.A X.stack s1 H1 ⟨us, []⟩ us vs Q (EE σ) hr I1.env0 hb r q) fun rs s' hq => ?_)
  cases rs with
  | error e => exact ⟨σ, H1, s1, I1.untr, hq⟩
  | ok fl =>
    cases fl with
    | ret u => exact I1.after hq
    | next => exact False.elim hq
    | brk => exact False.elim hq
    | cont => exact False.elim hq
end
section
variable {D : Ends} {σ : St} {H : Hp} {Q : VK}
theorem x_callX {sp : Sp} {EE : St → XK} {t : TA} (h : t σ H fun vs H1 => sp vs H1 Q (EE σ)) : tCallX sp EE t σ H Q := h
theorem x_tryAs {K : PySem.W.Frag} {Dc : Addr} {i : Nat} {tb : (St → XK) → TS} {th : TS} (h : tb (fun σ' ev c H' => ∃ ea C, ev = .ref ea ∧ c = some C ∧ XSub K C Dc ∧ th (endX i D) (σ'.set i (some (.ref ea))) (upd H' ea (xO ea C))) D σ H) : tTryAs K Dc i tb th D σ H := h
theorem x_raise {C : Addr} {E : XK} {t : TA} (h : t σ H fun vs H1 => vs.length ≤ sizeLine ∧ ∀ ea, H1 ea = none → E (.ref ea) (some C) H1) : tRaise C E t D σ H := h
end
end L2

set_option Elab.async false
set_option linter.all false
set_option maxRecDepth 100000
namespace L2
open PySem PySem.Spec PyProof.Rows

def Its (lo st : Int) (n : Nat) : It := ⟨fun i _ => i < n, fun i H x H' => H' = H ∧ x = .int (lo + i * st), fun i _ => n ≤ i⟩
theorem turn_rangeS {P : Program} {w : World} {K : PySem.W.Frag} {tg : Expr} (it : Addr) (lo st : Int) (n : Nat) : Turn P w K tg (Its lo st n) [it] it (fun i h => IsRangeIter h it (lo + (i : Nat) * st) ((n : Int) - (i : Nat)) st) where
  mem := List.mem_singleton_self it
  obj := fun i h hs b hb => by
    cases List.mem_singleton.mp hb
    refine ⟨_, hs, fun v z => ?_⟩
    have z' : Data.fields _ = Data.cell v := z
    cases z'
  keep := fun i h h' hs k => k it (List.mem_singleton_self it) _ hs
  item := by
    intro X hP hw hK hc i pins s σ H E I hf hs hg
    subst hP hw hK
    obtain ⟨f0, f1, f2, f3, f4, f5⟩ := hf it (List.mem_singleton_self it)
    refine (Walks.range (prog := X.prog) (w := X.w) (I.ok.hd hc) it lo st n).item i s _ _ hg hs fun v h' tk hv hs' kk => ?_
    obtain ⟨t, rfl⟩ := hv
    have J : Inv X pins σ H { s with heap := h', toks := tk } := I.turned (fun b o hb e => kk b o (by simpa using hb) e) f0 f1 f3 f4 f5
    exact ⟨_, rfl, go_of (s := { s with heap := h', toks := tk }) (n := "range_iterator") hs' rfl rfl (by decide) ⟨.int (lo + i * st), H, J, ⟨t, rfl⟩, ⟨rfl, rfl⟩, hs', fun b hb => (hf b hb).1⟩⟩
  done := by
    intro X hP hw hK hc i pins s σ H E I hf hs hg
    subst hP hw hK
    obtain ⟨f0, f1, f2, f3, f4, f5⟩ := hf it (List.mem_singleton_self it)
    have hg : n ≤ i := hg
    exact wpAny_pyNext_range_end (I.ok.hd hc) hs (by omega) fun h' eb => ⟨rfl, I.turned (t' := s.toks) (fun b o hb e => eb b o hb e) f0 f1 f3 f4 f5⟩
  self := fun _ _ _ _ _ hs h => wpAny_pyIter_rangeiter hs h
theorem size_nn (a b c : Int) (hc : 0 < c) : 0 ≤ Builtin.Range.rangeSize a b c := by
  unfold Builtin.Range.rangeSize
  rw [if_pos hc]
  split
  · have := Int.ediv_nonneg (show 0 ≤ b - a - 1 by omega) (Int.le_of_lt hc)
    omega
  · exact Int.le_refl _
section
variable {X : Cx} {tg : Expr}
def iRng3 (ta : TA) : TI := fun σ H R => ta σ H fun vs H1 => ∃ i j c : Int, vs = [.int i, .int j, .int c] ∧ 0 < c ∧ c < 1000 ∧ Builtin.Range.small i j c = true ∧ R (Its i c (Builtin.Range.rangeSize i j c).toNat) H1
theorem pi_range3 {a b c : Expr} {ta : TA} {p pos : Pos} (hg : Gl X "range") (hm : X.mg "range" = none) (ha : PA X [a, b, c] ta) (hs : starEach [a, b, c] X.env = [(false, eval a X.env), (false, eval b X.env), (false, eval c X.env)] := by rfl) (hs2 : starEach [b, c] X.env = [(false, eval b X.env), (false, eval c X.env)] := by rfl) :
    PI X tg (.Call (.Name "range" p) [a, b, c] [] pos) (iRng3 ta) := by
  intro pins s σ H R I h
  refine Call_ (ld_blt I hg hm boot_range (PyProof.Rows.callWith_type1 (thn (ha pos pins s σ H _ I h) fun us s1 ⟨vs, H1, I1, r1, q1⟩ => ?_) (by rw [hs, hs2]) (by rw [hs2]; rfl)))
  obtain ⟨i, j, k, e, k0, k1, sm, q⟩ := q1
  subst e
  cases r1 with
  | cons r rr =>
    cases rr with
    | cons r' rr =>
      cases rr with
      | cons r'' rr =>
        cases rr
        obtain ⟨t, rfl⟩ := r
        obtain ⟨t', rfl⟩ := r'
        obtain ⟨t'', rfl⟩ := r''
        refine call_range_3 (by omega) ?_ (.inl (PyProof.noPylong_small (by omega)))
        have J : Inv X pins σ H1 { s1 with heap := s1.heap.push { cls := .type "range", data := .fields #[.int i t, .int j t', .int k t''] }, toks := s1.toks } := I1.kept fun b o e => Heap.get?_push_of_some _ e
        refine wpAny_pyIter_range (IsRange.new ..) sm ?_
        refine ⟨_, [_], _, _, H1, rfl, J.kept (t' := s1.toks) fun b o e => Heap.get?_push_of_some _ e, turn_rangeS _ i k (Builtin.Range.rangeSize i j k).toNat, ?_, fun b hb => ?_, q⟩
        · have e1 : i + ((0 : Nat) : Int) * k = i := by simp
          have e2 : (((Builtin.Range.rangeSize i j k).toNat : Nat) : Int) - ((0 : Nat) : Int) = Builtin.Range.rangeSize i j k := by
            have := size_nn i j k k0
            omega
          show IsRangeIter _ _ (i + ((0 : Nat) : Int) * k) ((((Builtin.Range.rangeSize i j k).toNat : Nat) : Int) - ((0 : Nat) : Int)) k
          rw [e1, e2]
          exact Heap.get?_push_size _ rfl
        · cases List.mem_singleton.mp hb
          exact J.fpOk (Nat.le_refl _) (J.hok.fresh (Nat.le_refl _))
end
theorem for_step {lo st : Int} {n : Nat} {g : TG} {tb : TS} {D : Ends} {σ : St} {H : Hp} (Pv : Nat → St → Hp → Prop) (h0 : Pv 0 σ H)
    (hs : ∀ i σ H, i < n → Pv i σ H → g (.int (lo + i * st)) σ H fun σ2 H2 => tb { D with nx := Pv (i + 1), ct := Pv (i + 1), bk := D.nx } σ2 H2) (hd : ∀ σ H, Pv n σ H → D.nx σ H) :
    ∃ W : Nat → Nat → St → Hp → Prop, (∃ m, W 0 m σ H) ∧ ∀ i m σ H, W i m σ H → ((Its lo st n).stop i H ∧ D.nx σ H) ∨ ((Its lo st n).go i H ∧ ∃ N : St → Hp → Prop, (∀ σ' H', N σ' H' → ∃ m', m' < m ∧ W (i + 1) m' σ' H') ∧ ∀ x H', (Its lo st n).yld i H x H' → g x σ H' fun σ2 H2 => tb { D with nx := N, ct := N, bk := D.nx } σ2 H2) := by
  refine ⟨fun i m σ H => m = n - i ∧ i ≤ n ∧ Pv i σ H, ⟨n, rfl, Nat.zero_le _, h0⟩, fun i m σ H hW => ?_⟩
  obtain ⟨rfl, hi, p⟩ := hW
  rcases Nat.lt_or_ge i n with z | z
  · refine .inr ⟨z, Pv (i + 1), fun σ' H' p' => ⟨n - (i + 1), by omega, rfl, z, p'⟩, fun x H' y => ?_⟩
    obtain ⟨rfl, rfl⟩ := y
    exact hs i σ H' z p
  · have : i = n := by omega
    subst this
    exact .inl ⟨z, hd σ H p⟩
end L2

local macro_rules | `(tactic| sizeOf_list_dec) => `(tactic| first | assumption | decide | exact ⟨by decide, by decide⟩ | exact ⟨by decide, by decide, by decide⟩ | exact Nat.le_of_ble_eq_true rfl | exact L2.small1000 (by omega) | exact L2.pow18p | exact L2.pow60p | omega | fail)
local macro_rules | `(tactic| decreasing_trivial_pre_omega) => `(tactic| first | assumption | (apply L2.SqL.of; assumption) | (apply L2.SqT.of; assumption) | (refine Or.inl ?_; assumption) | (refine Or.inl ?_; apply L2.SqL.of; assumption) | (refine Or.inr ?_; apply L2.SqT.of; assumption))
local macro_rules | `(tactic| bv_omega) => `(tactic| first | assumption | exact L2.atI_nat (j := 0) rfl | exact L2.atI_nat (j := 1) rfl | exact L2.atI_nat (j := 2) rfl | exact L2.atI_nat (j := 3) rfl | exact L2.atI_nat (j := 4) rfl | exact L2.atI_nat (j := 5) rfl)
local macro_rules | `(tactic| array_get_dec) => `(tactic| array_mem_dec)
local macro_rules | `(tactic| array_get_dec) => `(tactic| with_reducible first
  | refine L2.x_seqA ?_ | refine L2.x_seqD ?_ | refine L2.x_seqP ?_ | refine L2.x_seqF ?_ | refine L2.x_seqW ?_ | refine L2.x_seqM ?_ | refine L2.x_seqG ?_ | refine L2.x_asg ?_ | refine L2.x_op ?_ | refine L2.x_c ?_ | refine L2.x_ret ?_ | refine L2.x_ifs ?_ | refine L2.x_name ?_
  | refine L2.x_cons ?_ | refine L2.x_nil ?_ | refine L2.x_call ?_ | refine L2.x_cb ?_ | refine L2.x_I0 ?_ | refine L2.x_test ?_ | refine L2.x_tru ?_ | refine L2.x_b ?_ | refine L2.x_exbl ?_ | refine L2.x_extru ?_
  | refine L2.x_and ?_ | refine L2.x_or ?_ | refine L2.x_not ?_ | refine L2.x_andV ?_ | refine L2.x_orV ?_ | refine L2.x_notV ?_ | refine L2.x_ife ?_
  | refine L2.x_next ?_ | refine L2.x_drop ?_ | refine L2.x_un ?_ | refine L2.x_U ?_ | refine L2.x_eqI ?_ | refine L2.x_neI ?_ | refine L2.x_eqS ?_ | refine L2.x_neS ?_ | refine L2.x_eqB ?_ | refine L2.x_neB ?_
  | refine L2.x_tup ?_ | refine L2.x_lst ?_ | refine L2.x_dnew ?_ | refine L2.x_sl ?_ | refine L2.x_nopart ?_ | refine L2.x_part ?_ | refine L2.x_exint ?_
  | refine L2.x_dget ?_ | refine L2.x_dget2 ?_ | refine L2.x_din ?_ | refine L2.x_dnotin ?_ | refine L2.x_dput ?_ | refine L2.x_for ?_ | refine L2.x_ilist ?_ | refine L2.x_itup ?_ | refine L2.x_ir1 ?_ | refine L2.x_bm ?_ | refine L2.x_bm0 ?_ | refine L2.x_comp ?_
  | refine L2.x_gcons ?_ | refine L2.x_gnil ?_ | refine L2.x_retN ?_ | refine L2.x_brk ?_ | refine L2.x_cont ?_ | refine L2.iteT ?_ | refine L2.iteF ?_ | refine L2.iteNT ?_ | refine L2.iteNF ?_)
local macro_rules | `(tactic| array_mem_dec) => `(tactic| ((with_reducible apply L2.x_gtup); (focus decreasing_trivial_pre_omega); (focus rfl)))
local macro_rules | `(tactic| array_mem_dec) => `(tactic| ((with_reducible apply L2.x_var); (focus exact rfl)))
local macro_rules | `(tactic| array_mem_dec) => `(tactic| ((with_reducible apply L2.x_I); (focus sizeOf_list_dec)))
local macro_rules | `(tactic| array_mem_dec) => `(tactic| ((with_reducible apply L2.x_ixT); (focus decreasing_trivial_pre_omega); (focus bv_omega)))
local macro_rules | `(tactic| array_mem_dec) => `(tactic| ((with_reducible apply L2.x_ixL); (focus decreasing_trivial_pre_omega); (focus bv_omega)))
local macro_rules | `(tactic| array_mem_dec) => `(tactic| ((with_reducible apply L2.x_slL); (focus decreasing_trivial_pre_omega)))
local macro_rules | `(tactic| array_mem_dec) => `(tactic| ((with_reducible apply L2.x_exisd); (focus decreasing_trivial_pre_omega)))
local macro_rules | `(tactic| array_mem_dec) => `(tactic| ((with_reducible apply L2.x_exil); (focus decreasing_trivial_pre_omega)))
local macro_rules | `(tactic| array_mem_dec) => `(tactic| ((with_reducible apply L2.x_exit); (focus decreasing_trivial_pre_omega)))
local macro_rules | `(tactic| array_mem_dec) => `(tactic| ((with_reducible apply L2.x_exdo); (focus decreasing_trivial_pre_omega); (first | rw [L2.getDmap] | rw [L2.isSomemap] | skip)))
local macro_rules | `(tactic| array_mem_dec) => `(tactic| ((with_reducible apply L2.x_exdin); (focus decreasing_trivial_pre_omega); (first | rw [L2.getDmap] | rw [L2.isSomemap] | skip)))
local macro_rules | `(tactic| array_mem_dec) => `(tactic| ((with_reducible apply L2.x_exdg); (focus decreasing_trivial_pre_omega); (focus decreasing_trivial_pre_omega)))
local macro_rules | `(tactic| array_mem_dec) => `(tactic| ((with_reducible apply L2.x_tyl); (focus decreasing_trivial_pre_omega)))
local macro_rules | `(tactic| array_mem_dec) => `(tactic| ((with_reducible apply L2.x_lenL); (focus decreasing_trivial_pre_omega)))
local macro_rules | `(tactic| array_mem_dec) => `(tactic| ((with_reducible apply L2.x_lenT); (focus decreasing_trivial_pre_omega)))
local macro_rules | `(tactic| array_mem_dec) => `(tactic| ((with_reducible apply L2.x_lenD); (focus decreasing_trivial_pre_omega)))
local macro_rules | `(tactic| array_mem_dec) => `(tactic| ((with_reducible apply L2.x_nwT); (focus sizeOf_list_dec)))
local macro_rules | `(tactic| array_mem_dec) => `(tactic| ((with_reducible apply L2.x_nwL); (focus sizeOf_list_dec)))
local macro_rules | `(tactic| array_mem_dec) => `(tactic| ((with_reducible apply L2.x_append); (focus assumption); (focus sizeOf_list_dec)))
local macro_rules | `(tactic| array_mem_dec) => `(tactic| ((with_reducible apply L2.x_exdput); (focus assumption); (focus assumption); (focus sizeOf_list_dec)))
local macro_rules | `(tactic| clean_wf) => `(tactic| repeat' (first | array_get_dec | fail))
local macro_rules | `(tactic| array_mem_dec) => `(tactic| ((with_reducible apply L2.x_rlenL); (focus decreasing_trivial_pre_omega)))
local macro_rules | `(tactic| array_mem_dec) => `(tactic| ((with_reducible apply L2.x_rlenT); (focus decreasing_trivial_pre_omega)))
local macro_rules | `(tactic| array_mem_dec) => `(tactic| ((with_reducible apply L2.x_rlistL); (focus decreasing_trivial_pre_omega)))
local macro_rules | `(tactic| array_mem_dec) => `(tactic| ((with_reducible apply L2.x_rlistT); (focus decreasing_trivial_pre_omega)))
local macro_rules | `(tactic| array_mem_dec) => `(tactic| ((with_reducible apply L2.x_rtupL); (focus decreasing_trivial_pre_omega)))
local macro_rules | `(tactic| array_mem_dec) => `(tactic| ((with_reducible apply L2.x_rdict); (focus decreasing_trivial_pre_omega)))
local macro_rules | `(tactic| array_mem_dec) => `(tactic| (with_reducible refine L2.x_nonand ?_))
local macro_rules | `(tactic| array_mem_dec) => `(tactic| ((with_reducible apply L2.x_rlenQ); (focus decreasing_trivial_pre_omega)))
local macro_rules | `(tactic| array_mem_dec) => `(tactic| ((with_reducible apply L2.x_ixQ); (focus decreasing_trivial_pre_omega); (focus bv_omega)))
local macro_rules | `(tactic| array_mem_dec) => `(tactic| (with_reducible first | refine L2.x_nx ?_ | refine L2.x_yes ?_ | refine L2.x_turn ?_ | refine L2.x_seqN ?_ | refine L2.x_fld ?_ | refine L2.x_sfld ?_ | refine L2.x_methS ?_ | refine L2.x_make ?_ | refine L2.x_mk ?_))
local macro_rules | `(tactic| array_mem_dec) => `(tactic| ((with_reducible refine L2.x_mtS1 ?_); (with_reducible refine L2.x_mtS1 ?_); (with_reducible apply L2.x_mtS0); (focus assumption); (focus sizeOf_list_dec)))
local macro_rules | `(tactic| array_mem_dec) => `(tactic| ((with_reducible refine L2.x_mtS1 ?_); (with_reducible apply L2.x_mtS0); (focus assumption); (focus sizeOf_list_dec)))
local macro_rules | `(tactic| array_mem_dec) => `(tactic| ((with_reducible apply L2.x_mtS0); (focus assumption); (focus sizeOf_list_dec)))
local macro_rules | `(tactic| array_mem_dec) => `(tactic| ((with_reducible apply L2.x_fldk); (focus assumption); (focus sizeOf_list_dec); (focus sizeOf_list_dec); (focus sizeOf_list_dec)))
local macro_rules | `(tactic| array_mem_dec) => `(tactic| ((with_reducible apply L2.x_sfk); (focus assumption); (focus sizeOf_list_dec); (focus sizeOf_list_dec); (focus sizeOf_list_dec)))
local macro_rules | `(tactic| sizeOf_list_dec) => `(tactic| with_reducible first | exact L2.cfl_number | exact L2.cfl_caller | exact L2.cfl_count | exact L2.cfl_word | exact L2.cfl_causes | exact L2.cfl_free | exact L2.cfl_in_turn | exact L2.cfl_asks_place | exact L2.cfl_kind | exact L2.cfl_name | exact L2.cfl_rank | exact L2.cfl_told | exact L2.cfl_shown | fail)
local macro_rules | `(tactic| array_mem_dec) => `(tactic| ((with_reducible apply L2.x_gisd); (focus decreasing_trivial_pre_omega)))
local macro_rules | `(tactic| array_mem_dec) => `(tactic| ((with_reducible apply L2.x_gdg); (focus decreasing_trivial_pre_omega); (focus assumption)))
local macro_rules | `(tactic| array_mem_dec) => `(tactic| ((with_reducible apply L2.x_gdo); (focus decreasing_trivial_pre_omega)))
local macro_rules | `(tactic| array_mem_dec) => `(tactic| ((with_reducible apply L2.x_gdin); (focus decreasing_trivial_pre_omega)))
local macro_rules | `(tactic| array_mem_dec) => `(tactic| ((with_reducible apply L2.x_gdput); (focus assumption); (focus assumption); (focus sizeOf_list_dec)))
local macro_rules | `(tactic| sizeOf_list_dec) => `(tactic| with_reducible first | exact L2.kf_learnt | exact L2.kf_learn | exact L2.kf_row_of | exact L2.kf_floor | exact L2.kf_reach | exact L2.kf_sure | fail)
local macro_rules | `(tactic| array_mem_dec) => `(tactic| ((with_reducible apply L2.x_rdictG); (focus decreasing_trivial_pre_omega)))
local macro_rules | `(tactic| array_mem_dec) => `(tactic| (with_reducible first | refine L2.x_ivals ?_ | refine L2.x_ikeys ?_ | refine L2.x_iseq ?_ | refine L2.x_sl3 ?_))
local macro_rules | `(tactic| array_mem_dec) => `(tactic| ((with_reducible apply L2.x_tyd); (focus assumption)))
local macro_rules | `(tactic| array_mem_dec) => `(tactic| (with_reducible first | refine L2.x_iitems ?_))
local macro_rules | `(tactic| array_mem_dec) => `(tactic| ((with_reducible apply L2.x_neE); (focus decreasing_trivial_pre_omega); (focus decreasing_trivial_pre_omega)))
local macro_rules | `(tactic| sizeOf_list_dec) => `(tactic| with_reducible first | exact L2.kf_listed | exact L2.kf_merge | fail)
local macro_rules | `(tactic| array_mem_dec) => `(tactic| (with_reducible first | refine L2.x_gsub ?_))
local macro_rules | `(tactic| array_mem_dec) => `(tactic| (with_reducible first | refine L2.x_maxl ?_))
local macro_rules | `(tactic| sizeOf_list_dec) => `(tactic| with_reducible first | exact L2.chf_me | exact L2.chf_hands | exact L2.chf_ballot | exact L2.chf_yes | exact L2.chf_votes | exact L2.chf_reports | exact L2.chf_agreed | exact L2.chf_begin | exact L2.chf_message | exact L2.chf_receive | exact L2.chf_see_ballot | exact L2.chf_see_yes | exact L2.chf_see_votes | exact L2.chf_gathers | exact L2.chf_settled | exact L2.chf_len | fail)
local macro_rules | `(tactic| array_mem_dec) => `(tactic| (with_reducible first | refine L2.x_mink ?_))
local macro_rules | `(tactic| array_mem_dec) => `(tactic| (with_reducible first | refine L2.x_sortk ?_))
local macro_rules | `(tactic| array_mem_dec) => `(tactic| (with_reducible refine L2.x_irev ?_))
local macro_rules | `(tactic| array_mem_dec) => `(tactic| (with_reducible refine L2.x_ivalsT ?_))
local macro_rules | `(tactic| array_mem_dec) => `(tactic| (with_reducible first | refine L2.x_sorto ?_))
local macro_rules | `(tactic| array_mem_dec) => `(tactic| (with_reducible first | refine L2.x_callL ?_ | refine L2.x_callM ?_))
local macro_rules | `(tactic| sizeOf_list_dec) => `(tactic| with_reducible first | exact L2.chf_has_enough | exact L2.chf_made_by | exact L2.chf_propose | fail)
local macro_rules | `(tactic| array_mem_dec) => `(tactic| (with_reducible refine L2.x_methL ?_))
local macro_rules | `(tactic| array_mem_dec) => `(tactic| ((with_reducible apply L2.x_mtL); (focus assumption); (focus sizeOf_list_dec)))
namespace K11
open PySem L2
def top (i : Nat) : Stmt := PySem.Challenge.pw_groupcall_k11_calls_made.main.body.getD i (.Pass ⟨0, 0, 0, 0⟩)
abbrev s_Call___init__ : Stmt := inClass (top 9) 0
abbrev s_OwnCall___init__ : Stmt := inClass (top 10) 0
abbrev s_is_whole : Stmt := top 6
abbrev s_is_word : Stmt := top 13
abbrev s_make_call : Stmt := top 14
abbrev s__law_refusal : Stmt := top 23
section
variable {P : Program} {w : World} {K : PySem.W.Frag} {mg : Str → Option Value} {base : Heap}
def GV_KINDS (K : PySem.W.Frag) (v : V) : Prop := ∃ a, v = .ref a ∧ ∀ H, SqT K H a [.str "own", .str "heard", .str "one"]
def sp_Call___init__ (K : PySem.W.Frag) : Sp := fun vs H Q _ => ∃ (p : Addr) (n c k w cs : V), vs = [.ref p, n, c, k, w, cs] ∧ ∃ C dx, TCall K C ∧ H p = some (.ins C dx []) ∧ ∀ H', But p H H' → H' p = some (.ins C dx (cfl n c k w cs)) → Q .non H'
def sp_OwnCall___init__ (K : PySem.W.Frag) : Sp := fun vs H Q _ => ∃ (p : Addr) (n c k w cs : V), vs = [.ref p, n, c, k, w, cs] ∧ ∃ C dx, TCall K C ∧ H p = some (.ins C dx []) ∧ ∀ H' t, (∀ b o, H b = some o → b ≠ p → H' b = some o) → H' t = some (.tup []) → H' p = some (.ins C dx (cfl n c k w (.ref t))) → Q .non H'
theorem sc_Call___init__ : FnScope ["self", "number", "caller", "count", "word", "causes"] ["self", "number", "caller", "count", "word", "causes"] (defScope s_Call___init__) := ⟨rfl, rfl, rfl, by decide +kernel, rfl, by decide +kernel, by decide +kernel⟩
theorem ok_Call___init__ {f  : Addr} {fd  : FuncData} (F : Fun K "__init__" "Call.__init__" s_Call___init__ f fd) : FnOk P w K mg base CX0 1 f fd ["self", "number", "caller", "count", "word", "causes"] (sp_Call___init__ K) := by
  refine F.ok sc_Call___init__ (fun vs H Q E h => ?_) (fun cdv A outer s H vs Q E hr h => ?_)
  · obtain ⟨p, n, c, k, w, cs, rfl, _⟩ := h
    rfl
  obtain ⟨p, n, c, k, w, cs, rfl, h⟩ := h
  have hu64 := hr.units
  have hu0 := hr.units0
  have hu := hu_of hr
  refine ⟨_, (pss_cons (ps_fldK (K := K) rfl (pv 0) (pv 1) rfl)
      (pss_cons (ps_fldK (K := K) rfl (pv 0) (pv 2) rfl)
      (pss_cons (ps_fldK (K := K) rfl (pv 0) (pv 3) rfl)
      (pss_cons (ps_fldK (K := K) rfl (pv 0) (pv 4) rfl)
      (pss_one (ps_fldK (K := K) rfl (pv 0) (pv 5) rfl)))))), ?_⟩
  obtain ⟨C, dx, ⟨cl, n1, n2, n3, n4, n5⟩, hp, q⟩ := h
  clean_wf
  intro H1 b1 g1
  clean_wf
  intro H2 b2 g2
  clean_wf
  intro H3 b3 g3
  clean_wf
  intro H4 b4 g4
  clean_wf
  intro H5 b5 g5
  rw [cfl_put] at g5
  exact q _ (fun b h => (b5 b h).trans ((b4 b h).trans ((b3 b h).trans ((b2 b h).trans (b1 b h))))) g5
theorem sc_OwnCall___init__ : FnScope ["self", "number", "caller", "count", "word", "causes"] ["self", "number", "caller", "count", "word", "causes"] (defScope s_OwnCall___init__) := ⟨rfl, rfl, rfl, by decide +kernel, rfl, by decide +kernel, by decide +kernel⟩
theorem ok_OwnCall___init__ {f f_Call___init__ C_Call : Addr} {fd fd_Call___init__ : FuncData} (F : Fun K "__init__" "OwnCall.__init__" s_OwnCall___init__ f fd)
    (G_Call___init__ : FnOk P w K mg base CX0 1 f_Call___init__ fd_Call___init__ ["self", "number", "caller", "count", "word", "causes"] (sp_Call___init__ K)) (B_Call___init__ : Binds K fd_Call___init__ ["self", "number", "caller", "count", "word", "causes"] []) (T_Call : TCall K C_Call) (m_Call : mg "Call" = some (.ref C_Call)) (cf_Call___init__ : ClsFn K C_Call "__init__" f_Call___init__) : FnOk P w K mg base CX0 2 f fd ["self", "number", "caller", "count", "word", "causes"] (sp_OwnCall___init__ K) := by
  refine F.ok sc_OwnCall___init__ (fun vs H Q E h => ?_) (fun cdv A outer s H vs Q E hr h => ?_)
  · obtain ⟨p, n, c, k, w, cs, rfl, _⟩ := h
    rfl
  obtain ⟨p, n, c, k, w, cs, rfl, h⟩ := h
  have hu64 := hr.units
  have hu0 := hr.units0
  have hu := hu_of hr
  refine ⟨_, (pss_one (ps_expr (pe_clsfn rfl m_Call cf_Call___init__ G_Call___init__ B_Call___init__ hr (pa_cons (pv 0) (pa_cons (pv 1) (pa_cons (pv 2) (pa_cons (pv 3) (pa_cons (pv 4) (pa_cons (pe_tup pa_nil) pa_nil))))))))), ?_⟩
  obtain ⟨C, dx, T, hp, q⟩ := h
  clean_wf
  intro t H1 ht s1 g1
  clean_wf
  refine ⟨p, n, c, k, w, _, rfl, C, dx, T, s1 _ _ hp, fun H2 b2 g2 => ?_⟩
  clean_wf
  exact q _ t (fun b o e hb => b2.at hb (s1 _ _ e)) (b2.of (s1 _ _ hp) g1 (by intro z; cases z)) g2

def NoI (H : Hp) (w : V) : Prop := (∃ x, w = .bl x) ∨ w = .non ∨ (∃ x, w = .str x) ∨ ∃ a xs, w = .ref a ∧ H a = some (.tup xs)
def WK (H : Hp) (w : V) (b : Bool) : Prop := (∃ i, w = .int i ∧ b = true) ∨ (NoI H w ∧ b = false)

def WG (H : Hp) (w : V) (b : Bool) : Prop := (∃ i : Int, w = .int i ∧ b = decide ((if i < 0 then -i else i) < 10 ^ (60 : Int).toNat)) ∨ (NoI H w ∧ b = false)
def sp_is_whole (K : PySem.W.Frag) : Sp := fun vs H Q _ => ∃ (w : V), vs = [w] ∧ ∃ b, WK H w b ∧ Q (.bl b) H
theorem sc_is_whole : FnScope ["value"] ["value"] (defScope s_is_whole) := ⟨rfl, rfl, rfl, by decide +kernel, rfl, by decide +kernel, by decide +kernel⟩
theorem ok_is_whole {f  : Addr} {fd  : FuncData} (F : Fun K "is_whole" "is_whole" s_is_whole f fd) (h_bool : mg "bool" = none) (h_int : mg "int" = none) (h_isinstance : mg "isinstance" = none) : FnOk P w K mg base CX0 1 f fd ["value"] (sp_is_whole K) := by
  refine F.ok sc_is_whole (fun vs H Q E h => ?_) (fun cdv A outer s H vs Q E hr h => ?_)
  · obtain ⟨w, rfl, _⟩ := h
    rfl
  obtain ⟨w, rfl, h⟩ := h
  have hu64 := hr.units
  have hu0 := hr.units0
  have hu := hu_of hr
  refine ⟨_, (pss_one (ps_ret (pe_and (pe_callB (call_isiK (K := K) rfl) (by rfl) h_isinstance PyProof.Rows.boot_isinstance (pa_cons (pv 0) (pa_cons (pe_type h_int PyProof.Rows.boot_int) pa_nil))) (pe_one (pe_not (pe_callB (call_isiK (K := K) rfl) (by rfl) h_isinstance PyProof.Rows.boot_isinstance (pa_cons (pv 0) (pa_cons (pe_type h_bool PyProof.Rows.boot_bool) pa_nil)))))))), ?_⟩
  obtain ⟨b, hw, q⟩ := h
  rcases hw with ⟨i, rfl, rfl⟩ | ⟨⟨x, rfl⟩ | rfl | ⟨x, rfl⟩ | ⟨a, xs, rfl, ha⟩, rfl⟩
  · clean_wf
    refine ⟨_, _, _, true, rfl, .int _, (by kernel_rfl), ?_⟩
    clean_wf
    refine ⟨_, _, _, false, rfl, .int _, (by kernel_rfl), ?_⟩
    clean_wf
    exact q
  · clean_wf
    refine ⟨_, _, _, true, rfl, .bl _, (by kernel_rfl), ?_⟩
    clean_wf
    refine ⟨_, _, _, true, rfl, .bl _, (by kernel_rfl), ?_⟩
    clean_wf
    exact q
  · clean_wf
    refine ⟨_, _, _, false, rfl, .non, (by kernel_rfl), ?_⟩
    clean_wf
    exact q
  · clean_wf
    refine ⟨_, _, _, false, rfl, .str _, (by kernel_rfl), ?_⟩
    clean_wf
    exact q
  · clean_wf
    refine ⟨_, _, _, false, rfl, .tup ha, (by kernel_rfl), ?_⟩
    clean_wf
    exact q
def sp_is_word (K : PySem.W.Frag) : Sp := fun vs H Q _ => ∃ (w : V), vs = [w] ∧ ∃ b, WG H w b ∧ Q (.bl b) H
theorem sc_is_word : FnScope ["word"] ["word"] (defScope s_is_word) := ⟨rfl, rfl, rfl, by decide +kernel, rfl, by decide +kernel, by decide +kernel⟩
theorem ok_is_word {f f_is_whole : Addr} {fd fd_is_whole : FuncData} (F : Fun K "is_word" "is_word" s_is_word f fd)
    (G_is_whole : FnOk P w K mg base CX0 1 f_is_whole fd_is_whole ["value"] (sp_is_whole K)) (C_is_whole : Cal K mg "is_whole" f_is_whole fd_is_whole ["value"]) (h_abs : mg "abs" = none) : FnOk P w K mg base CX0 2 f fd ["word"] (sp_is_word K) := by
  refine F.ok sc_is_word (fun vs H Q E h => ?_) (fun cdv A outer s H vs Q E hr h => ?_)
  · obtain ⟨w, rfl, _⟩ := h
    rfl
  obtain ⟨w, rfl, h⟩ := h
  have hu64 := hr.units
  have hu0 := hr.units0
  have hu := hu_of hr
  refine ⟨_, (pss_one (ps_ret (pe_and (pcall G_is_whole C_is_whole hr (pa_cons (pv 0) pa_nil)) (pe_one (pe_cmpR op_lt (pe_callB call_abs (by rfl) h_abs PyProof.Rows.boot_abs (pa_cons (pv 0) pa_nil)) (pe_op op_pow pe_int pe_int) (nomark _)))))), ?_⟩
  obtain ⟨b, hw, q⟩ := h
  rcases hw with ⟨i, rfl, rfl⟩ | ⟨hw, rfl⟩
  · clean_wf
    refine ⟨_, rfl, true, .inl ⟨i, rfl, rfl⟩, ?_⟩
    clean_wf
    refine ⟨_, rfl, ?_⟩
    clean_wf
    exact q
  · clean_wf
    refine ⟨_, rfl, false, .inr ⟨hw, rfl⟩, ?_⟩
    clean_wf
    exact q
def KdY (kd : Str) : Prop := kd = "own" ∨ kd = "heard" ∨ kd = "one"
def KdN (kd : Str) : Prop := kd = "" ∨ kd = "Own" ∨ kd = "all" ∨ kd = "ones" ∨ kd = "one " ∨ kd = "hear"
theorem x_kindsN {K : PySem.W.Frag} {H : Hp} {Q : VK} {a : Addr} {kd : Str} (h : KdN kd) (ha : SqT K H a [.str "own", .str "heard", .str "one"]) (q : Q (.bl true) H) : rInP K true (.str kd) (.ref a) H Q := by
  refine ⟨a, _, _, _, rfl, .inr ha, .cons (.str _) (.cons (.str _) (.cons (.str _) .nil)), .str kd, by kernel_rfl, ?_, by show 0 ≤ 60; decide, ?_⟩
  · rcases h with rfl | rfl | rfl | rfl | rfl | rfl <;> kernel_rfl
  · have e : (([.str "own", .str "heard", .str "one"] : List PyData).any fun z => z.eqv (.str kd)) = false := by rcases h with rfl | rfl | rfl | rfl | rfl | rfl <;> kernel_rfl
    show Q (.bl (!_)) H
    rw [e]
    exact q
def KdC (mg : Str → Option Value) (kd : Str) (C : Addr) : Prop := (kd = "own" ∧ mg "OwnCall" = some (.ref C)) ∨ (kd = "heard" ∧ mg "HeardCall" = some (.ref C)) ∨ (kd = "one" ∧ mg "OneCall" = some (.ref C))
def sp_make_call (K : PySem.W.Frag) (mg : Str → Option Value) : Sp := fun vs H Q E => ∃ (n c k : Int) (kd : Str) (w : V) (t : Addr), vs = [.int n, .int c, .int k, .str kd, w, .ref t] ∧ ∃ xs g, H t = some (.tup xs) ∧ WG H w g ∧ (KdY kd ∨ KdN kd) ∧
  (KdN kd → ∀ C ea, mg "NoKind" = some (.ref C) → H ea = none → E (.ref ea) (some C) H) ∧ (KdY kd → g = false → ∀ C ea, mg "NoWord" = some (.ref C) → H ea = none → E (.ref ea) (some C) H) ∧
  (KdY kd → g = true → ∀ H' p C dx t', Same H H' → H p = none → KdC mg kd C → TCall K C → H' p = some (.ins C dx (cfl (.int n) (.int c) (.int k) w (.ref t'))) → H' t' = some (.tup (if kd = "own" then [] else xs)) → Q (.ref p) H')
theorem sc_make_call : FnScope ["number", "caller", "count", "kind", "word", "causes"] ["number", "caller", "count", "kind", "word", "causes"] (defScope s_make_call) := ⟨rfl, rfl, rfl, by decide +kernel, rfl, by decide +kernel, by decide +kernel⟩
set_option maxHeartbeats 1000000 in
theorem ok_make_call {f f_Call___init__ f_OwnCall___init__ f_is_word C_HeardCall C_OneCall C_OwnCall C_NoKind C_NoWord : Addr} {fd fd_Call___init__ fd_OwnCall___init__ fd_is_word : FuncData} {vc_KINDS : V} {uc_KINDS : Value} (F : Fun K "make_call" "make_call" s_make_call f fd)
    (G_Call___init__ : FnOk P w K mg base CX0 2 f_Call___init__ fd_Call___init__ ["self", "number", "caller", "count", "word", "causes"] (sp_Call___init__ K)) (B_Call___init__ : Binds K fd_Call___init__ ["self", "number", "caller", "count", "word", "causes"] [])
    (G_OwnCall___init__ : FnOk P w K mg base CX0 2 f_OwnCall___init__ fd_OwnCall___init__ ["self", "number", "caller", "count", "word", "causes"] (sp_OwnCall___init__ K)) (B_OwnCall___init__ : Binds K fd_OwnCall___init__ ["self", "number", "caller", "count", "word", "causes"] [])
    (G_is_word : FnOk P w K mg base CX0 3 f_is_word fd_is_word ["word"] (sp_is_word K)) (C_is_word : Cal K mg "is_word" f_is_word fd_is_word ["word"]) (T_HeardCall : TCall K C_HeardCall) (T_OneCall : TCall K C_OneCall) (T_OwnCall : TCall K C_OwnCall) (m_HeardCall : mg "HeardCall" = some (.ref C_HeardCall)) (m_OneCall : mg "OneCall" = some (.ref C_OneCall)) (m_OwnCall : mg "OwnCall" = some (.ref C_OwnCall)) (M_HeardCall : Mk K C_HeardCall f_Call___init__) (M_OneCall : Mk K C_OneCall f_Call___init__) (M_OwnCall : Mk K C_OwnCall f_OwnCall___init__) (gm_KINDS : mg "KINDS" = some uc_KINDS) (gr_KINDS : RelV vc_KINDS uc_KINDS) (gv_KINDS : GV_KINDS K vc_KINDS) (m_NoKind : mg "NoKind" = some (.ref C_NoKind)) (m_NoWord : mg "NoWord" = some (.ref C_NoWord)) (xi_NoKind : XNew K C_NoKind [.type "ValueError", .type "Exception", .type "BaseException", .type "object"] "ValueError.__new__") (xi_NoWord : XNew K C_NoWord [.type "ValueError", .type "Exception", .type "BaseException", .type "object"] "ValueError.__new__") : FnOk P w K mg base (CXR P w) 4 f fd ["number", "caller", "count", "kind", "word", "causes"] (sp_make_call K mg) := by
  refine F.okX sc_make_call (fun vs H Q E h => ?_) (fun cdv A outer s H vs Q E hr h => ?_)
  · obtain ⟨n, c, k, kd, w, t, rfl, _⟩ := h
    rfl
  obtain ⟨n, c, k, kd, w, t, rfl, h⟩ := h
  have hu64 := hr.units
  have hu0 := hr.units0
  have hu := hu_of hr
  refine ⟨_, (pss_cons (ps_if (pt_cmpR (op_ninK (K := K) rfl hu64) (pv 3) (pe_glob rfl gm_KINDS gr_KINDS) (by rfl)) (pss_one (ps_raise PySem.F.excBase_ValueError (by decide +kernel) xi_NoKind (by rfl) m_NoKind (pa_cons pe_str pa_nil))) pss_nil)
      (pss_cons (ps_if (pt_not (pt_callK K rfl (pcall G_is_word C_is_word hr (pa_cons (pv 4) pa_nil)))) (pss_one (ps_raise PySem.F.excBase_ValueError (by decide +kernel) xi_NoWord (by rfl) m_NoWord (pa_cons pe_str pa_nil))) pss_nil)
      (pss_cons (ps_if (pt_cmpR op_eq (pv 3) pe_str (nomark _)) (pss_one (ps_ret (pe_make M_OwnCall G_OwnCall___init__ hr rfl m_OwnCall B_OwnCall___init__ .nil pass0 (pa_cons (pv 0) (pa_cons (pv 1) (pa_cons (pv 2) (pa_cons (pv 4) (pa_cons (pv 5) pa_nil)))))))) pss_nil)
      (pss_cons (ps_if (pt_cmpR op_eq (pv 3) pe_str (nomark _)) (pss_one (ps_ret (pe_make M_HeardCall G_Call___init__ hr rfl m_HeardCall B_Call___init__ .nil pass0 (pa_cons (pv 0) (pa_cons (pv 1) (pa_cons (pv 2) (pa_cons (pv 4) (pa_cons (pv 5) pa_nil)))))))) pss_nil)
      (pss_one (ps_ret (pe_make M_OneCall G_Call___init__ hr rfl m_OneCall B_Call___init__ .nil pass0 (pa_cons (pv 0) (pa_cons (pv 1) (pa_cons (pv 2) (pa_cons (pv 4) (pa_cons (pv 5) pa_nil)))))))))))), ?_⟩
  obtain ⟨xs, g, ht, hw, hkd, qk, qw, q⟩ := h
  obtain ⟨aK, rfl, hK⟩ := gv_KINDS
  have hKH := hK H
  refine x_seq ?_
  clean_wf
  rcases hkd with hkd | hkd
  rotate_left
  · refine x_kindsN hkd hKH ?_
    refine ⟨_, rfl, ?_⟩
    rw [if_pos rfl]
    refine x_raise ?_
    clean_wf
    exact ⟨by show 1 ≤ sizeLine; decide +kernel, fun ea hea => qk hkd _ ea m_NoKind hea⟩
  have q := q hkd
  have qw := qw hkd
  refine x_kinds hkd hKH ?_
  refine ⟨_, rfl, ?_⟩
  rw [if_neg Bool.false_ne_true]
  refine x_next ?_
  dsimp only
  refine x_seq ?_
  clean_wf
  refine ⟨w, rfl, g, hw, ?_⟩
  cases g with
  | false =>
    clean_wf
    refine x_raise ?_
    clean_wf
    exact ⟨by show 1 ≤ sizeLine; decide +kernel, fun ea hea => qw rfl _ ea m_NoWord hea⟩
  | true =>
    have q := q rfl
    clean_wf
    rcases hkd with rfl | rfl | rfl
    · rw [eq_oo]
      clean_wf
      intro p dx H1 hp s1 g1
      refine ⟨p, _, _, _, _, _, rfl, _, dx, T_OwnCall, g1, fun H2 t' k2 g2 g3 => ⟨rfl, ?_⟩⟩
      refine q _ p _ dx t' (fun b o e => k2 _ _ (s1 _ _ e) (ne_of_none e hp)) hp (.inl ⟨rfl, m_OwnCall⟩) T_OwnCall g3 ?_
      rw [if_pos rfl]
      exact g2
    · rw [ne_oh]
      clean_wf
      rw [eq_hh]
      clean_wf
      intro p dx H1 hp s1 g1
      refine ⟨p, _, _, _, _, _, rfl, _, dx, T_HeardCall, g1, fun H2 b2 g2 => ⟨rfl, ?_⟩⟩
      have s2 : Same H H2 := fun b o e => b2.at (ne_of_none e hp) (s1 _ _ e)
      refine q _ p _ dx t s2 hp (.inr (.inl ⟨rfl, m_HeardCall⟩)) T_HeardCall g2 ?_
      rw [if_neg (by decide +kernel)]
      exact s2 _ _ ht
    · rw [ne_oo]
      clean_wf
      rw [ne_ho]
      clean_wf
      intro p dx H1 hp s1 g1
      refine ⟨p, _, _, _, _, _, rfl, _, dx, T_OneCall, g1, fun H2 b2 g2 => ⟨rfl, ?_⟩⟩
      have s2 : Same H H2 := fun b o e => b2.at (ne_of_none e hp) (s1 _ _ e)
      refine q _ p _ dx t s2 hp (.inr (.inr ⟨rfl, m_OneCall⟩)) T_OneCall g2 ?_
      rw [if_neg (by decide +kernel)]
      exact s2 _ _ ht
def sp__law_refusal (K : PySem.W.Frag) (mg : Str → Option Value) : Sp := fun vs H Q _ => ∃ (p : Addr), vs = [.ref p] ∧ ∃ (n c k : Int) (kd : Str) (w : V) (t : Addr) (xs : List V) (g : Bool), H p = some (.tup [.int n, .int c, .int k, .str kd, w, .ref t]) ∧ H t = some (.tup xs) ∧ WG H w g ∧ (KdY kd ∨ KdN kd) ∧
  ∀ H', Same H H' → (KdN kd → Q (.str "kind") H') ∧ (KdY kd → g = false → Q (.str "word") H') ∧ (KdY kd → g = true → Q (.str "none") H')
theorem sc__law_refusal : FnScope ["_law_parts", "e"] ["_law_parts"] (defScope s__law_refusal) := ⟨rfl, rfl, rfl, by decide +kernel, rfl, by decide +kernel, by decide +kernel⟩
set_option maxHeartbeats 1000000 in
theorem ok__law_refusal {f f_make_call C_GroupError C_NoKind C_NoWord : Addr} {fd fd_make_call : FuncData} (F : Fun K "_law_refusal" "_law_refusal" s__law_refusal f fd)
    (G_make_call : FnOk P w K mg base (CXR P w) 4 f_make_call fd_make_call ["number", "caller", "count", "kind", "word", "causes"] (sp_make_call K mg)) (C_make_call : Cal K mg "make_call" f_make_call fd_make_call ["number", "caller", "count", "kind", "word", "causes"]) (h_ValueError : mg "ValueError" = none) (h_isinstance : mg "isinstance" = none) (m_GroupError : mg "GroupError" = some (.ref C_GroupError)) (m_NoKind : mg "NoKind" = some (.ref C_NoKind)) (m_NoWord : mg "NoWord" = some (.ref C_NoWord)) (mr_GroupError_GroupError : XSub K C_GroupError C_GroupError) (mr_NoKind_GroupError : XSub K C_NoKind C_GroupError) (mr_NoWord_GroupError : XSub K C_NoWord C_GroupError) (xf_NoKind : XcF K C_NoKind) (xf_NoWord : XcF K C_NoWord) (kx_NoKind_ValueError : PySem.W.kitOne K (.ref C_NoKind) (.type "ValueError") = some true) (kx_NoKind_NoKind : PySem.W.kitOne K (.ref C_NoKind) (.ref C_NoKind) = some true) (kx_NoKind_NoWord : PySem.W.kitOne K (.ref C_NoKind) (.ref C_NoWord) = some false) (kx_NoWord_ValueError : PySem.W.kitOne K (.ref C_NoWord) (.type "ValueError") = some true) (kx_NoWord_NoKind : PySem.W.kitOne K (.ref C_NoWord) (.ref C_NoKind) = some false) (kx_NoWord_NoWord : PySem.W.kitOne K (.ref C_NoWord) (.ref C_NoWord) = some true) : FnOk P w K mg base CX0 5 f fd ["_law_parts"] (sp__law_refusal K mg) := by
  refine F.ok sc__law_refusal (fun vs H Q E h => ?_) (fun cdv A outer s H vs Q E hr h => ?_)
  · obtain ⟨p, rfl, _⟩ := h
    rfl
  obtain ⟨p, rfl, h⟩ := h
  have hu64 := hr.units
  have hu0 := hr.units0
  have hu := hu_of hr
  refine ⟨_, (pss_cons (ps_tryAs (K := K) (i := 1) rfl rfl rfl sc__law_refusal.nd rfl rfl (by rfl) m_GroupError mr_GroupError_GroupError (fun pins EE => (pss_one (ps_expr (pcallX G_make_call C_make_call hr (pa_cons (pe_ix (ix_tupK (K := K) rfl) (pv 0) pe_int (fun _ _ => rfl)) (pa_cons (pe_ix (ix_tupK (K := K) rfl) (pv 0) pe_int (fun _ _ => rfl)) (pa_cons (pe_ix (ix_tupK (K := K) rfl) (pv 0) pe_int (fun _ _ => rfl)) (pa_cons (pe_ix (ix_tupK (K := K) rfl) (pv 0) pe_int (fun _ _ => rfl)) (pa_cons (pe_ix (ix_tupK (K := K) rfl) (pv 0) pe_int (fun _ _ => rfl)) (pa_cons (pe_ix (ix_tupK (K := K) rfl) (pv 0) pe_int (fun _ _ => rfl)) pa_nil)))))))))) (fun ea => (pss_cons (ps_if (pt_not (pt_callK K rfl (pe_callB (call_isX (K := K) rfl) (by rfl) h_isinstance PyProof.Rows.boot_isinstance (pa_cons (pv 1) (pa_cons (pe_type (T := "ValueError") h_ValueError PyProof.Rows.Boot.«ValueError») pa_nil))))) (pss_one (ps_ret pe_str)) pss_nil)
      (pss_cons (ps_if (PW.pt (pw_and (pt_callK K rfl (pe_callB (call_isX (K := K) rfl) (by rfl) h_isinstance PyProof.Rows.boot_isinstance (pa_cons (pv 1) (pa_cons (pe_glob (v := .ref C_NoKind) rfl m_NoKind rfl) pa_nil)))) (pw_and1 (pt_callK K rfl (pe_callB (call_isX (K := K) rfl) (by rfl) h_isinstance PyProof.Rows.boot_isinstance (pa_cons (pv 1) (pa_cons (pe_glob (v := .ref C_NoWord) rfl m_NoWord rfl) pa_nil))))))) (pss_one (ps_ret pe_str)) pss_nil)
      (pss_cons (ps_if (pt_callK K rfl (pe_callB (call_isX (K := K) rfl) (by rfl) h_isinstance PyProof.Rows.boot_isinstance (pa_cons (pv 1) (pa_cons (pe_glob (v := .ref C_NoKind) rfl m_NoKind rfl) pa_nil)))) (pss_one (ps_ret pe_str)) pss_nil)
      (pss_cons (ps_if (pt_callK K rfl (pe_callB (call_isX (K := K) rfl) (by rfl) h_isinstance PyProof.Rows.boot_isinstance (pa_cons (pv 1) (pa_cons (pe_glob (v := .ref C_NoWord) rfl m_NoWord rfl) pa_nil)))) (pss_one (ps_ret pe_str)) pss_nil)
      (pss_one (ps_ret pe_str))))))))
      (pss_one (ps_ret pe_str))), ?_⟩
  obtain ⟨n, c, k, kd, w', t, xs, g, hp, ht, hw, hkd, q⟩ := h
  have st := SqT.of (K := K) hp
  have a0 : atI [V.int n, V.int c, V.int k, V.str kd, w', V.ref t] 0 = some (.int n) := by kernel_rfl
  have a1 : atI [V.int n, V.int c, V.int k, V.str kd, w', V.ref t] 1 = some (.int c) := by kernel_rfl
  have a2 : atI [V.int n, V.int c, V.int k, V.str kd, w', V.ref t] 2 = some (.int k) := by kernel_rfl
  have a3 : atI [V.int n, V.int c, V.int k, V.str kd, w', V.ref t] 3 = some (.str kd) := by kernel_rfl
  have a4 : atI [V.int n, V.int c, V.int k, V.str kd, w', V.ref t] 4 = some w' := by kernel_rfl
  have a5 : atI [V.int n, V.int c, V.int k, V.str kd, w', V.ref t] 5 = some (.ref t) := by kernel_rfl
  refine x_seq ?_
  refine x_tryAs ?_
  clean_wf
  refine x_callX ?_
  clean_wf
  refine ⟨n, c, k, kd, w', t, rfl, xs, g, ht, hw, hkd, fun hN C ea hm hea => ?_, fun hY hg C ea hm hea => ?_, fun hY hg H' p' C dx t' s' _ _ _ _ _ => ?_⟩
  · rw [m_NoKind] at hm
    cases hm
    refine ⟨ea, _, rfl, rfl, mr_NoKind_GroupError, ?_⟩
    have s1 := same_upd (o := xO ea C_NoKind) hea
    have g1 : (upd H ea (xO ea C_NoKind)) ea = some (xO ea C_NoKind) := upd_same
    generalize upd H ea (xO ea C_NoKind) = H1 at s1 g1 ⊢
    refine x_seq ?_
    clean_wf
    refine ⟨ea, _, _, _, true, rfl, (fun u r => r), g1, xf_NoKind, kx_NoKind_ValueError, ?_⟩
    clean_wf
    refine ⟨ea, _, _, _, true, rfl, (fun u r => r), g1, xf_NoKind, kx_NoKind_NoKind, ?_⟩
    clean_wf
    refine ⟨ea, _, _, _, false, rfl, (fun u r => r), g1, xf_NoKind, kx_NoKind_NoWord, ?_⟩
    clean_wf
    refine ⟨ea, _, _, _, true, rfl, (fun u r => r), g1, xf_NoKind, kx_NoKind_NoKind, ?_⟩
    clean_wf
    exact (q H1 s1).1 hN
  · rw [m_NoWord] at hm
    cases hm
    refine ⟨ea, _, rfl, rfl, mr_NoWord_GroupError, ?_⟩
    have s1 := same_upd (o := xO ea C_NoWord) hea
    have g1 : (upd H ea (xO ea C_NoWord)) ea = some (xO ea C_NoWord) := upd_same
    generalize upd H ea (xO ea C_NoWord) = H1 at s1 g1 ⊢
    refine x_seq ?_
    clean_wf
    refine ⟨ea, _, _, _, true, rfl, (fun u r => r), g1, xf_NoWord, kx_NoWord_ValueError, ?_⟩
    clean_wf
    refine ⟨ea, _, _, _, false, rfl, (fun u r => r), g1, xf_NoWord, kx_NoWord_NoKind, ?_⟩
    clean_wf
    refine ⟨ea, _, _, _, false, rfl, (fun u r => r), g1, xf_NoWord, kx_NoWord_NoKind, ?_⟩
    clean_wf
    refine ⟨ea, _, _, _, true, rfl, (fun u r => r), g1, xf_NoWord, kx_NoWord_NoWord, ?_⟩
    clean_wf
    exact (q H1 s1).2.1 hY hg
  · clean_wf
    exact (q H' s').2.2 hY hg
end
end K11


namespace K11
open PySem L2
abbrev s__law_cell_at : Stmt := top 17
abbrev s_Call_name : Stmt := inClass (top 9) 1
abbrev s_Call_asks_place : Stmt := inClass (top 9) 6
abbrev s_OneCall_asks_place : Stmt := inClass (top 12) 1
abbrev s_OwnCall_kind : Stmt := inClass (top 10) 1
abbrev s_HeardCall_kind : Stmt := inClass (top 11) 0
abbrev s_OneCall_kind : Stmt := inClass (top 12) 0
abbrev s_Call_told : Stmt := inClass (top 9) 7
abbrev s__law_whole : Stmt := top 18
abbrev s__law_truth : Stmt := top 19
section
variable {P : Program} {w : World} {K : PySem.W.Frag} {mg : Str → Option Value} {base : Heap}
def sp__law_cell_at (K : PySem.W.Frag) : Sp := fun vs H Q _ => ∃ (a : Addr) (k : Int), vs = [.ref a, .int k] ∧ ∃ ns : List Int, SqL K H a (ns.map V.int) ∧ 0 ≤ k ∧ ∀ c : Int, Q (.int c) H
theorem sc__law_cell_at : FnScope ["_law_script", "_law_k"] ["_law_script", "_law_k"] (defScope s__law_cell_at) := ⟨rfl, rfl, rfl, by decide +kernel, rfl, by decide +kernel, by decide +kernel⟩
theorem ok__law_cell_at {f  : Addr} {fd  : FuncData} (F : Fun K "_law_cell_at" "_law_cell_at" s__law_cell_at f fd) (h_len : mg "len" = none) : FnOk P w K mg base CX0 1 f fd ["_law_script", "_law_k"] (sp__law_cell_at K) := by
  refine F.ok sc__law_cell_at (fun vs H Q E h => ?_) (fun cdv A outer s H vs Q E hr h => ?_)
  · obtain ⟨a, k, rfl, _⟩ := h
    rfl
  obtain ⟨a, k, rfl, h⟩ := h
  have hu64 := hr.units
  have hu0 := hr.units0
  have hu := hu_of hr
  refine ⟨_, (pss_cons (ps_if (pt_cmpR op_lt (pv 1) (pe_callB (call_lenK (K := K) rfl) (by rfl) h_len PySem.boot_len (pa_cons (pv 0) pa_nil)) (nomark _)) (pss_one (ps_ret (pe_ix (ix_listK (K := K) rfl) (pv 0) (pv 1) (fun _ _ => rfl)))) pss_nil)
      (pss_one (ps_ret pe_int))), ?_⟩
  obtain ⟨ns, hS, h0, q⟩ := h
  clean_wf
  refine ite2 (fun h1 => ?_) fun h1 => ?_
  · have h1 : k < ((ns.map V.int).length : Nat) := of_decide_eq_true h1
    rw [List.length_map] at h1
    have hx : k.toNat < ns.length := by omega
    have hat : atI (ns.map V.int) k = some (V.int ns[k.toNat]) := atI_int h0 (by rw [List.getElem?_map, List.getElem?_eq_getElem hx]; rfl)
    clean_wf
    exact q _
  · clean_wf
    exact q _
def sp_Call_name (K : PySem.W.Frag) : Sp := fun vs H Q _ => ∃ (p : Addr), vs = [.ref p] ∧ ∃ C dx n c k w cs, TCall K C ∧ H p = some (.ins C dx (cfl n c k w cs)) ∧ ∀ H' t, Same H H' → H t = none → H' t = some (.tup [n, c, k]) → Q (.ref t) H'
theorem sc_Call_name : FnScope ["self"] ["self"] (defScope s_Call_name) := ⟨rfl, rfl, rfl, by decide +kernel, rfl, by decide +kernel, by decide +kernel⟩
theorem ok_Call_name {f  : Addr} {fd  : FuncData} (F : Fun K "name" "Call.name" s_Call_name f fd) : FnOk P w K mg base CX0 1 f fd ["self"] (sp_Call_name K) := by
  refine F.ok sc_Call_name (fun vs H Q E h => ?_) (fun cdv A outer s H vs Q E hr h => ?_)
  · obtain ⟨p, rfl, _⟩ := h
    rfl
  obtain ⟨p, rfl, h⟩ := h
  have hu64 := hr.units
  have hu0 := hr.units0
  have hu := hu_of hr
  refine ⟨_, (pss_one (ps_ret (pe_tup (pa_cons (pe_fldK (K := K) rfl (pv 0) rfl) (pa_cons (pe_fldK (K := K) rfl (pv 0) rfl) (pa_cons (pe_fldK (K := K) rfl (pv 0) rfl) pa_nil)))))), ?_⟩
  obtain ⟨C, dx, n, c, k, w', cs, hT, hp, kk⟩ := h
  obtain ⟨cl, n1, n2, n3, n4, n5⟩ := id hT
  clean_wf
  intro t H1 ht s1 g1
  exact kk H1 t s1 ht g1
def sp_Call_asks_place (K : PySem.W.Frag) : Sp := fun vs H Q _ => ∃ (p : Addr), vs = [.ref p] ∧ Q (.bl false) H
def sp_OneCall_asks_place (K : PySem.W.Frag) : Sp := fun vs H Q _ => ∃ (p : Addr), vs = [.ref p] ∧ Q (.bl true) H
theorem sc_Call_asks_place : FnScope ["self"] ["self"] (defScope s_Call_asks_place) := ⟨rfl, rfl, rfl, by decide +kernel, rfl, by decide +kernel, by decide +kernel⟩
theorem ok_Call_asks_place {f  : Addr} {fd  : FuncData} (F : Fun K "asks_place" "Call.asks_place" s_Call_asks_place f fd) : FnOk P w K mg base CX0 1 f fd ["self"] (sp_Call_asks_place K) := by
  refine F.ok sc_Call_asks_place (fun vs H Q E h => ?_) (fun cdv A outer s H vs Q E hr h => ?_)
  · obtain ⟨p, rfl, _⟩ := h
    rfl
  obtain ⟨p, rfl, h⟩ := h
  have hu64 := hr.units
  have hu0 := hr.units0
  have hu := hu_of hr
  refine ⟨_, (pss_one (ps_ret pe_bl)), ?_⟩
  clean_wf
  exact h
theorem sc_OneCall_asks_place : FnScope ["self"] ["self"] (defScope s_OneCall_asks_place) := ⟨rfl, rfl, rfl, by decide +kernel, rfl, by decide +kernel, by decide +kernel⟩
theorem ok_OneCall_asks_place {f  : Addr} {fd  : FuncData} (F : Fun K "asks_place" "OneCall.asks_place" s_OneCall_asks_place f fd) : FnOk P w K mg base CX0 1 f fd ["self"] (sp_OneCall_asks_place K) := by
  refine F.ok sc_OneCall_asks_place (fun vs H Q E h => ?_) (fun cdv A outer s H vs Q E hr h => ?_)
  · obtain ⟨p, rfl, _⟩ := h
    rfl
  obtain ⟨p, rfl, h⟩ := h
  have hu64 := hr.units
  have hu0 := hr.units0
  have hu := hu_of hr
  refine ⟨_, (pss_one (ps_ret pe_bl)), ?_⟩
  clean_wf
  exact h
def sp_OwnCall_kind (K : PySem.W.Frag) : Sp := fun vs H Q _ => ∃ (p : Addr), vs = [.ref p] ∧ Q (.str "own") H
def sp_HeardCall_kind (K : PySem.W.Frag) : Sp := fun vs H Q _ => ∃ (p : Addr), vs = [.ref p] ∧ Q (.str "heard") H
def sp_OneCall_kind (K : PySem.W.Frag) : Sp := fun vs H Q _ => ∃ (p : Addr), vs = [.ref p] ∧ Q (.str "one") H
theorem sc_OwnCall_kind : FnScope ["self"] ["self"] (defScope s_OwnCall_kind) := ⟨rfl, rfl, rfl, by decide +kernel, rfl, by decide +kernel, by decide +kernel⟩
theorem ok_OwnCall_kind {f  : Addr} {fd  : FuncData} (F : Fun K "kind" "OwnCall.kind" s_OwnCall_kind f fd) : FnOk P w K mg base CX0 1 f fd ["self"] (sp_OwnCall_kind K) := by
  refine F.ok sc_OwnCall_kind (fun vs H Q E h => ?_) (fun cdv A outer s H vs Q E hr h => ?_)
  · obtain ⟨p, rfl, _⟩ := h
    rfl
  obtain ⟨p, rfl, h⟩ := h
  have hu64 := hr.units
  have hu0 := hr.units0
  have hu := hu_of hr
  refine ⟨_, (pss_one (ps_ret pe_str)), ?_⟩
  clean_wf
  exact h
theorem sc_HeardCall_kind : FnScope ["self"] ["self"] (defScope s_HeardCall_kind) := ⟨rfl, rfl, rfl, by decide +kernel, rfl, by decide +kernel, by decide +kernel⟩
theorem ok_HeardCall_kind {f  : Addr} {fd  : FuncData} (F : Fun K "kind" "HeardCall.kind" s_HeardCall_kind f fd) : FnOk P w K mg base CX0 1 f fd ["self"] (sp_HeardCall_kind K) := by
  refine F.ok sc_HeardCall_kind (fun vs H Q E h => ?_) (fun cdv A outer s H vs Q E hr h => ?_)
  · obtain ⟨p, rfl, _⟩ := h
    rfl
  obtain ⟨p, rfl, h⟩ := h
  have hu64 := hr.units
  have hu0 := hr.units0
  have hu := hu_of hr
  refine ⟨_, (pss_one (ps_ret pe_str)), ?_⟩
  clean_wf
  exact h
theorem sc_OneCall_kind : FnScope ["self"] ["self"] (defScope s_OneCall_kind) := ⟨rfl, rfl, rfl, by decide +kernel, rfl, by decide +kernel, by decide +kernel⟩
theorem ok_OneCall_kind {f  : Addr} {fd  : FuncData} (F : Fun K "kind" "OneCall.kind" s_OneCall_kind f fd) : FnOk P w K mg base CX0 1 f fd ["self"] (sp_OneCall_kind K) := by
  refine F.ok sc_OneCall_kind (fun vs H Q E h => ?_) (fun cdv A outer s H vs Q E hr h => ?_)
  · obtain ⟨p, rfl, _⟩ := h
    rfl
  obtain ⟨p, rfl, h⟩ := h
  have hu64 := hr.units
  have hu0 := hr.units0
  have hu := hu_of hr
  refine ⟨_, (pss_one (ps_ret pe_str)), ?_⟩
  clean_wf
  exact h

structure CO (K : PySem.W.Frag) (mg : Str → Option Value) (H : Hp) (p : Addr) (kd : Str) (n c k w : Int) (t : Addr) : Prop where
  ob : ∃ C dx, KdC mg kd C ∧ TCall K C ∧ H p = some (.ins C dx (cfl (.int n) (.int c) (.int k) (.int w) (.ref t)))
theorem CO.same {K : PySem.W.Frag} {mg : Str → Option Value} {H H' : Hp} {p : Addr} {kd : Str} {n c k w : Int} {t : Addr} (h : CO K mg H p kd n c k w t) (s : Same H H') : CO K mg H' p kd n c k w t := by
  obtain ⟨C, dx, e1, e2, e3⟩ := h.ob
  exact ⟨C, dx, e1, e2, s _ _ e3⟩
def sp_Call_told (K : PySem.W.Frag) (mg : Str → Option Value) : Sp := fun vs H Q _ => ∃ (p : Addr), vs = [.ref p] ∧ ∃ kd n c k w t, CO K mg H p kd n c k w t ∧ ∀ H' u, Same H H' → H u = none → H' u = some (.tup [.int n, .int c, .int k, .str kd, .int w, .ref t]) → Q (.ref u) H'
theorem sc_Call_told : FnScope ["self"] ["self"] (defScope s_Call_told) := ⟨rfl, rfl, rfl, by decide +kernel, rfl, by decide +kernel, by decide +kernel⟩
set_option maxHeartbeats 1000000 in
theorem ok_Call_told {f f_OwnCall_kind f_HeardCall_kind f_OneCall_kind C_HeardCall C_OneCall C_OwnCall : Addr} {fd fd_OwnCall_kind fd_HeardCall_kind fd_OneCall_kind : FuncData} (F : Fun K "told" "Call.told" s_Call_told f fd)
    (G_OwnCall_kind : FnOk P w K mg base CX0 1 f_OwnCall_kind fd_OwnCall_kind ["self"] (sp_OwnCall_kind K)) (B_OwnCall_kind : Binds K fd_OwnCall_kind ["self"] [])
    (G_HeardCall_kind : FnOk P w K mg base CX0 1 f_HeardCall_kind fd_HeardCall_kind ["self"] (sp_HeardCall_kind K)) (B_HeardCall_kind : Binds K fd_HeardCall_kind ["self"] [])
    (G_OneCall_kind : FnOk P w K mg base CX0 1 f_OneCall_kind fd_OneCall_kind ["self"] (sp_OneCall_kind K)) (B_OneCall_kind : Binds K fd_OneCall_kind ["self"] []) (T_HeardCall : TCall K C_HeardCall) (T_OneCall : TCall K C_OneCall) (T_OwnCall : TCall K C_OwnCall) (m_HeardCall : mg "HeardCall" = some (.ref C_HeardCall)) (m_OneCall : mg "OneCall" = some (.ref C_OneCall)) (m_OwnCall : mg "OwnCall" = some (.ref C_OwnCall)) (mt_HeardCall_kind : Meth K C_HeardCall "kind" f_HeardCall_kind) (mt_OneCall_kind : Meth K C_OneCall "kind" f_OneCall_kind) (mt_OwnCall_kind : Meth K C_OwnCall "kind" f_OwnCall_kind) : FnOk P w K mg base CX0 2 f fd ["self"] (sp_Call_told K mg) := by
  refine F.ok sc_Call_told (fun vs H Q E h => ?_) (fun cdv A outer s H vs Q E hr h => ?_)
  · obtain ⟨p, rfl, _⟩ := h
    rfl
  obtain ⟨p, rfl, h⟩ := h
  have hu64 := hr.units
  have hu0 := hr.units0
  have hu := hu_of hr
  refine ⟨_, (pss_one (ps_ret (pe_tup (pa_cons (pe_fldK (K := K) rfl (pv 0) rfl) (pa_cons (pe_fldK (K := K) rfl (pv 0) rfl) (pa_cons (pe_fldK (K := K) rfl (pv 0) rfl) (pa_cons (pe_methS0 (MOk.cons T_OwnCall.cl mt_OwnCall_kind G_OwnCall_kind B_OwnCall_kind (MOk.cons T_HeardCall.cl mt_HeardCall_kind G_HeardCall_kind B_HeardCall_kind (MOk.cons T_OneCall.cl mt_OneCall_kind G_OneCall_kind B_OneCall_kind MOk.nil))) (pv 0) hr) (pa_cons (pe_fldK (K := K) rfl (pv 0) rfl) (pa_cons (pe_fldK (K := K) rfl (pv 0) rfl) pa_nil))))))))), ?_⟩
  obtain ⟨kd, n, c, k, w', t, ⟨C, dx, hk, hT, hp⟩, kk⟩ := h
  obtain ⟨cl, n1, n2, n3, n4, n5⟩ := id hT
  rcases hk with ⟨rfl, e⟩ | ⟨rfl, e⟩ | ⟨rfl, e⟩
  · rw [m_OwnCall] at e
    cases e
    clean_wf
    refine ⟨p, rfl, ?_⟩
    clean_wf
    intro u H1 hu1 s1 g1
    exact kk H1 u s1 hu1 g1
  · rw [m_HeardCall] at e
    cases e
    clean_wf
    refine ⟨p, rfl, ?_⟩
    clean_wf
    intro u H1 hu1 s1 g1
    exact kk H1 u s1 hu1 g1
  · rw [m_OneCall] at e
    cases e
    clean_wf
    refine ⟨p, rfl, ?_⟩
    clean_wf
    intro u H1 hu1 s1 g1
    exact kk H1 u s1 hu1 g1
def sp__law_whole (K : PySem.W.Frag) : Sp := fun vs H Q _ => ∃ (w : V), vs = [w] ∧ ∃ b, WK H w b ∧ Q (.bl b) H
theorem sc__law_whole : FnScope ["_law_found"] ["_law_found"] (defScope s__law_whole) := ⟨rfl, rfl, rfl, by decide +kernel, rfl, by decide +kernel, by decide +kernel⟩
theorem ok__law_whole {f  : Addr} {fd  : FuncData} (F : Fun K "_law_whole" "_law_whole" s__law_whole f fd) (h_bool : mg "bool" = none) (h_int : mg "int" = none) (h_isinstance : mg "isinstance" = none) : FnOk P w K mg base CX0 1 f fd ["_law_found"] (sp__law_whole K) := by
  refine F.ok sc__law_whole (fun vs H Q E h => ?_) (fun cdv A outer s H vs Q E hr h => ?_)
  · obtain ⟨w, rfl, _⟩ := h
    rfl
  obtain ⟨w, rfl, h⟩ := h
  have hu64 := hr.units
  have hu0 := hr.units0
  have hu := hu_of hr
  refine ⟨_, (pss_one (ps_ret (pe_and (pe_callB (call_isiK (K := K) rfl) (by rfl) h_isinstance PyProof.Rows.boot_isinstance (pa_cons (pv 0) (pa_cons (pe_type h_int PyProof.Rows.boot_int) pa_nil))) (pe_one (pe_not (pe_callB (call_isiK (K := K) rfl) (by rfl) h_isinstance PyProof.Rows.boot_isinstance (pa_cons (pv 0) (pa_cons (pe_type h_bool PyProof.Rows.boot_bool) pa_nil)))))))), ?_⟩
  obtain ⟨b, hw, q⟩ := h
  rcases hw with ⟨i, rfl, rfl⟩ | ⟨⟨x, rfl⟩ | rfl | ⟨x, rfl⟩ | ⟨a, xs, rfl, ha⟩, rfl⟩
  · clean_wf
    refine ⟨_, _, _, true, rfl, .int _, (by kernel_rfl), ?_⟩
    clean_wf
    refine ⟨_, _, _, false, rfl, .int _, (by kernel_rfl), ?_⟩
    clean_wf
    exact q
  · clean_wf
    refine ⟨_, _, _, true, rfl, .bl _, (by kernel_rfl), ?_⟩
    clean_wf
    refine ⟨_, _, _, true, rfl, .bl _, (by kernel_rfl), ?_⟩
    clean_wf
    exact q
  · clean_wf
    refine ⟨_, _, _, false, rfl, .non, (by kernel_rfl), ?_⟩
    clean_wf
    exact q
  · clean_wf
    refine ⟨_, _, _, false, rfl, .str _, (by kernel_rfl), ?_⟩
    clean_wf
    exact q
  · clean_wf
    refine ⟨_, _, _, false, rfl, .tup ha, (by kernel_rfl), ?_⟩
    clean_wf
    exact q
def sp__law_truth (K : PySem.W.Frag) : Sp := fun vs H Q _ => ∃ (f d : Bool), vs = [.bl f, .bl d] ∧ Q (.bl (f == d)) H
theorem sc__law_truth : FnScope ["_law_found", "_law_due_here"] ["_law_found", "_law_due_here"] (defScope s__law_truth) := ⟨rfl, rfl, rfl, by decide +kernel, rfl, by decide +kernel, by decide +kernel⟩
theorem ok__law_truth {f  : Addr} {fd  : FuncData} (F : Fun K "_law_truth" "_law_truth" s__law_truth f fd) : FnOk P w K mg base CX0 1 f fd ["_law_found", "_law_due_here"] (sp__law_truth K) := by
  refine F.ok sc__law_truth (fun vs H Q E h => ?_) (fun cdv A outer s H vs Q E hr h => ?_)
  · obtain ⟨f', d, rfl, _⟩ := h
    rfl
  obtain ⟨f', d, rfl, h⟩ := h
  have hu64 := hr.units
  have hu0 := hr.units0
  have hu := hu_of hr
  refine ⟨_, (pss_cons (ps_if (pt_nameK (K := K) rfl (pv 1)) (pss_one (ps_ret (pe_cmpR op_isB (pv 0) pe_bl (nomark _)))) pss_nil)
      (pss_one (ps_ret (pe_cmpR op_isB (pv 0) pe_bl (nomark _))))), ?_⟩
  cases d with
  | true =>
    clean_wf
    refine ⟨_, _, rfl, rfl, ?_⟩
    clean_wf
    exact h
  | false =>
    clean_wf
    refine ⟨_, _, rfl, rfl, ?_⟩
    clean_wf
    exact h
end
end K11


namespace K11
open PySem L2
abbrev s__law_kind : Stmt := top 20
abbrev s__law_word : Stmt := top 21
section
variable {P : Program} {w : World} {K : PySem.W.Frag} {mg : Str → Option Value} {base : Heap}
theorem at6k (c : Int) : ∃ v : Str, atI [V.str "", V.str "Own", V.str "all", V.str "ones", V.str "one ", V.str "hear"] (c % 6) = some (.str v) ∧ KdN v := by
  have r0 := Int.emod_nonneg c (show (6 : Int) ≠ 0 by decide)
  have r1 := Int.emod_lt_of_pos c (show (0 : Int) < 6 by decide)
  generalize c % 6 = t at *
  rcases (show t = 0 ∨ t = 1 ∨ t = 2 ∨ t = 3 ∨ t = 4 ∨ t = 5 by omega) with w | w | w | w | w | w <;> subst w
  · exact ⟨"", by kernel_rfl, .inl rfl⟩
  · exact ⟨"Own", by kernel_rfl, .inr (.inl rfl)⟩
  · exact ⟨"all", by kernel_rfl, .inr (.inr (.inl rfl))⟩
  · exact ⟨"ones", by kernel_rfl, .inr (.inr (.inr (.inl rfl)))⟩
  · exact ⟨"one ", by kernel_rfl, .inr (.inr (.inr (.inr (.inl rfl))))⟩
  · exact ⟨"hear", by kernel_rfl, .inr (.inr (.inr (.inr (.inr rfl))))⟩
def sp__law_kind (K : PySem.W.Frag) : Sp := fun vs H Q _ => ∃ (c : Int), vs = [.int c] ∧ ∀ H' kd, Same H H' → (KdY kd ∨ KdN kd) → Q (.str kd) H'
theorem sc__law_kind : FnScope ["_law_cell"] ["_law_cell"] (defScope s__law_kind) := ⟨rfl, rfl, rfl, by decide +kernel, rfl, by decide +kernel, by decide +kernel⟩
theorem ok__law_kind {f  : Addr} {fd  : FuncData} (F : Fun K "_law_kind" "_law_kind" s__law_kind f fd) : FnOk P w K mg base CX0 1 f fd ["_law_cell"] (sp__law_kind K) := by
  refine F.ok sc__law_kind (fun vs H Q E h => ?_) (fun cdv A outer s H vs Q E hr h => ?_)
  · obtain ⟨c, rfl, _⟩ := h
    rfl
  obtain ⟨c, rfl, h⟩ := h
  have hu64 := hr.units
  have hu0 := hr.units0
  have hu := hu_of hr
  refine ⟨_, (pss_cons (ps_if (pt_cmpR op_eq (pe_op op_mod (pv 0) pe_int) pe_int (nomark _)) (pss_one (ps_ret (pe_ix (ix_listK (K := K) rfl) (pe_lst (pa_cons pe_str (pa_cons pe_str (pa_cons pe_str (pa_cons pe_str (pa_cons pe_str (pa_cons pe_str pa_nil))))))) (pe_op op_mod (pe_op op_fdiv (pv 0) pe_int) pe_int) (fun _ _ => rfl)))) pss_nil)
      (pss_one (ps_ret (pe_ix (ix_listK (K := K) rfl) (pe_lst (pa_cons pe_str (pa_cons pe_str (pa_cons pe_str pa_nil)))) (pe_op op_mod (pe_op op_fdiv (pv 0) pe_int) pe_int) (fun _ _ => rfl))))), ?_⟩
  have kk := h
  clean_wf
  refine ite2 (fun _ => ?_) fun _ => ?_
  · clean_wf
    intro l H1 hl s1 g1
    have sl := SqL.of (K := K) g1
    obtain ⟨v, e, hv⟩ := at6k (c / 5)
    clean_wf
    exact kk H1 v s1 (.inr hv)
  · clean_wf
    intro l H1 hl s1 g1
    have sl := SqL.of (K := K) g1
    obtain ⟨v, e, hv⟩ := at3s "own" "heard" "one" (c / 5)
    clean_wf
    exact kk H1 v s1 (.inl hv)
theorem WG.int (H : Hp) (i : Int) : WG H (.int i) (decide ((if i < 0 then -i else i) < 10 ^ (60 : Int).toNat)) := .inl ⟨i, rfl, rfl⟩
theorem at6w {H : Hp} {u : Addr} {xs : List V} (g : H u = some (.tup xs)) (c : Int) : ∃ v : V, atI [V.bl true, V.bl false, V.non, V.str "7", V.str "", V.ref u] (c % 6) = some v ∧ NoI H v := by
  have r0 := Int.emod_nonneg c (show (6 : Int) ≠ 0 by decide)
  have r1 := Int.emod_lt_of_pos c (show (0 : Int) < 6 by decide)
  generalize c % 6 = t at *
  rcases (show t = 0 ∨ t = 1 ∨ t = 2 ∨ t = 3 ∨ t = 4 ∨ t = 5 by omega) with w | w | w | w | w | w <;> subst w
  · exact ⟨.bl true, by kernel_rfl, .inl ⟨true, rfl⟩⟩
  · exact ⟨.bl false, by kernel_rfl, .inl ⟨false, rfl⟩⟩
  · exact ⟨.non, by kernel_rfl, .inr (.inl rfl)⟩
  · exact ⟨.str "7", by kernel_rfl, .inr (.inr (.inl ⟨"7", rfl⟩))⟩
  · exact ⟨.str "", by kernel_rfl, .inr (.inr (.inl ⟨"", rfl⟩))⟩
  · exact ⟨.ref u, by kernel_rfl, .inr (.inr (.inr ⟨u, xs, rfl, g⟩))⟩
def sp__law_word (K : PySem.W.Frag) : Sp := fun vs H Q _ => ∃ (c : Int), vs = [.int c] ∧ ∀ H' w g, Same H H' → WG H' w g → Q w H'
theorem sc__law_word : FnScope ["_law_cell", "_law_rest"] ["_law_cell"] (defScope s__law_word) := ⟨rfl, rfl, rfl, by decide +kernel, rfl, by decide +kernel, by decide +kernel⟩
set_option maxHeartbeats 1000000 in
theorem ok__law_word {f  : Addr} {fd  : FuncData} (F : Fun K "_law_word" "_law_word" s__law_word f fd) : FnOk P w K mg base CX0 1 f fd ["_law_cell"] (sp__law_word K) := by
  refine F.ok sc__law_word (fun vs H Q E h => ?_) (fun cdv A outer s H vs Q E hr h => ?_)
  · obtain ⟨c, rfl, _⟩ := h
    rfl
  obtain ⟨c, rfl, h⟩ := h
  have hu64 := hr.units
  have hu0 := hr.units0
  have hu := hu_of hr
  refine ⟨_, (pss_cons (ps_set (i := 1) sc__law_word.nd rfl (Or.inl rfl) (pe_op op_fdiv (pv 0) pe_int))
      (pss_cons (ps_if (pt_cmpR op_eq (pe_op op_mod (pv 0) pe_int) pe_int (nomark _)) (pss_one (ps_ret (pe_ix (ix_listK (K := K) rfl) (pe_lst (pa_cons pe_bl (pa_cons pe_bl (pa_cons pe_non (pa_cons pe_str (pa_cons pe_str (pa_cons (pe_tup (pa_cons pe_int pa_nil)) pa_nil))))))) (pe_op op_mod (pv 1) pe_int) (fun _ _ => rfl)))) pss_nil)
      (pss_cons (ps_if (pt_cmpR op_eq (pe_op op_mod (pv 0) pe_int) pe_int (nomark _)) (pss_one (ps_ret (pe_op op_mul (pe_op op_sub (pe_op op_mul (pe_op op_mod (pv 1) pe_int) pe_int) pe_int) (pe_op op_add (pe_op op_sub (pe_op op_pow pe_int pe_int) pe_int) (pe_op op_mod (pe_op op_fdiv (pv 1) pe_int) pe_int))))) pss_nil)
      (pss_cons (ps_if (pt_cmpR op_eq (pe_op op_mod (pv 0) pe_int) pe_int (nomark _)) (pss_one (ps_ret (pe_op op_sub pe_int (pe_op op_mod (pv 1) (pe_op op_pow pe_int pe_int))))) pss_nil)
      (pss_cons (ps_if (pt_cmpR op_eq (pe_op op_mod (pv 0) pe_int) pe_int (nomark _)) (pss_one (ps_ret (pe_op op_mod (pv 1) pe_int))) pss_nil)
      (pss_one (ps_ret (pe_op op_mod (pv 1) (pe_op op_pow pe_int pe_int))))))))), ?_⟩
  have kk := h
  clean_wf
  refine ite2 (fun _ => ?_) fun _ => ?_
  · clean_wf
    intro u H1 hu1 s1 g1
    clean_wf
    intro l H2 hl s2 g2
    have sl := SqL.of (K := K) g2
    obtain ⟨v, e, hv⟩ := at6w (s2 _ _ g1) (c / 8)
    clean_wf
    exact kk H2 v false (s1.trans s2) (.inr ⟨hv, rfl⟩)
  · clean_wf
    refine ite2 (fun _ => ?_) fun _ => ?_
    · have r0 := Int.emod_nonneg (c / 8) (show (2 : Int) ≠ 0 by decide)
      have r1 := Int.emod_lt_of_pos (c / 8) (show (0 : Int) < 2 by decide)
      have m1 : CMul (c / 8 % 2) 2 := .inl ⟨by omega, by omega⟩
      have m2 : CMul (c / 8 % 2 * 2 - 1) (10 ^ Int.toNat 60 - 2 + c / 8 / 2 % 4) := .inl ⟨by omega, by omega⟩
      clean_wf
      exact kk H _ _ (.refl _) (WG.int H _)
    · clean_wf
      refine ite2 (fun _ => ?_) fun _ => ?_
      · clean_wf
        exact kk H _ _ (.refl _) (WG.int H _)
      · clean_wf
        refine ite2 (fun _ => ?_) fun _ => ?_
        · clean_wf
          exact kk H _ _ (.refl _) (WG.int H _)
        · clean_wf
          exact kk H _ _ (.refl _) (WG.int H _)
end
end K11


namespace K11
open PySem L2
abbrev s__law_causes : Stmt := top 22
abbrev s__law_due : Stmt := top 24
abbrev s_call_of : Stmt := top 15
abbrev s__law_parts_of : Stmt := top 25
section
variable {P : Program} {w : World} {K : PySem.W.Frag} {mg : Str → Option Value} {base : Heap}
theorem prs_up {H H' : Hp} (m : SmH H H') {xs : List V} {ps : List (Int × Int)} (r : Prs H xs ps) : Prs H' xs ps := r.mono fun a xs e => m a _ e
def sp__law_causes (K : PySem.W.Frag) : Sp := fun vs H Q _ => ∃ (c : Int), vs = [.int c] ∧ ∀ H' t xs ps, Same H H' → H' t = some (.tup xs) → Prs H' xs ps → ps.length ≤ 6 → Q (.ref t) H'
theorem sc__law_causes : FnScope ["_law_cell", "_law_found", "_law_hand", "_law_k"] ["_law_cell"] (defScope s__law_causes) := ⟨rfl, rfl, rfl, by decide +kernel, rfl, by decide +kernel, by decide +kernel⟩
set_option maxHeartbeats 1000000 in
theorem ok__law_causes {f  : Addr} {fd  : FuncData} (F : Fun K "_law_causes" "_law_causes" s__law_causes f fd) (h_range : mg "range" = none) (h_tuple : mg "tuple" = none) : FnOk P w K mg base CX0 1 f fd ["_law_cell"] (sp__law_causes K) := by
  refine F.ok sc__law_causes (fun vs H Q E h => ?_) (fun cdv A outer s H vs Q E hr h => ?_)
  · obtain ⟨c, rfl, _⟩ := h
    rfl
  obtain ⟨c, rfl, h⟩ := h
  have hu64 := hr.units
  have hu0 := hr.units0
  have hu := hu_of hr
  refine ⟨_, (pss_cons (ps_set (i := 1) sc__law_causes.nd rfl (Or.inl rfl) (pe_lst pa_nil))
      (pss_cons (ps_set (i := 2) sc__law_causes.nd rfl (Or.inl rfl) (pe_op op_mod (pe_op op_fdiv (pv 0) pe_int) pe_int))
      (pss_cons (ps_for PassesOwn.never rfl (pi_range1 rfl h_range (pa_cons (pe_op op_mod (pv 0) pe_int) pa_nil)) (pg_name (i := 3) sc__law_causes.nd rfl (Or.inl rfl))
      (pss_cons (ps_expr (pe_appendK (K := K) rfl (pe_bm PySem.F.plainAttrs_list PySem.F.slot_list_append PySem.F.type_list_append mt_append (pv 1) (pa_cons (pe_tup (pa_cons (pv 2) (pa_cons (pe_op op_add pe_int (pe_op op_mod (pe_op op_fdivB (pv 0) (pe_op op_add pe_int (pe_op op_mul pe_int (pv 3)))) pe_int)) pa_nil))) pa_nil))))
      (pss_one (ps_set (i := 2) sc__law_causes.nd rfl (Or.inl rfl) (pe_op op_add (pe_op op_add (pv 2) pe_int) (pe_op op_mod (pe_op op_fdivB (pv 0) (pe_op op_add pe_int (pe_op op_mul pe_int (pv 3)))) pe_int))))))
      (pss_one (ps_ret (pe_callTy (call_tupleK (K := K) rfl) (by rfl) h_tuple PyProof.Rows.boot_tuple (pa_cons (pv 1) pa_nil))))))), ?_⟩
  have kk := h
  clean_wf
  intro l H1 hl s1 g1
  clean_wf
  have c6 := Int.emod_nonneg c (show (6 : Int) ≠ 0 by decide)
  have c6' := Int.emod_lt_of_pos c (show (0 : Int) < 6 by decide)
  refine ⟨_, rfl, by omega, by omega, ?_⟩
  refine for_range (fun i σ H' => ∃ v hd xs ps, σ = [some (.int c), some (.ref l), some (.int hd), v] ∧ Same H H' ∧ H' l = some (.lst xs) ∧ Prs H' xs ps ∧ ps.length ≤ i) ⟨none, _, [], [], rfl, s1, g1, .nil, Nat.le_refl _⟩ ?_ ?_
  · rintro i σ H' hi ⟨v, hd, xs, ps, rfl, sm, hl', hx, ln⟩
    have lx := hx.len
    have hi6 : (i : Int) < 6 := by omega
    have d1 : CDivB c (100 + 7 * (0 + (i : Int))) := ⟨by omega, by omega⟩
    have d2 : CDivB c (900 + 11 * (0 + (i : Int))) := ⟨by omega, by omega⟩
    have m1 : CMul 7 (0 + (i : Int)) := .inl ⟨by omega, by omega⟩
    have m2 : CMul 11 (0 + (i : Int)) := .inl ⟨by omega, by omega⟩
    have ls : xs.length < sizeLine := small1000 (by omega)
    clean_wf
    intro t H2 ht s2 g2
    have hl2 := s2 _ _ hl'
    clean_wf
    intro H3 b3 g3
    clean_wf
    have sH : SmH H' H3 := (SmH.same s2).trans (SmH.but b3 hl2 (by intro _ z; cases z))
    refine ⟨_, _, xs ++ [.ref t], ps ++ [(hd, 1 + c / (100 + 7 * (0 + (i : Int))) % 40)], rfl, b3.same (sm.trans s2) hl, g3, Prs.snoc (prs_up sH hx) ⟨t, rfl, b3.of hl2 g2 (by intro z; cases z)⟩, by rw [List.length_append]; exact Nat.succ_le_succ ln⟩
  rintro σ H' ⟨v, hd, xs, ps, rfl, sm, hl', hx, ln⟩
  have sl := SqL.of (K := K) hl'
  clean_wf
  intro t H2 ht s2 g2
  exact kk H2 t xs ps (sm.trans s2) g2 (same_prs s2 hx) (by omega)
def sp__law_due (K : PySem.W.Frag) : Sp := fun vs H Q _ => ∃ (p : Addr), vs = [.ref p] ∧ ∃ (n c k : Int) (kd : Str) (w : V) (t : Addr) (g : Bool), H p = some (.tup [.int n, .int c, .int k, .str kd, w, .ref t]) ∧ WG H w g ∧ (KdY kd ∨ KdN kd) ∧
  ∀ H', Same H H' → (KdN kd → Q (.str "kind") H') ∧ (KdY kd → g = false → Q (.str "word") H') ∧ (KdY kd → g = true → Q (.str "none") H')
theorem x_inY {K : PySem.W.Frag} {H : Hp} {Q : VK} {a : Addr} {kd : Str} (h : KdY kd) (ha : SqL K H a [.str "own", .str "heard", .str "one"]) (q : Q (.bl false) H) : rInP K true (.str kd) (.ref a) H Q := by
  refine ⟨a, _, _, _, rfl, .inl ha, .cons (.str _) (.cons (.str _) (.cons (.str _) .nil)), .str kd, by kernel_rfl, ?_, by show 0 ≤ 60; decide, ?_⟩
  · rcases h with rfl | rfl | rfl <;> kernel_rfl
  · have e : (([.str "own", .str "heard", .str "one"] : List PyData).any fun z => z.eqv (.str kd)) = true := by rcases h with rfl | rfl | rfl <;> kernel_rfl
    show Q (.bl (!_)) H
    rw [e]
    exact q
theorem x_inN {K : PySem.W.Frag} {H : Hp} {Q : VK} {a : Addr} {kd : Str} (h : KdN kd) (ha : SqL K H a [.str "own", .str "heard", .str "one"]) (q : Q (.bl true) H) : rInP K true (.str kd) (.ref a) H Q := by
  refine ⟨a, _, _, _, rfl, .inl ha, .cons (.str _) (.cons (.str _) (.cons (.str _) .nil)), .str kd, by kernel_rfl, ?_, by show 0 ≤ 60; decide, ?_⟩
  · rcases h with rfl | rfl | rfl | rfl | rfl | rfl <;> kernel_rfl
  · have e : (([.str "own", .str "heard", .str "one"] : List PyData).any fun z => z.eqv (.str kd)) = false := by rcases h with rfl | rfl | rfl | rfl | rfl | rfl <;> kernel_rfl
    show Q (.bl (!_)) H
    rw [e]
    exact q
theorem sc__law_due : FnScope ["_law_parts"] ["_law_parts"] (defScope s__law_due) := ⟨rfl, rfl, rfl, by decide +kernel, rfl, by decide +kernel, by decide +kernel⟩
set_option maxHeartbeats 1000000 in
theorem ok__law_due {f f__law_whole : Addr} {fd fd__law_whole : FuncData} (F : Fun K "_law_due" "_law_due" s__law_due f fd)
    (G__law_whole : FnOk P w K mg base CX0 1 f__law_whole fd__law_whole ["_law_found"] (sp__law_whole K)) (C__law_whole : Cal K mg "_law_whole" f__law_whole fd__law_whole ["_law_found"]) : FnOk P w K mg base CX0 2 f fd ["_law_parts"] (sp__law_due K) := by
  refine F.ok sc__law_due (fun vs H Q E h => ?_) (fun cdv A outer s H vs Q E hr h => ?_)
  · obtain ⟨p, rfl, _⟩ := h
    rfl
  obtain ⟨p, rfl, h⟩ := h
  have hu64 := hr.units
  have hu0 := hr.units0
  have hu := hu_of hr
  refine ⟨_, (pss_cons (ps_if (pt_cmpR (op_ninK (K := K) rfl hu64) (pe_ix (ix_tupK (K := K) rfl) (pv 0) pe_int (fun _ _ => rfl)) (pe_lst (pa_cons pe_str (pa_cons pe_str (pa_cons pe_str pa_nil)))) (by rfl)) (pss_one (ps_ret pe_str)) pss_nil)
      (pss_cons (ps_if (PW.pt (pw_or (pt_not (pt_callK K rfl (pcall G__law_whole C__law_whole hr (pa_cons (pe_ix (ix_tupK (K := K) rfl) (pv 0) pe_int (fun _ _ => rfl)) pa_nil)))) (pw_or (pt_cmpR op_ge (pe_ix (ix_tupK (K := K) rfl) (pv 0) pe_int (fun _ _ => rfl)) (pe_op op_pow pe_int pe_int) (nomark _)) (pw_or1 (pt_cmpR op_le (pe_ix (ix_tupK (K := K) rfl) (pv 0) pe_int (fun _ _ => rfl)) (pe_op op_sub pe_int (pe_op op_pow pe_int pe_int)) (nomark _)))))) (pss_one (ps_ret pe_str)) pss_nil)
      (pss_one (ps_ret pe_str)))), ?_⟩
  obtain ⟨n, c, k, kd, w', t, g, hp, hw, hkd, q⟩ := h
  have st := SqT.of (K := K) hp
  have a3 : atI [V.int n, V.int c, V.int k, V.str kd, w', V.ref t] 3 = some (.str kd) := by kernel_rfl
  have a4 : atI [V.int n, V.int c, V.int k, V.str kd, w', V.ref t] 4 = some w' := by kernel_rfl
  refine x_seq ?_
  clean_wf
  intro l H1 hl s1 g1
  have sl := SqL.of (K := K) g1
  have st1 := SqT.of (K := K) (s1 _ _ hp)
  have q1 := q H1 s1
  rcases hkd with hkd | hkd
  rotate_left
  · refine x_inN hkd sl ?_
    refine ⟨_, rfl, ?_⟩
    rw [if_pos rfl]
    clean_wf
    exact q1.1 hkd
  refine x_inY hkd sl ?_
  refine ⟨_, rfl, ?_⟩
  rw [if_neg Bool.false_ne_true]
  refine x_next ?_
  dsimp only
  rcases hw with ⟨i, rfl, rfl⟩ | ⟨hw, rfl⟩
  · clean_wf
    refine ⟨_, rfl, true, .inl ⟨i, rfl, rfl⟩, ?_⟩
    clean_wf
    have np : (0 : Int) < 10 ^ (60 : Int).toNat := by decide +kernel
    refine ite2 (fun h1 => ?_) fun h1 => ?_
    · have h1 : (10 : Int) ^ (60 : Int).toNat ≤ i := of_decide_eq_true h1
      clean_wf
      refine q1.2.1 hkd (decide_eq_false fun z => ?_)
      generalize (10 : Int) ^ (60 : Int).toNat = m at *
      rw [if_neg (by omega)] at z
      omega
    · have h1 : ¬ (10 : Int) ^ (60 : Int).toNat ≤ i := fun z => h1 (decide_eq_true z)
      clean_wf
      refine ite2 (fun h2 => ?_) fun h2 => ?_
      · have h2 : i ≤ 0 - (10 : Int) ^ (60 : Int).toNat := of_decide_eq_true h2
        clean_wf
        refine q1.2.1 hkd (decide_eq_false fun z => ?_)
        generalize (10 : Int) ^ (60 : Int).toNat = m at *
        rw [if_pos (by omega)] at z
        omega
      · have h2 : ¬ i ≤ 0 - (10 : Int) ^ (60 : Int).toNat := fun z => h2 (decide_eq_true z)
        clean_wf
        refine q1.2.2 hkd (decide_eq_true ?_)
        generalize (10 : Int) ^ (60 : Int).toNat = m at *
        split <;> omega
  · clean_wf
    refine ⟨_, rfl, false, .inr ⟨?_, rfl⟩, ?_⟩
    · rcases hw with z | z | z | ⟨a, xs, e, ha⟩
      · exact .inl z
      · exact .inr (.inl z)
      · exact .inr (.inr (.inl z))
      · exact .inr (.inr (.inr ⟨a, xs, e, s1 _ _ ha⟩))
    clean_wf
    exact q1.2.1 hkd rfl
def sp_call_of (K : PySem.W.Frag) (mg : Str → Option Value) : Sp := fun vs H Q _ => ∃ (p : Addr), vs = [.ref p] ∧ ∃ (n c k : Int) (kd : Str) (w : Int) (t : Addr) (xs : List V), H p = some (.tup [.int n, .int c, .int k, .str kd, .int w, .ref t]) ∧ H t = some (.tup xs) ∧ KdY kd ∧ WG H (.int w) true ∧
  ∀ H' p' t', Same H H' → CO K mg H' p' kd n c k w t' → H' t' = some (.tup (if kd = "own" then [] else xs)) → Q (.ref p') H'
theorem sc_call_of : FnScope ["told"] ["told"] (defScope s_call_of) := ⟨rfl, rfl, rfl, by decide +kernel, rfl, by decide +kernel, by decide +kernel⟩
set_option maxHeartbeats 1000000 in
theorem ok_call_of {f f_make_call : Addr} {fd fd_make_call : FuncData} (F : Fun K "call_of" "call_of" s_call_of f fd)
    (G_make_call : FnOk P w K mg base (CXR P w) 4 f_make_call fd_make_call ["number", "caller", "count", "kind", "word", "causes"] (sp_make_call K mg)) (C_make_call : Cal K mg "make_call" f_make_call fd_make_call ["number", "caller", "count", "kind", "word", "causes"]) : FnOk P w K mg base CX0 5 f fd ["told"] (sp_call_of K mg) := by
  refine F.ok sc_call_of (fun vs H Q E h => ?_) (fun cdv A outer s H vs Q E hr h => ?_)
  · obtain ⟨p, rfl, _⟩ := h
    rfl
  obtain ⟨p, rfl, h⟩ := h
  have hu64 := hr.units
  have hu0 := hr.units0
  have hu := hu_of hr
  refine ⟨_, (pss_one (ps_ret (pcall0 G_make_call C_make_call hr (pa_cons (pe_ix (ix_tupK (K := K) rfl) (pv 0) pe_int (fun _ _ => rfl)) (pa_cons (pe_ix (ix_tupK (K := K) rfl) (pv 0) pe_int (fun _ _ => rfl)) (pa_cons (pe_ix (ix_tupK (K := K) rfl) (pv 0) pe_int (fun _ _ => rfl)) (pa_cons (pe_ix (ix_tupK (K := K) rfl) (pv 0) pe_int (fun _ _ => rfl)) (pa_cons (pe_ix (ix_tupK (K := K) rfl) (pv 0) pe_int (fun _ _ => rfl)) (pa_cons (pe_ix (ix_tupK (K := K) rfl) (pv 0) pe_int (fun _ _ => rfl)) pa_nil))))))))), ?_⟩
  obtain ⟨n, c, k, kd, w', t, xs, hp, ht, hkd, hw, q⟩ := h
  have st := SqT.of (K := K) hp
  have a0 : atI [V.int n, V.int c, V.int k, V.str kd, .int w', V.ref t] 0 = some (.int n) := by kernel_rfl
  have a1 : atI [V.int n, V.int c, V.int k, V.str kd, .int w', V.ref t] 1 = some (.int c) := by kernel_rfl
  have a2 : atI [V.int n, V.int c, V.int k, V.str kd, .int w', V.ref t] 2 = some (.int k) := by kernel_rfl
  have a3 : atI [V.int n, V.int c, V.int k, V.str kd, .int w', V.ref t] 3 = some (.str kd) := by kernel_rfl
  have a4 : atI [V.int n, V.int c, V.int k, V.str kd, .int w', V.ref t] 4 = some (.int w') := by kernel_rfl
  have a5 : atI [V.int n, V.int c, V.int k, V.str kd, .int w', V.ref t] 5 = some (.ref t) := by kernel_rfl
  clean_wf
  refine ⟨n, c, k, kd, .int w', t, rfl, xs, true, ht, hw, .inl hkd, fun hN => ?_, (fun _ z => nomatch z), fun _ _ H' p' C dx t' s1 hp' hk hT g1 g2 => ?_⟩
  · exfalso
    rcases hkd with rfl | rfl | rfl <;> rcases hN with z | z | z | z | z | z <;> revert z <;> decide +kernel
  · exact q H' p' t' s1 ⟨C, dx, hk, hT, g1⟩ g2
def sp__law_parts_of (K : PySem.W.Frag) (mg : Str → Option Value) : Sp := fun vs H Q _ => ∃ (p : Addr), vs = [.ref p] ∧ ∃ kd n c k w t, CO K mg H p kd n c k w t ∧ ∀ H' u, Same H H' → H u = none → H' u = some (.tup [.int n, .int c, .int k, .str kd, .int w, .ref t]) → Q (.ref u) H'
theorem sc__law_parts_of : FnScope ["_law_call"] ["_law_call"] (defScope s__law_parts_of) := ⟨rfl, rfl, rfl, by decide +kernel, rfl, by decide +kernel, by decide +kernel⟩
set_option maxHeartbeats 1000000 in
theorem ok__law_parts_of {f f_OwnCall_kind f_HeardCall_kind f_OneCall_kind C_HeardCall C_OneCall C_OwnCall : Addr} {fd fd_OwnCall_kind fd_HeardCall_kind fd_OneCall_kind : FuncData} (F : Fun K "_law_parts_of" "_law_parts_of" s__law_parts_of f fd)
    (G_OwnCall_kind : FnOk P w K mg base CX0 1 f_OwnCall_kind fd_OwnCall_kind ["self"] (sp_OwnCall_kind K)) (B_OwnCall_kind : Binds K fd_OwnCall_kind ["self"] [])
    (G_HeardCall_kind : FnOk P w K mg base CX0 1 f_HeardCall_kind fd_HeardCall_kind ["self"] (sp_HeardCall_kind K)) (B_HeardCall_kind : Binds K fd_HeardCall_kind ["self"] [])
    (G_OneCall_kind : FnOk P w K mg base CX0 1 f_OneCall_kind fd_OneCall_kind ["self"] (sp_OneCall_kind K)) (B_OneCall_kind : Binds K fd_OneCall_kind ["self"] []) (T_HeardCall : TCall K C_HeardCall) (T_OneCall : TCall K C_OneCall) (T_OwnCall : TCall K C_OwnCall) (m_HeardCall : mg "HeardCall" = some (.ref C_HeardCall)) (m_OneCall : mg "OneCall" = some (.ref C_OneCall)) (m_OwnCall : mg "OwnCall" = some (.ref C_OwnCall)) (mt_HeardCall_kind : Meth K C_HeardCall "kind" f_HeardCall_kind) (mt_OneCall_kind : Meth K C_OneCall "kind" f_OneCall_kind) (mt_OwnCall_kind : Meth K C_OwnCall "kind" f_OwnCall_kind) : FnOk P w K mg base CX0 2 f fd ["_law_call"] (sp__law_parts_of K mg) := by
  refine F.ok sc__law_parts_of (fun vs H Q E h => ?_) (fun cdv A outer s H vs Q E hr h => ?_)
  · obtain ⟨p, rfl, _⟩ := h
    rfl
  obtain ⟨p, rfl, h⟩ := h
  have hu64 := hr.units
  have hu0 := hr.units0
  have hu := hu_of hr
  refine ⟨_, (pss_one (ps_ret (pe_tup (pa_cons (pe_fldK (K := K) rfl (pv 0) rfl) (pa_cons (pe_fldK (K := K) rfl (pv 0) rfl) (pa_cons (pe_fldK (K := K) rfl (pv 0) rfl) (pa_cons (pe_methS0 (MOk.cons T_OwnCall.cl mt_OwnCall_kind G_OwnCall_kind B_OwnCall_kind (MOk.cons T_HeardCall.cl mt_HeardCall_kind G_HeardCall_kind B_HeardCall_kind (MOk.cons T_OneCall.cl mt_OneCall_kind G_OneCall_kind B_OneCall_kind MOk.nil))) (pv 0) hr) (pa_cons (pe_fldK (K := K) rfl (pv 0) rfl) (pa_cons (pe_fldK (K := K) rfl (pv 0) rfl) pa_nil))))))))), ?_⟩
  obtain ⟨kd, n, c, k, w', t, ⟨C, dx, hk, hT, hp⟩, kk⟩ := h
  obtain ⟨cl, n1, n2, n3, n4, n5⟩ := id hT
  rcases hk with ⟨rfl, e⟩ | ⟨rfl, e⟩ | ⟨rfl, e⟩
  · rw [m_OwnCall] at e
    cases e
    clean_wf
    refine ⟨p, rfl, ?_⟩
    clean_wf
    intro u H1 hu1 s1 g1
    exact kk H1 u s1 hu1 g1
  · rw [m_HeardCall] at e
    cases e
    clean_wf
    refine ⟨p, rfl, ?_⟩
    clean_wf
    intro u H1 hu1 s1 g1
    exact kk H1 u s1 hu1 g1
  · rw [m_OneCall] at e
    cases e
    clean_wf
    refine ⟨p, rfl, ?_⟩
    clean_wf
    intro u H1 hu1 s1 g1
    exact kk H1 u s1 hu1 g1
end
end K11


namespace K11
open PySem L2
abbrev s__law_class : Stmt := top 26
section
variable {P : Program} {w : World} {K : PySem.W.Frag} {mg : Str → Option Value} {base : Heap}
theorem x_in2 {K : PySem.W.Frag} {H : Hp} {Q : VK} {a : Addr} {kd : Str} {b : Bool} (h : (([.str "heard", .str "one"] : List PyData).any fun z => z.eqv (.str kd)) = b) (hl : (PyData.str kd).canLay0 = true) (ha : SqL K H a [.str "heard", .str "one"]) (q : Q (.bl b) H) : rInP K false (.str kd) (.ref a) H Q := by
  refine ⟨a, _, _, _, rfl, .inl ha, .cons (.str _) (.cons (.str _) .nil), .str kd, by kernel_rfl, hl, by show 0 ≤ 60; decide, ?_⟩
  show Q (.bl _) H
  rw [h]
  exact q
def sp__law_class (K : PySem.W.Frag) (mg : Str → Option Value) : Sp := fun vs H Q _ => ∃ (p : Addr), vs = [.ref p] ∧ ∃ kd n c k w t, CO K mg H p kd n c k w t ∧ ∀ H', Same H H' → Q (.bl true) H'
theorem sc__law_class : FnScope ["_law_call"] ["_law_call"] (defScope s__law_class) := ⟨rfl, rfl, rfl, by decide +kernel, rfl, by decide +kernel, by decide +kernel⟩
set_option maxHeartbeats 2000000 in
theorem ok__law_class {f f_OwnCall_kind f_HeardCall_kind f_OneCall_kind C_Call C_HeardCall C_OneCall C_OwnCall : Addr} {fd fd_OwnCall_kind fd_HeardCall_kind fd_OneCall_kind : FuncData} (F : Fun K "_law_class" "_law_class" s__law_class f fd)
    (G_OwnCall_kind : FnOk P w K mg base CX0 1 f_OwnCall_kind fd_OwnCall_kind ["self"] (sp_OwnCall_kind K)) (B_OwnCall_kind : Binds K fd_OwnCall_kind ["self"] [])
    (G_HeardCall_kind : FnOk P w K mg base CX0 1 f_HeardCall_kind fd_HeardCall_kind ["self"] (sp_HeardCall_kind K)) (B_HeardCall_kind : Binds K fd_HeardCall_kind ["self"] [])
    (G_OneCall_kind : FnOk P w K mg base CX0 1 f_OneCall_kind fd_OneCall_kind ["self"] (sp_OneCall_kind K)) (B_OneCall_kind : Binds K fd_OneCall_kind ["self"] []) (h_isinstance : mg "isinstance" = none) (T_Call : TCall K C_Call) (T_HeardCall : TCall K C_HeardCall) (T_OneCall : TCall K C_OneCall) (T_OwnCall : TCall K C_OwnCall) (m_Call : mg "Call" = some (.ref C_Call)) (m_HeardCall : mg "HeardCall" = some (.ref C_HeardCall)) (m_OneCall : mg "OneCall" = some (.ref C_OneCall)) (m_OwnCall : mg "OwnCall" = some (.ref C_OwnCall)) (mt_HeardCall_kind : Meth K C_HeardCall "kind" f_HeardCall_kind) (mt_OneCall_kind : Meth K C_OneCall "kind" f_OneCall_kind) (mt_OwnCall_kind : Meth K C_OwnCall "kind" f_OwnCall_kind) (in_OwnCall : InsF K C_OwnCall) (in_HeardCall : InsF K C_HeardCall) (in_OneCall : InsF K C_OneCall) (ki_OwnCall_Call : PySem.W.kitOne K (.ref C_OwnCall) (.ref C_Call) = some true) (ki_OwnCall_OwnCall : PySem.W.kitOne K (.ref C_OwnCall) (.ref C_OwnCall) = some true) (ki_OwnCall_HeardCall : PySem.W.kitOne K (.ref C_OwnCall) (.ref C_HeardCall) = some false) (ki_OwnCall_OneCall : PySem.W.kitOne K (.ref C_OwnCall) (.ref C_OneCall) = some false) (ki_HeardCall_Call : PySem.W.kitOne K (.ref C_HeardCall) (.ref C_Call) = some true) (ki_HeardCall_OwnCall : PySem.W.kitOne K (.ref C_HeardCall) (.ref C_OwnCall) = some false) (ki_HeardCall_HeardCall : PySem.W.kitOne K (.ref C_HeardCall) (.ref C_HeardCall) = some true) (ki_HeardCall_OneCall : PySem.W.kitOne K (.ref C_HeardCall) (.ref C_OneCall) = some false) (ki_OneCall_Call : PySem.W.kitOne K (.ref C_OneCall) (.ref C_Call) = some true) (ki_OneCall_OwnCall : PySem.W.kitOne K (.ref C_OneCall) (.ref C_OwnCall) = some false) (ki_OneCall_HeardCall : PySem.W.kitOne K (.ref C_OneCall) (.ref C_HeardCall) = some true) (ki_OneCall_OneCall : PySem.W.kitOne K (.ref C_OneCall) (.ref C_OneCall) = some true) : FnOk P w K mg base CX0 2 f fd ["_law_call"] (sp__law_class K mg) := by
  refine F.ok sc__law_class (fun vs H Q E h => ?_) (fun cdv A outer s H vs Q E hr h => ?_)
  · obtain ⟨p, rfl, _⟩ := h
    rfl
  obtain ⟨p, rfl, h⟩ := h
  have hu64 := hr.units
  have hu0 := hr.units0
  have hu := hu_of hr
  refine ⟨_, (pss_cons (ps_if (PW.pt (pw_or (pt_not (pt_callK K rfl (pe_callB (call_isiC (K := K) rfl) (by rfl) h_isinstance PyProof.Rows.boot_isinstance (pa_cons (pv 0) (pa_cons (pe_glob (v := .ref C_Call) rfl m_Call rfl) pa_nil))))) (pw_or1 (pt_cmpR op_ne (pe_callB (call_isiC (K := K) rfl) (by rfl) h_isinstance PyProof.Rows.boot_isinstance (pa_cons (pv 0) (pa_cons (pe_glob (v := .ref C_OwnCall) rfl m_OwnCall rfl) pa_nil))) (pe_cmpR op_eq (pe_methS0 (MOk.cons T_OwnCall.cl mt_OwnCall_kind G_OwnCall_kind B_OwnCall_kind (MOk.cons T_HeardCall.cl mt_HeardCall_kind G_HeardCall_kind B_HeardCall_kind (MOk.cons T_OneCall.cl mt_OneCall_kind G_OneCall_kind B_OneCall_kind MOk.nil))) (pv 0) hr) pe_str (nomark _)) (nomark _))))) (pss_one (ps_ret pe_bl)) pss_nil)
      (pss_cons (ps_if (pt_cmpR op_ne (pe_callB (call_isiC (K := K) rfl) (by rfl) h_isinstance PyProof.Rows.boot_isinstance (pa_cons (pv 0) (pa_cons (pe_glob (v := .ref C_HeardCall) rfl m_HeardCall rfl) pa_nil))) (pe_cmpR (op_inK (K := K) rfl hu64) (pe_methS0 (MOk.cons T_OwnCall.cl mt_OwnCall_kind G_OwnCall_kind B_OwnCall_kind (MOk.cons T_HeardCall.cl mt_HeardCall_kind G_HeardCall_kind B_HeardCall_kind (MOk.cons T_OneCall.cl mt_OneCall_kind G_OneCall_kind B_OneCall_kind MOk.nil))) (pv 0) hr) (pe_lst (pa_cons pe_str (pa_cons pe_str pa_nil))) (by rfl)) (nomark _)) (pss_one (ps_ret pe_bl)) pss_nil)
      (pss_one (ps_ret (pe_cmpR op_eq (pe_callB (call_isiC (K := K) rfl) (by rfl) h_isinstance PyProof.Rows.boot_isinstance (pa_cons (pv 0) (pa_cons (pe_glob (v := .ref C_OneCall) rfl m_OneCall rfl) pa_nil))) (pe_cmpR op_eq (pe_methS0 (MOk.cons T_OwnCall.cl mt_OwnCall_kind G_OwnCall_kind B_OwnCall_kind (MOk.cons T_HeardCall.cl mt_HeardCall_kind G_HeardCall_kind B_HeardCall_kind (MOk.cons T_OneCall.cl mt_OneCall_kind G_OneCall_kind B_OneCall_kind MOk.nil))) (pv 0) hr) pe_str (nomark _)) (nomark _)))))), ?_⟩
  obtain ⟨kd, n, c, k, w', t, ⟨C, dx, hk, hT, hp⟩, kk⟩ := h
  obtain ⟨cl, n1, n2, n3, n4, n5⟩ := id hT
  rcases hk with ⟨rfl, e⟩ | ⟨rfl, e⟩ | ⟨rfl, e⟩
  · rw [m_OwnCall] at e
    cases e
    refine x_seq ?_
    clean_wf
    refine ⟨_, _, _, true, rfl, in_OwnCall.ty hp cl, ki_OwnCall_Call, ?_⟩
    clean_wf
    refine ⟨_, _, _, true, rfl, in_OwnCall.ty hp cl, ki_OwnCall_OwnCall, ?_⟩
    clean_wf
    refine ⟨p, rfl, ?_⟩
    clean_wf
    rw [eq_oo]
    refine ite2 (fun h => absurd h (by decide)) fun _ => ?_
    clean_wf
    refine ⟨_, _, _, false, rfl, in_OwnCall.ty hp cl, ki_OwnCall_HeardCall, ?_⟩
    clean_wf
    refine ⟨p, rfl, ?_⟩
    clean_wf
    intro l H1 hl s1 g1
    have hp1 := s1 _ _ hp
    refine x_in2 (b := false) (by kernel_rfl) (by kernel_rfl) (SqL.of g1) ?_
    clean_wf
    refine ite2 (fun h => absurd h (by decide)) fun _ => ?_
    clean_wf
    refine ⟨_, _, _, false, rfl, in_OwnCall.ty hp1 cl, ki_OwnCall_OneCall, ?_⟩
    clean_wf
    refine ⟨p, rfl, ?_⟩
    clean_wf
    rw [ne_ow]
    exact kk H1 s1
  · rw [m_HeardCall] at e
    cases e
    refine x_seq ?_
    clean_wf
    refine ⟨_, _, _, true, rfl, in_HeardCall.ty hp cl, ki_HeardCall_Call, ?_⟩
    clean_wf
    refine ⟨_, _, _, false, rfl, in_HeardCall.ty hp cl, ki_HeardCall_OwnCall, ?_⟩
    clean_wf
    refine ⟨p, rfl, ?_⟩
    clean_wf
    rw [ne_oh]
    refine ite2 (fun h => absurd h (by decide)) fun _ => ?_
    clean_wf
    refine ⟨_, _, _, true, rfl, in_HeardCall.ty hp cl, ki_HeardCall_HeardCall, ?_⟩
    clean_wf
    refine ⟨p, rfl, ?_⟩
    clean_wf
    intro l H1 hl s1 g1
    have hp1 := s1 _ _ hp
    refine x_in2 (b := true) (by kernel_rfl) (by kernel_rfl) (SqL.of g1) ?_
    clean_wf
    refine ite2 (fun h => absurd h (by decide)) fun _ => ?_
    clean_wf
    refine ⟨_, _, _, false, rfl, in_HeardCall.ty hp1 cl, ki_HeardCall_OneCall, ?_⟩
    clean_wf
    refine ⟨p, rfl, ?_⟩
    clean_wf
    rw [ne_hw]
    exact kk H1 s1
  · rw [m_OneCall] at e
    cases e
    refine x_seq ?_
    clean_wf
    refine ⟨_, _, _, true, rfl, in_OneCall.ty hp cl, ki_OneCall_Call, ?_⟩
    clean_wf
    refine ⟨_, _, _, false, rfl, in_OneCall.ty hp cl, ki_OneCall_OwnCall, ?_⟩
    clean_wf
    refine ⟨p, rfl, ?_⟩
    clean_wf
    rw [ne_oo]
    refine ite2 (fun h => absurd h (by decide)) fun _ => ?_
    clean_wf
    refine ⟨_, _, _, true, rfl, in_OneCall.ty hp cl, ki_OneCall_HeardCall, ?_⟩
    clean_wf
    refine ⟨p, rfl, ?_⟩
    clean_wf
    intro l H1 hl s1 g1
    have hp1 := s1 _ _ hp
    refine x_in2 (b := true) (by kernel_rfl) (by kernel_rfl) (SqL.of g1) ?_
    clean_wf
    refine ite2 (fun h => absurd h (by decide)) fun _ => ?_
    clean_wf
    refine ⟨_, _, _, true, rfl, in_OneCall.ty hp1 cl, ki_OneCall_OneCall, ?_⟩
    clean_wf
    refine ⟨p, rfl, ?_⟩
    clean_wf
    rw [eq_ww]
    exact kk H1 s1
end
end K11


namespace K11
open PySem L2
abbrev s__law_right : Stmt := top 27
section
variable {P : Program} {w : World} {K : PySem.W.Frag} {mg : Str → Option Value} {base : Heap}

def Tq (H : Hp) (u : Addr) (n c k : Int) (kd : Str) (w : Int) (ps : List (Int × Int)) : Prop := ∃ t xs, H u = some (.tup [.int n, .int c, .int k, .str kd, .int w, .ref t]) ∧ H t = some (.tup xs) ∧ Prs H xs ps
theorem Tq.same {H H' : Hp} {u : Addr} {n c k w : Int} {kd : Str} {ps : List (Int × Int)} (h : Tq H u n c k kd w ps) (s : Same H H') : Tq H' u n c k kd w ps := by
  obtain ⟨t, xs, e1, e2, e3⟩ := h
  exact ⟨t, xs, s _ _ e1, s _ _ e2, same_prs s e3⟩
def tqD (n c k : Int) (kd : Str) (w : Int) (ps : List (Int × Int)) : PyData := .tuple [.int n, .int c, .int k, .str kd, .int w, .tuple (ps.map prD)]
theorem Tq.dp {K : PySem.W.Frag} {H : Hp} {u : Addr} {n c k w : Int} {kd : Str} {ps : List (Int × Int)} (h : Tq H u n c k kd w ps) : Dp K H (.ref u) (tqD n c k kd w ps) := by
  obtain ⟨t, xs, e1, e2, e3⟩ := h
  exact .tup (SqT.of e1) (.cons (.int _) (.cons (.int _) (.cons (.int _) (.cons (.str _) (.cons (.int _) (.cons (.tup (SqT.of e2) e3.dps) .nil))))))
theorem tq_lay {n c k w : Int} {kd : Str} (ps : List (Int × Int)) (h : (PyData.str kd).canLay0 = true) : (tqD n c k kd w ps).canLay0 = true := by
  unfold tqD
  rw [PyData.canLay0.eq_6]
  have e6 : (PyData.tuple (ps.map prD)).canLay0 = true := by
    rw [PyData.canLay0.eq_6]
    exact prs_lay ps
  rw [PyData.canLayAll0.eq_2, PyData.canLayAll0.eq_2, PyData.canLayAll0.eq_2, PyData.canLayAll0.eq_2, PyData.canLayAll0.eq_2, PyData.canLayAll0.eq_2, h, e6]
  rfl
theorem kd_lay {kd : Str} (h : KdY kd) : (PyData.str kd).canLay0 = true := by
  rcases h with rfl | rfl | rfl <;> kernel_rfl
theorem tq_dep {n c k w : Int} {kd : Str} (ps : List (Int × Int)) : (tqD n c k kd w ps).depth ≤ 60 := by
  have := prs_dep ps
  show max 0 (max 0 (max 0 (max 0 (max 0 (max (PyData.depthAll (ps.map prD) + 1) 0))))) + 1 ≤ 60
  omega
theorem tq_ne {K : PySem.W.Frag} {H : Hp} {Q : VK} {u u' : Addr} {n c k w : Int} {kd : Str} {ps : List (Int × Int)} (hk : KdY kd) (h1 : Tq H u n c k kd w ps) (h2 : Tq H u' n c k kd w ps) (q : Q (.bl false) H) : rNeP K (.ref u) (.ref u') H Q := rNeP_refl (.inl h1.dp) (.inl h2.dp) (tq_lay ps (kd_lay hk)) (tq_dep ps) q
theorem tq_eq {K : PySem.W.Frag} {H : Hp} {Q : VK} {u u' : Addr} {n c k w : Int} {kd : Str} {ps : List (Int × Int)} (hk : KdY kd) (h1 : Tq H u n c k kd w ps) (h2 : Tq H u' n c k kd w ps) (q : Q (.bl true) H) : rEqP K (.ref u) (.ref u') H Q := rEqP_refl (.inl h1.dp) (.inl h2.dp) (tq_lay ps (kd_lay hk)) (tq_dep ps) q
theorem kd_no {kd : Str} (hN : KdN kd) (hkd : KdY kd) : False := by
  rcases hkd with rfl | rfl | rfl <;> rcases hN with z | z | z | z | z | z <;> revert z <;> decide +kernel
theorem x_sl3 {K : PySem.W.Frag} {H : Hp} {Q : VK} {a : Addr} {n c k w : Int} {kd : Str} {t : Addr} (h : H a = some (.tup [.int n, .int c, .int k, .str kd, .int w, .ref t])) (q : ∀ p H', H p = none → Same H H' → H' p = some (.tup [.int n, .int c, .int k]) → Q (.ref p) H') : rSlT K (.ref a) none (some 3) H Q :=
  ⟨a, _, rfl, SqT.of h, by show ¬ (HT.sIx 6 0 none = 0 ∧ HT.sIx 6 6 (some 3) = 6); decide, fun p hp => q p _ hp (same_upd hp) upd_same⟩
theorem x_sl5 {K : PySem.W.Frag} {H : Hp} {Q : VK} {a : Addr} {n c k w : Int} {kd : Str} {t : Addr} (h : H a = some (.tup [.int n, .int c, .int k, .str kd, .int w, .ref t])) (q : ∀ p H', H p = none → Same H H' → H' p = some (.tup [.int n, .int c, .int k, .str kd, .int w]) → Q (.ref p) H') : rSlT K (.ref a) none (some 5) H Q :=
  ⟨a, _, rfl, SqT.of h, by show ¬ (HT.sIx 6 0 none = 0 ∧ HT.sIx 6 6 (some 5) = 6); decide, fun p hp => q p _ hp (same_upd hp) upd_same⟩
theorem nm_dp {K : PySem.W.Frag} {H : Hp} {u : Addr} {n c k : Int} (h : H u = some (.tup [.int n, .int c, .int k])) : Dl K H (.ref u) (.tuple [.int n, .int c, .int k]) := .inl (.tup (SqT.of h) (.cons (.int _) (.cons (.int _) (.cons (.int _) .nil))))
def sp__law_right (K : PySem.W.Frag) (mg : Str → Option Value) : Sp := fun vs H Q _ => ∃ (p : Addr), vs = [.ref p] ∧ ∃ (n c k : Int) (kd : Str) (w : V) (t : Addr) (xs : List V) (ps : List (Int × Int)) (g : Bool), H p = some (.tup [.int n, .int c, .int k, .str kd, w, .ref t]) ∧ H t = some (.tup xs) ∧ Prs H xs ps ∧ WG H w g ∧ (KdY kd ∨ KdN kd) ∧ ∀ H', Same H H' → Q (.bl true) H'
theorem WG.same {H H' : Hp} {w : V} {g : Bool} (h : WG H w g) (s : Same H H') : WG H' w g := by
  rcases h with z | ⟨z | z | z | ⟨a, xs, e, ha⟩, e2⟩
  · exact .inl z
  · exact .inr ⟨.inl z, e2⟩
  · exact .inr ⟨.inr (.inl z), e2⟩
  · exact .inr ⟨.inr (.inr (.inl z)), e2⟩
  · exact .inr ⟨.inr (.inr (.inr ⟨a, xs, e, s _ _ ha⟩)), e2⟩
theorem kk_ : decide (("kind" : Str) = "kind") = true := by decide +kernel
theorem ww_ : decide (("word" : Str) = "word") = true := by decide +kernel
theorem nn_ : decide (("none" : Str) = "none") = true := by decide +kernel
theorem kn_ : decide (("kind" : Str) = "none") = false := by decide +kernel
theorem wn_ : decide (("word" : Str) = "none") = false := by decide +kernel
theorem sc__law_right : FnScope ["_law_parts", "_law_call", "_law_due_here", "_law_again"] ["_law_parts"] (defScope s__law_right) := ⟨rfl, rfl, rfl, by decide +kernel, rfl, by decide +kernel, by decide +kernel⟩
set_option maxHeartbeats 4000000 in
theorem ok__law_right {f f_make_call f__law_refusal f_Call_name f_Call_asks_place f_OneCall_asks_place f_Call_told f__law_whole f__law_truth f__law_due f_call_of f__law_parts_of f__law_class C_HeardCall C_OneCall C_OwnCall : Addr} {fd fd_make_call fd__law_refusal fd_Call_name fd_Call_asks_place fd_OneCall_asks_place fd_Call_told fd__law_whole fd__law_truth fd__law_due fd_call_of fd__law_parts_of fd__law_class : FuncData} (F : Fun K "_law_right" "_law_right" s__law_right f fd)
    (G_make_call : FnOk P w K mg base (CXR P w) 5 f_make_call fd_make_call ["number", "caller", "count", "kind", "word", "causes"] (sp_make_call K mg)) (C_make_call : Cal K mg "make_call" f_make_call fd_make_call ["number", "caller", "count", "kind", "word", "causes"])
    (G__law_refusal : FnOk P w K mg base CX0 5 f__law_refusal fd__law_refusal ["_law_parts"] (sp__law_refusal K mg)) (C__law_refusal : Cal K mg "_law_refusal" f__law_refusal fd__law_refusal ["_law_parts"])
    (G_Call_name : FnOk P w K mg base CX0 5 f_Call_name fd_Call_name ["self"] (sp_Call_name K)) (B_Call_name : Binds K fd_Call_name ["self"] [])
    (G_Call_asks_place : FnOk P w K mg base CX0 5 f_Call_asks_place fd_Call_asks_place ["self"] (sp_Call_asks_place K)) (B_Call_asks_place : Binds K fd_Call_asks_place ["self"] [])
    (G_OneCall_asks_place : FnOk P w K mg base CX0 5 f_OneCall_asks_place fd_OneCall_asks_place ["self"] (sp_OneCall_asks_place K)) (B_OneCall_asks_place : Binds K fd_OneCall_asks_place ["self"] [])
    (G_Call_told : FnOk P w K mg base CX0 5 f_Call_told fd_Call_told ["self"] (sp_Call_told K mg)) (B_Call_told : Binds K fd_Call_told ["self"] [])
    (G__law_whole : FnOk P w K mg base CX0 5 f__law_whole fd__law_whole ["_law_found"] (sp__law_whole K)) (C__law_whole : Cal K mg "_law_whole" f__law_whole fd__law_whole ["_law_found"])
    (G__law_truth : FnOk P w K mg base CX0 5 f__law_truth fd__law_truth ["_law_found", "_law_due_here"] (sp__law_truth K)) (C__law_truth : Cal K mg "_law_truth" f__law_truth fd__law_truth ["_law_found", "_law_due_here"])
    (G__law_due : FnOk P w K mg base CX0 5 f__law_due fd__law_due ["_law_parts"] (sp__law_due K)) (C__law_due : Cal K mg "_law_due" f__law_due fd__law_due ["_law_parts"])
    (G_call_of : FnOk P w K mg base CX0 5 f_call_of fd_call_of ["told"] (sp_call_of K mg)) (C_call_of : Cal K mg "call_of" f_call_of fd_call_of ["told"])
    (G__law_parts_of : FnOk P w K mg base CX0 5 f__law_parts_of fd__law_parts_of ["_law_call"] (sp__law_parts_of K mg)) (C__law_parts_of : Cal K mg "_law_parts_of" f__law_parts_of fd__law_parts_of ["_law_call"])
    (G__law_class : FnOk P w K mg base CX0 5 f__law_class fd__law_class ["_law_call"] (sp__law_class K mg)) (C__law_class : Cal K mg "_law_class" f__law_class fd__law_class ["_law_call"]) (h_isinstance : mg "isinstance" = none) (h_tuple : mg "tuple" = none) (T_HeardCall : TCall K C_HeardCall) (T_OneCall : TCall K C_OneCall) (T_OwnCall : TCall K C_OwnCall) (m_HeardCall : mg "HeardCall" = some (.ref C_HeardCall)) (m_OneCall : mg "OneCall" = some (.ref C_OneCall)) (m_OwnCall : mg "OwnCall" = some (.ref C_OwnCall)) (mt_HeardCall_asks_place : Meth K C_HeardCall "asks_place" f_Call_asks_place) (mt_HeardCall_name : Meth K C_HeardCall "name" f_Call_name) (mt_HeardCall_told : Meth K C_HeardCall "told" f_Call_told) (mt_OneCall_asks_place : Meth K C_OneCall "asks_place" f_OneCall_asks_place) (mt_OneCall_name : Meth K C_OneCall "name" f_Call_name) (mt_OneCall_told : Meth K C_OneCall "told" f_Call_told) (mt_OwnCall_asks_place : Meth K C_OwnCall "asks_place" f_Call_asks_place) (mt_OwnCall_name : Meth K C_OwnCall "name" f_Call_name) (mt_OwnCall_told : Meth K C_OwnCall "told" f_Call_told) : FnOk P w K mg base CX0 6 f fd ["_law_parts"] (sp__law_right K mg) := by
  refine F.ok sc__law_right (fun vs H Q E h => ?_) (fun cdv A outer s H vs Q E hr h => ?_)
  · obtain ⟨p, rfl, _⟩ := h
    rfl
  obtain ⟨p, rfl, h⟩ := h
  have hu64 := hr.units
  have hu0 := hr.units0
  have hu := hu_of hr
  refine ⟨_, (pss_cons (ps_if (pt_cmpR op_ne (pcall G__law_refusal C__law_refusal hr (pa_cons (pv 0) pa_nil)) (pcall G__law_due C__law_due hr (pa_cons (pv 0) pa_nil)) (nomark _)) (pss_one (ps_ret pe_bl)) pss_nil)
      (pss_cons (ps_if (pt_cmpR op_ne (pcall G__law_due C__law_due hr (pa_cons (pv 0) pa_nil)) pe_str (nomark _)) (pss_one (ps_ret pe_bl)) pss_nil)
      (pss_cons (ps_set (i := 1) sc__law_right.nd rfl (Or.inl rfl) (pcall0 G_make_call C_make_call hr (pa_cons (pe_ix (ix_tupK (K := K) rfl) (pv 0) pe_int (fun _ _ => rfl)) (pa_cons (pe_ix (ix_tupK (K := K) rfl) (pv 0) pe_int (fun _ _ => rfl)) (pa_cons (pe_ix (ix_tupK (K := K) rfl) (pv 0) pe_int (fun _ _ => rfl)) (pa_cons (pe_ix (ix_tupK (K := K) rfl) (pv 0) pe_int (fun _ _ => rfl)) (pa_cons (pe_ix (ix_tupK (K := K) rfl) (pv 0) pe_int (fun _ _ => rfl)) (pa_cons (pe_ix (ix_tupK (K := K) rfl) (pv 0) pe_int (fun _ _ => rfl)) pa_nil))))))))
      (pss_cons (ps_set (i := 2) sc__law_right.nd rfl (Or.inl rfl) (pv 0))
      (pss_cons (ps_if (pt_cmpR op_eq (pe_ix (ix_tupK (K := K) rfl) (pv 0) pe_int (fun _ _ => rfl)) pe_str (nomark _)) (pss_one (ps_set (i := 2) sc__law_right.nd rfl (Or.inl rfl) (pe_op (op_catTK (K := K) rfl) (pe_slice (sl_tupK (K := K) rfl) (pv 0) po_none (po_some pe_int)) (pe_tup (pa_cons (pe_tup pa_nil) pa_nil))))) pss_nil)
      (pss_cons (ps_if (PW.pt (pw_or (pt_cmpR (op_neK (K := K) rfl hu64) (pcall G__law_parts_of C__law_parts_of hr (pa_cons (pv 1) pa_nil)) (pv 2) (nomark _)) (pw_or (pt_cmpR (op_neK (K := K) rfl hu64) (pe_methS0 (MOk.cons T_OwnCall.cl mt_OwnCall_told G_Call_told B_Call_told (MOk.cons T_HeardCall.cl mt_HeardCall_told G_Call_told B_Call_told (MOk.cons T_OneCall.cl mt_OneCall_told G_Call_told B_Call_told MOk.nil))) (pv 1) hr) (pv 2) (nomark _)) (pw_or1 (pt_not (pt_callK K rfl (pe_callB (call_isiK (K := K) rfl) (by rfl) h_isinstance PyProof.Rows.boot_isinstance (pa_cons (pe_methS0 (MOk.cons T_OwnCall.cl mt_OwnCall_told G_Call_told B_Call_told (MOk.cons T_HeardCall.cl mt_HeardCall_told G_Call_told B_Call_told (MOk.cons T_OneCall.cl mt_OneCall_told G_Call_told B_Call_told MOk.nil))) (pv 1) hr) (pa_cons (pe_type h_tuple PyProof.Rows.boot_tuple) pa_nil))))))))) (pss_one (ps_ret pe_bl)) pss_nil)
      (pss_cons (ps_if (PW.pt (pw_or (pt_not (pt_callK K rfl (pe_callB (call_isiK (K := K) rfl) (by rfl) h_isinstance PyProof.Rows.boot_isinstance (pa_cons (pe_fldK (K := K) rfl (pv 1) rfl) (pa_cons (pe_type h_tuple PyProof.Rows.boot_tuple) pa_nil))))) (pw_or (pt_not (pt_callK K rfl (pcall G__law_whole C__law_whole hr (pa_cons (pe_fldK (K := K) rfl (pv 1) rfl) pa_nil)))) (pw_or1 (pt_not (pt_callK K rfl (pcall G__law_class C__law_class hr (pa_cons (pv 1) pa_nil)))))))) (pss_one (ps_ret pe_bl)) pss_nil)
      (pss_cons (ps_if (PW.pt (pw_or (pt_cmpR (op_neK (K := K) rfl hu64) (pe_methS0 (MOk.cons T_OwnCall.cl mt_OwnCall_name G_Call_name B_Call_name (MOk.cons T_HeardCall.cl mt_HeardCall_name G_Call_name B_Call_name (MOk.cons T_OneCall.cl mt_OneCall_name G_Call_name B_Call_name MOk.nil))) (pv 1) hr) (pe_slice (sl_tupK (K := K) rfl) (pv 2) po_none (po_some pe_int)) (nomark _)) (pw_or1 (pt_not (pt_callK K rfl (pcall G__law_truth C__law_truth hr (pa_cons (pe_methS0 (MOk.cons T_OwnCall.cl mt_OwnCall_asks_place G_Call_asks_place B_Call_asks_place (MOk.cons T_HeardCall.cl mt_HeardCall_asks_place G_Call_asks_place B_Call_asks_place (MOk.cons T_OneCall.cl mt_OneCall_asks_place G_OneCall_asks_place B_OneCall_asks_place MOk.nil))) (pv 1) hr) (pa_cons (pe_cmpR op_eq (pe_ix (ix_tupK (K := K) rfl) (pv 0) pe_int (fun _ _ => rfl)) pe_str (nomark _)) pa_nil)))))))) (pss_one (ps_ret pe_bl)) pss_nil)
      (pss_cons (ps_set (i := 3) sc__law_right.nd rfl (Or.inl rfl) (pcall G_call_of C_call_of hr (pa_cons (pe_methS0 (MOk.cons T_OwnCall.cl mt_OwnCall_told G_Call_told B_Call_told (MOk.cons T_HeardCall.cl mt_HeardCall_told G_Call_told B_Call_told (MOk.cons T_OneCall.cl mt_OneCall_told G_Call_told B_Call_told MOk.nil))) (pv 1) hr) pa_nil)))
      (pss_one (ps_ret (pe_and (pe_cmpR (op_eqK (K := K) rfl hu64) (pe_methS0 (MOk.cons T_OwnCall.cl mt_OwnCall_told G_Call_told B_Call_told (MOk.cons T_HeardCall.cl mt_HeardCall_told G_Call_told B_Call_told (MOk.cons T_OneCall.cl mt_OneCall_told G_Call_told B_Call_told MOk.nil))) (pv 3) hr) (pv 2) (nomark _)) (pe_and (pe_cmpR (op_eqK (K := K) rfl hu64) (pe_methS0 (MOk.cons T_OwnCall.cl mt_OwnCall_name G_Call_name B_Call_name (MOk.cons T_HeardCall.cl mt_HeardCall_name G_Call_name B_Call_name (MOk.cons T_OneCall.cl mt_OneCall_name G_Call_name B_Call_name MOk.nil))) (pv 3) hr) (pe_slice (sl_tupK (K := K) rfl) (pv 2) po_none (po_some pe_int)) (nomark _)) (pe_one (pcall G__law_class C__law_class hr (pa_cons (pv 3) pa_nil)))))))))))))))), ?_⟩
  obtain ⟨n, c, k, kd, w', t, xs, ps, g, hp, ht, hx, hw, hkd, q⟩ := h
  rcases hkd with hY | hN
  rotate_left
  · have no : ∀ {P : Prop}, KdY kd → P := fun hY => (kd_no hN hY).elim
    refine x_seq ?_
    clean_wf
    refine ⟨p, rfl, n, c, k, kd, w', t, xs, g, hp, ht, hw, .inr hN, fun H1 s1 => ⟨fun _ => ?_, (fun h => no h), (fun h => no h)⟩⟩
    clean_wf
    refine ⟨p, rfl, n, c, k, kd, w', t, g, s1 _ _ hp, hw.same s1, .inr hN, fun H2 s2 => ⟨fun _ => ?_, (fun h => no h), (fun h => no h)⟩⟩
    clean_wf
    rw [kk_]
    refine ite2 (fun h => absurd h (by decide)) fun _ => ?_
    clean_wf
    have s02 := s1.trans s2
    refine ⟨p, rfl, n, c, k, kd, w', t, g, s02 _ _ hp, hw.same s02, .inr hN, fun H3 s3 => ⟨fun _ => ?_, (fun h => no h), (fun h => no h)⟩⟩
    clean_wf
    rw [kn_]
    refine ite2 (fun _ => ?_) fun h => absurd rfl h
    clean_wf
    exact q H3 (s02.trans s3)
  have no : ∀ {P : Prop}, KdN kd → P := fun hN => (kd_no hN hY).elim
  cases g with
  | false =>
    refine x_seq ?_
    clean_wf
    refine ⟨p, rfl, n, c, k, kd, w', t, xs, false, hp, ht, hw, .inl hY, fun H1 s1 => ⟨(fun h => no h), fun _ _ => ?_, (fun _ z => nomatch z)⟩⟩
    clean_wf
    refine ⟨p, rfl, n, c, k, kd, w', t, false, s1 _ _ hp, hw.same s1, .inl hY, fun H2 s2 => ⟨(fun h => no h), fun _ _ => ?_, (fun _ z => nomatch z)⟩⟩
    clean_wf
    rw [ww_]
    refine ite2 (fun h => absurd h (by decide)) fun _ => ?_
    clean_wf
    have s02 := s1.trans s2
    refine ⟨p, rfl, n, c, k, kd, w', t, false, s02 _ _ hp, hw.same s02, .inl hY, fun H3 s3 => ⟨(fun h => no h), fun _ _ => ?_, (fun _ z => nomatch z)⟩⟩
    clean_wf
    rw [wn_]
    refine ite2 (fun _ => ?_) fun h => absurd rfl h
    clean_wf
    exact q H3 (s02.trans s3)
  | true =>
    obtain ⟨i, rfl⟩ : ∃ i, w' = .int i := by
      rcases hw with ⟨i, e, _⟩ | ⟨_, z⟩
      · exact ⟨i, e⟩
      · cases z
    refine x_seq ?_
    clean_wf
    refine ⟨p, rfl, n, c, k, kd, _, t, xs, true, hp, ht, hw, .inl hY, fun H1 s1 => ⟨(fun h => no h), (fun _ z => nomatch z), fun _ _ => ?_⟩⟩
    clean_wf
    refine ⟨p, rfl, n, c, k, kd, _, t, true, s1 _ _ hp, hw.same s1, .inl hY, fun H2 s2 => ⟨(fun h => no h), (fun _ z => nomatch z), fun _ _ => ?_⟩⟩
    clean_wf
    rw [nn_]
    refine ite2 (fun h => absurd h (by decide)) fun _ => ?_
    clean_wf
    have s02 := s1.trans s2
    refine ⟨p, rfl, n, c, k, kd, _, t, true, s02 _ _ hp, hw.same s02, .inl hY, fun H3 s3 => ⟨(fun h => no h), (fun _ z => nomatch z), fun _ _ => ?_⟩⟩
    have s03 := s02.trans s3
    have hp3 := s03 _ _ hp
    have st := SqT.of (K := K) hp3
    have a0 : atI [V.int n, V.int c, V.int k, V.str kd, .int i, V.ref t] 0 = some (.int n) := by kernel_rfl
    have a1 : atI [V.int n, V.int c, V.int k, V.str kd, .int i, V.ref t] 1 = some (.int c) := by kernel_rfl
    have a2 : atI [V.int n, V.int c, V.int k, V.str kd, .int i, V.ref t] 2 = some (.int k) := by kernel_rfl
    have a3 : atI [V.int n, V.int c, V.int k, V.str kd, .int i, V.ref t] 3 = some (.str kd) := by kernel_rfl
    have a4 : atI [V.int n, V.int c, V.int k, V.str kd, .int i, V.ref t] 4 = some (.int i) := by kernel_rfl
    have a5 : atI [V.int n, V.int c, V.int k, V.str kd, .int i, V.ref t] 5 = some (.ref t) := by kernel_rfl
    clean_wf
    rw [nn_]
    refine ite2 (fun h => absurd h (by decide)) fun _ => ?_
    clean_wf
    refine ⟨n, c, k, kd, _, t, rfl, xs, true, s03 _ _ ht, hw.same s03, .inl hY, (fun h => no h), (fun _ z => nomatch z), fun _ _ H4 p4 C dx t4 s4 hp4 hk hT g4 g5 => ?_⟩
    have hYY := hY
    rcases hY with rfl | rfl | rfl
    · obtain rfl : C = C_OwnCall := by
        rcases hk with ⟨z, e⟩ | ⟨z, e⟩ | ⟨z, e⟩
        · first | (rw [m_OwnCall] at e; cases e; rfl) | exact absurd z (by decide +kernel)
        · first | (rw [m_OwnCall] at e; cases e; rfl) | exact absurd z (by decide +kernel)
        · first | (rw [m_OwnCall] at e; cases e; rfl) | exact absurd z (by decide +kernel)
      obtain ⟨cl, n1, n2, n3, n4, n5⟩ := id hT
      have co4 : CO K mg H4 p4 "own" n c k i t4 := ⟨_, dx, hk, hT, g4⟩
      rw [if_pos rfl] at g5
      have s04 := s03.trans s4
      have st4 := SqT.of (K := K) (s04 _ _ hp)
      clean_wf
      refine x_seq ?_
      clean_wf
      rw [eq_oo]
      clean_wf
      refine x_sl5 (s04 _ _ hp) fun ua Ha ha sa ga => ?_
      clean_wf
      intro ub Hb hb sb gb
      clean_wf
      intro uc Hc hc sc gc
      refine ⟨ua, uc, _, _, rfl, rfl, SqT.of (sc _ _ (sb _ _ ga)), SqT.of gc, (fun z => nomatch z), by show 5 + 1 ≤ sizeLine; decide +kernel, (fun z => nomatch z), fun _ ud hd => ?_⟩
      have sd := same_upd (o := .tup ([V.int n, V.int c, V.int k, V.str "own", V.int i] ++ [V.ref ub])) hd
      have gd : (upd Hc ud (.tup ([V.int n, V.int c, V.int k, V.str "own", V.int i] ++ [V.ref ub]))) ud = some (.tup [V.int n, V.int c, V.int k, V.str "own", V.int i, V.ref ub]) := upd_same
      generalize upd Hc ud (.tup ([V.int n, V.int c, V.int k, V.str "own", V.int i] ++ [V.ref ub])) = Hd at sd gd ⊢
      have s4d := sa.trans (sb.trans (sc.trans sd))
      have du4 : Tq Hd ud n c k "own" i [] := ⟨ub, [], gd, sd _ _ (sc _ _ gb), .nil⟩
      have co4 := co4.same s4d
      have g4 := s4d _ _ g4
      have g5 := s4d _ _ g5
      have s04 := s04.trans s4d
      clean_wf
      refine ⟨p4, rfl, _, n, c, k, i, t4, co4, fun H5 u5 s5 _ g6 => ?_⟩
      clean_wf
      refine tq_ne hYY ⟨t4, [], g6, s5 _ _ g5, .nil⟩ (du4.same s5) ?_
      refine ⟨_, rfl, ?_⟩
      rw [if_neg Bool.false_ne_true]
      have hp5 := s5 _ _ g4
      clean_wf
      refine ⟨p4, rfl, _, n, c, k, i, t4, co4.same s5, fun H6 u6 s6 _ g7 => ?_⟩
      have s46 := s5.trans s6
      clean_wf
      refine tq_ne hYY ⟨t4, [], g7, s46 _ _ g5, .nil⟩ (du4.same s46) ?_
      refine ⟨_, rfl, ?_⟩
      rw [if_neg Bool.false_ne_true]
      have hp6 := s46 _ _ g4
      clean_wf
      refine ⟨p4, rfl, _, n, c, k, i, t4, co4.same s46, fun H7 u7 s7 _ g8 => ?_⟩
      have s47 := s46.trans s7
      clean_wf
      refine ⟨_, _, _, true, rfl, .tup g8, (by kernel_rfl), ?_⟩
      have hp7 := s47 _ _ g4
      clean_wf
      refine ⟨_, _, _, true, rfl, .tup (s47 _ _ g5), (by kernel_rfl), ?_⟩
      clean_wf
      refine ⟨_, rfl, true, .inl ⟨i, rfl, rfl⟩, ?_⟩
      clean_wf
      refine ⟨p4, rfl, _, n, c, k, i, t4, co4.same s47, fun H8 s8 => ?_⟩
      have s48 := s47.trans s8
      have hp8 := s48 _ _ g4
      clean_wf
      refine ⟨p4, rfl, _, dx, _, _, _, _, _, hT, hp8, fun H9 u9 s9 _ g9 => ?_⟩
      have s49 := s48.trans s9
      obtain ⟨td, xd, d1, d2, d3⟩ := du4.same s49
      have sd9 := SqT.of (K := K) d1
      clean_wf
      refine x_sl3 d1 fun u10 H10 h10 s10 g10 => ?_
      refine rNeP_refl (nm_dp (s10 _ _ g9)) (nm_dp g10) rfl (by show 1 ≤ 60; decide) ?_
      refine ⟨_, rfl, ?_⟩
      rw [if_neg Bool.false_ne_true]
      have s410 := s49.trans s10
      have hp10 := s410 _ _ g4
      have stp10 := SqT.of (K := K) (s410 _ _ (s04 _ _ hp))
      clean_wf
      refine ⟨p4, rfl, ?_⟩
      clean_wf
      refine ⟨_, _, rfl, ?_⟩
      rw [ne_ow, show (false == false) = true from rfl]
      clean_wf
      refine ⟨p4, rfl, _, n, c, k, i, t4, co4.same s410, fun H11 u11 s11 _ g11 => ?_⟩
      have s411 := s410.trans s11
      clean_wf
      refine ⟨u11, rfl, n, c, k, _, i, t4, [], g11, s411 _ _ g5, hYY, (hw.same s04).same s411, fun H12 p12 t12 s12 co12 g12 => ?_⟩
      rw [if_pos rfl] at g12
      have s412 := s411.trans s12
      obtain ⟨C12, dx12, hk12, hT12, hp12⟩ := id co12.ob
      obtain rfl : C12 = C := by
        rcases hk12 with ⟨z, e⟩ | ⟨z, e⟩ | ⟨z, e⟩
        · first | (rw [m_OwnCall] at e; cases e; rfl) | exact absurd z (by decide +kernel)
        · first | (rw [m_OwnCall] at e; cases e; rfl) | exact absurd z (by decide +kernel)
        · first | (rw [m_OwnCall] at e; cases e; rfl) | exact absurd z (by decide +kernel)
      clean_wf
      refine ⟨p12, rfl, _, n, c, k, i, t12, co12, fun H13 u13 s13 _ g13 => ?_⟩
      have s413 := s412.trans s13
      clean_wf
      refine tq_eq hYY ⟨t12, [], g13, s13 _ _ g12, .nil⟩ (du4.same s413) ?_
      refine ⟨true, rfl, ?_⟩
      rw [if_pos rfl]
      have hp13 := s13 _ _ hp12
      clean_wf
      refine ⟨p12, rfl, _, dx12, _, _, _, _, _, hT12, hp13, fun H14 u14 s14 _ g14 => ?_⟩
      have s414 := s413.trans s14
      obtain ⟨te, xe, e1, e2, e3⟩ := du4.same s414
      clean_wf
      refine x_sl3 e1 fun u15 H15 h15 s15 g15 => ?_
      refine rEqP_refl (nm_dp (s15 _ _ g14)) (nm_dp g15) rfl (by show 1 ≤ 60; decide) ?_
      refine ⟨true, rfl, ?_⟩
      rw [if_pos rfl]
      have s415 := s414.trans s15
      clean_wf
      refine ⟨p12, rfl, _, n, c, k, i, t12, co12.same (s13.trans (s14.trans s15)), fun H16 s16 => ?_⟩
      exact q H16 (s04.trans (s415.trans s16))
    · obtain rfl : C = C_HeardCall := by
        rcases hk with ⟨z, e⟩ | ⟨z, e⟩ | ⟨z, e⟩
        · first | (rw [m_HeardCall] at e; cases e; rfl) | exact absurd z (by decide +kernel)
        · first | (rw [m_HeardCall] at e; cases e; rfl) | exact absurd z (by decide +kernel)
        · first | (rw [m_HeardCall] at e; cases e; rfl) | exact absurd z (by decide +kernel)
      obtain ⟨cl, n1, n2, n3, n4, n5⟩ := id hT
      have co4 : CO K mg H4 p4 "heard" n c k i t4 := ⟨_, dx, hk, hT, g4⟩
      rw [if_neg (by decide +kernel)] at g5
      have s04 := s03.trans s4
      have st4 := SqT.of (K := K) (s04 _ _ hp)
      have du4 : Tq H4 p n c k "heard" i ps := ⟨t, xs, s04 _ _ hp, s04 _ _ ht, same_prs s04 hx⟩
      have hx4 := same_prs s04 hx
      clean_wf
      refine x_seq ?_
      clean_wf
      rw [ne_oh]
      clean_wf
      refine ⟨p4, rfl, _, n, c, k, i, t4, co4, fun H5 u5 s5 _ g6 => ?_⟩
      clean_wf
      refine tq_ne hYY ⟨t4, xs, g6, s5 _ _ g5, same_prs s5 hx4⟩ (du4.same s5) ?_
      refine ⟨_, rfl, ?_⟩
      rw [if_neg Bool.false_ne_true]
      have hp5 := s5 _ _ g4
      clean_wf
      refine ⟨p4, rfl, _, n, c, k, i, t4, co4.same s5, fun H6 u6 s6 _ g7 => ?_⟩
      have s46 := s5.trans s6
      clean_wf
      refine tq_ne hYY ⟨t4, xs, g7, s46 _ _ g5, same_prs s46 hx4⟩ (du4.same s46) ?_
      refine ⟨_, rfl, ?_⟩
      rw [if_neg Bool.false_ne_true]
      have hp6 := s46 _ _ g4
      clean_wf
      refine ⟨p4, rfl, _, n, c, k, i, t4, co4.same s46, fun H7 u7 s7 _ g8 => ?_⟩
      have s47 := s46.trans s7
      clean_wf
      refine ⟨_, _, _, true, rfl, .tup g8, (by kernel_rfl), ?_⟩
      have hp7 := s47 _ _ g4
      clean_wf
      refine ⟨_, _, _, true, rfl, .tup (s47 _ _ g5), (by kernel_rfl), ?_⟩
      clean_wf
      refine ⟨_, rfl, true, .inl ⟨i, rfl, rfl⟩, ?_⟩
      clean_wf
      refine ⟨p4, rfl, _, n, c, k, i, t4, co4.same s47, fun H8 s8 => ?_⟩
      have s48 := s47.trans s8
      have hp8 := s48 _ _ g4
      clean_wf
      refine ⟨p4, rfl, _, dx, _, _, _, _, _, hT, hp8, fun H9 u9 s9 _ g9 => ?_⟩
      have s49 := s48.trans s9
      obtain ⟨td, xd, d1, d2, d3⟩ := du4.same s49
      have sd9 := SqT.of (K := K) d1
      clean_wf
      refine x_sl3 d1 fun u10 H10 h10 s10 g10 => ?_
      refine rNeP_refl (nm_dp (s10 _ _ g9)) (nm_dp g10) rfl (by show 1 ≤ 60; decide) ?_
      refine ⟨_, rfl, ?_⟩
      rw [if_neg Bool.false_ne_true]
      have s410 := s49.trans s10
      have hp10 := s410 _ _ g4
      have stp10 := SqT.of (K := K) (s410 _ _ (s04 _ _ hp))
      clean_wf
      refine ⟨p4, rfl, ?_⟩
      clean_wf
      refine ⟨_, _, rfl, ?_⟩
      rw [ne_hw, show (false == false) = true from rfl]
      clean_wf
      refine ⟨p4, rfl, _, n, c, k, i, t4, co4.same s410, fun H11 u11 s11 _ g11 => ?_⟩
      have s411 := s410.trans s11
      clean_wf
      refine ⟨u11, rfl, n, c, k, _, i, t4, xs, g11, s411 _ _ g5, hYY, (hw.same s04).same s411, fun H12 p12 t12 s12 co12 g12 => ?_⟩
      rw [if_neg (by decide +kernel)] at g12
      have s412 := s411.trans s12
      obtain ⟨C12, dx12, hk12, hT12, hp12⟩ := id co12.ob
      obtain rfl : C12 = C := by
        rcases hk12 with ⟨z, e⟩ | ⟨z, e⟩ | ⟨z, e⟩
        · first | (rw [m_HeardCall] at e; cases e; rfl) | exact absurd z (by decide +kernel)
        · first | (rw [m_HeardCall] at e; cases e; rfl) | exact absurd z (by decide +kernel)
        · first | (rw [m_HeardCall] at e; cases e; rfl) | exact absurd z (by decide +kernel)
      clean_wf
      refine ⟨p12, rfl, _, n, c, k, i, t12, co12, fun H13 u13 s13 _ g13 => ?_⟩
      have s413 := s412.trans s13
      clean_wf
      refine tq_eq hYY ⟨t12, xs, g13, s13 _ _ g12, same_prs s413 hx4⟩ (du4.same s413) ?_
      refine ⟨true, rfl, ?_⟩
      rw [if_pos rfl]
      have hp13 := s13 _ _ hp12
      clean_wf
      refine ⟨p12, rfl, _, dx12, _, _, _, _, _, hT12, hp13, fun H14 u14 s14 _ g14 => ?_⟩
      have s414 := s413.trans s14
      obtain ⟨te, xe, e1, e2, e3⟩ := du4.same s414
      clean_wf
      refine x_sl3 e1 fun u15 H15 h15 s15 g15 => ?_
      refine rEqP_refl (nm_dp (s15 _ _ g14)) (nm_dp g15) rfl (by show 1 ≤ 60; decide) ?_
      refine ⟨true, rfl, ?_⟩
      rw [if_pos rfl]
      have s415 := s414.trans s15
      clean_wf
      refine ⟨p12, rfl, _, n, c, k, i, t12, co12.same (s13.trans (s14.trans s15)), fun H16 s16 => ?_⟩
      exact q H16 (s04.trans (s415.trans s16))
    · obtain rfl : C = C_OneCall := by
        rcases hk with ⟨z, e⟩ | ⟨z, e⟩ | ⟨z, e⟩
        · first | (rw [m_OneCall] at e; cases e; rfl) | exact absurd z (by decide +kernel)
        · first | (rw [m_OneCall] at e; cases e; rfl) | exact absurd z (by decide +kernel)
        · first | (rw [m_OneCall] at e; cases e; rfl) | exact absurd z (by decide +kernel)
      obtain ⟨cl, n1, n2, n3, n4, n5⟩ := id hT
      have co4 : CO K mg H4 p4 "one" n c k i t4 := ⟨_, dx, hk, hT, g4⟩
      rw [if_neg (by decide +kernel)] at g5
      have s04 := s03.trans s4
      have st4 := SqT.of (K := K) (s04 _ _ hp)
      have du4 : Tq H4 p n c k "one" i ps := ⟨t, xs, s04 _ _ hp, s04 _ _ ht, same_prs s04 hx⟩
      have hx4 := same_prs s04 hx
      clean_wf
      refine x_seq ?_
      clean_wf
      rw [ne_oo]
      clean_wf
      refine ⟨p4, rfl, _, n, c, k, i, t4, co4, fun H5 u5 s5 _ g6 => ?_⟩
      clean_wf
      refine tq_ne hYY ⟨t4, xs, g6, s5 _ _ g5, same_prs s5 hx4⟩ (du4.same s5) ?_
      refine ⟨_, rfl, ?_⟩
      rw [if_neg Bool.false_ne_true]
      have hp5 := s5 _ _ g4
      clean_wf
      refine ⟨p4, rfl, _, n, c, k, i, t4, co4.same s5, fun H6 u6 s6 _ g7 => ?_⟩
      have s46 := s5.trans s6
      clean_wf
      refine tq_ne hYY ⟨t4, xs, g7, s46 _ _ g5, same_prs s46 hx4⟩ (du4.same s46) ?_
      refine ⟨_, rfl, ?_⟩
      rw [if_neg Bool.false_ne_true]
      have hp6 := s46 _ _ g4
      clean_wf
      refine ⟨p4, rfl, _, n, c, k, i, t4, co4.same s46, fun H7 u7 s7 _ g8 => ?_⟩
      have s47 := s46.trans s7
      clean_wf
      refine ⟨_, _, _, true, rfl, .tup g8, (by kernel_rfl), ?_⟩
      have hp7 := s47 _ _ g4
      clean_wf
      refine ⟨_, _, _, true, rfl, .tup (s47 _ _ g5), (by kernel_rfl), ?_⟩
      clean_wf
      refine ⟨_, rfl, true, .inl ⟨i, rfl, rfl⟩, ?_⟩
      clean_wf
      refine ⟨p4, rfl, _, n, c, k, i, t4, co4.same s47, fun H8 s8 => ?_⟩
      have s48 := s47.trans s8
      have hp8 := s48 _ _ g4
      clean_wf
      refine ⟨p4, rfl, _, dx, _, _, _, _, _, hT, hp8, fun H9 u9 s9 _ g9 => ?_⟩
      have s49 := s48.trans s9
      obtain ⟨td, xd, d1, d2, d3⟩ := du4.same s49
      have sd9 := SqT.of (K := K) d1
      clean_wf
      refine x_sl3 d1 fun u10 H10 h10 s10 g10 => ?_
      refine rNeP_refl (nm_dp (s10 _ _ g9)) (nm_dp g10) rfl (by show 1 ≤ 60; decide) ?_
      refine ⟨_, rfl, ?_⟩
      rw [if_neg Bool.false_ne_true]
      have s410 := s49.trans s10
      have hp10 := s410 _ _ g4
      have stp10 := SqT.of (K := K) (s410 _ _ (s04 _ _ hp))
      clean_wf
      refine ⟨p4, rfl, ?_⟩
      clean_wf
      refine ⟨_, _, rfl, ?_⟩
      rw [eq_ww, show (true == true) = true from rfl]
      clean_wf
      refine ⟨p4, rfl, _, n, c, k, i, t4, co4.same s410, fun H11 u11 s11 _ g11 => ?_⟩
      have s411 := s410.trans s11
      clean_wf
      refine ⟨u11, rfl, n, c, k, _, i, t4, xs, g11, s411 _ _ g5, hYY, (hw.same s04).same s411, fun H12 p12 t12 s12 co12 g12 => ?_⟩
      rw [if_neg (by decide +kernel)] at g12
      have s412 := s411.trans s12
      obtain ⟨C12, dx12, hk12, hT12, hp12⟩ := id co12.ob
      obtain rfl : C12 = C := by
        rcases hk12 with ⟨z, e⟩ | ⟨z, e⟩ | ⟨z, e⟩
        · first | (rw [m_OneCall] at e; cases e; rfl) | exact absurd z (by decide +kernel)
        · first | (rw [m_OneCall] at e; cases e; rfl) | exact absurd z (by decide +kernel)
        · first | (rw [m_OneCall] at e; cases e; rfl) | exact absurd z (by decide +kernel)
      clean_wf
      refine ⟨p12, rfl, _, n, c, k, i, t12, co12, fun H13 u13 s13 _ g13 => ?_⟩
      have s413 := s412.trans s13
      clean_wf
      refine tq_eq hYY ⟨t12, xs, g13, s13 _ _ g12, same_prs s413 hx4⟩ (du4.same s413) ?_
      refine ⟨true, rfl, ?_⟩
      rw [if_pos rfl]
      have hp13 := s13 _ _ hp12
      clean_wf
      refine ⟨p12, rfl, _, dx12, _, _, _, _, _, hT12, hp13, fun H14 u14 s14 _ g14 => ?_⟩
      have s414 := s413.trans s14
      obtain ⟨te, xe, e1, e2, e3⟩ := du4.same s414
      clean_wf
      refine x_sl3 e1 fun u15 H15 h15 s15 g15 => ?_
      refine rEqP_refl (nm_dp (s15 _ _ g14)) (nm_dp g15) rfl (by show 1 ≤ 60; decide) ?_
      refine ⟨true, rfl, ?_⟩
      rw [if_pos rfl]
      have s415 := s414.trans s15
      clean_wf
      refine ⟨p12, rfl, _, n, c, k, i, t12, co12.same (s13.trans (s14.trans s15)), fun H16 s16 => ?_⟩
      exact q H16 (s04.trans (s415.trans s16))
end
end K11


namespace K11
open PySem L2
abbrev s_law : Stmt := top 28
section
variable {P : Program} {w : World} {K : PySem.W.Frag} {mg : Str → Option Value} {base : Heap}
theorem smF : ∀ m : Fin 64, Builtin.Range.small 0 (m.1 : Int) 6 = true := by decide +kernel
theorem sm6 {m : Int} (h0 : 0 ≤ m) (h1 : m < 64) : Builtin.Range.small 0 m 6 = true := by
  have := smF ⟨m.toNat, by omega⟩
  rw [show ((m.toNat : Nat) : Int) = m by omega] at this
  exact this
def sp_law (K : PySem.W.Frag) : Sp := fun vs H Q _ => ∃ (a : Addr) (ns : List Int), vs = [.ref a] ∧ SqL K H a (ns.map V.int) ∧ ns.length ≤ 63 ∧ ∀ H', Q (.bl true) H'
theorem sc_law : FnScope ["_law_script", "_law_k", "_law_cells", "_law_parts"] ["_law_script"] (defScope s_law) := ⟨rfl, rfl, rfl, by decide +kernel, rfl, by decide +kernel, by decide +kernel⟩
set_option maxHeartbeats 4000000 in
theorem ok_law {f f__law_cell_at f__law_kind f__law_word f__law_causes f__law_right : Addr} {fd fd__law_cell_at fd__law_kind fd__law_word fd__law_causes fd__law_right : FuncData} (F : Fun K "law" "law" s_law f fd)
    (G__law_cell_at : FnOk P w K mg base CX0 6 f__law_cell_at fd__law_cell_at ["_law_script", "_law_k"] (sp__law_cell_at K)) (C__law_cell_at : Cal K mg "_law_cell_at" f__law_cell_at fd__law_cell_at ["_law_script", "_law_k"])
    (G__law_kind : FnOk P w K mg base CX0 6 f__law_kind fd__law_kind ["_law_cell"] (sp__law_kind K)) (C__law_kind : Cal K mg "_law_kind" f__law_kind fd__law_kind ["_law_cell"])
    (G__law_word : FnOk P w K mg base CX0 6 f__law_word fd__law_word ["_law_cell"] (sp__law_word K)) (C__law_word : Cal K mg "_law_word" f__law_word fd__law_word ["_law_cell"])
    (G__law_causes : FnOk P w K mg base CX0 6 f__law_causes fd__law_causes ["_law_cell"] (sp__law_causes K)) (C__law_causes : Cal K mg "_law_causes" f__law_causes fd__law_causes ["_law_cell"])
    (G__law_right : FnOk P w K mg base CX0 6 f__law_right fd__law_right ["_law_parts"] (sp__law_right K mg)) (C__law_right : Cal K mg "_law_right" f__law_right fd__law_right ["_law_parts"]) (h_len : mg "len" = none) (h_max : mg "max" = none) (h_range : mg "range" = none) : FnOk P w K mg base CX0 7 f fd ["_law_script"] (sp_law K) := by
  refine F.ok sc_law (fun vs H Q E h => ?_) (fun cdv A outer s H vs Q E hr h => ?_)
  · obtain ⟨sa, ks, rfl, _⟩ := h
    rfl
  obtain ⟨sa, ks, rfl, h⟩ := h
  have hu64 := hr.units
  have hu0 := hr.units0
  have hu := hu_of hr
  refine ⟨_, (pss_cons (ps_for PassesOwn.never rfl (pi_range3 rfl h_range (pa_cons pe_int (pa_cons (pe_callB (call_max2 rfl) (by rfl) h_max PyProof.Rows.boot_max (pa_cons pe_int (pa_cons (pe_callB (call_lenK (K := K) rfl) (by rfl) h_len PySem.boot_len (pa_cons (pe_slice (sl_listK (K := K) rfl) (pv 0) po_none (po_some pe_int)) pa_nil)) pa_nil))) (pa_cons pe_int pa_nil)))) (pg_name (i := 1) sc_law.nd rfl (Or.inr rfl))
      (pss_cons (ps_comp (i := 2) ["_law_script", "_law_k", "_law_j"] [some 0, some 1, none] sc_law.nd rfl (Or.inl rfl) rfl rfl (by kernel_rfl) (pi_range1 rfl h_range (pa_cons pe_int pa_nil)) (fun _ _ _ _ _ nd => pg_name (i := 2) nd rfl (Or.inl rfl)) (fun _ _ _ _ _ => pif_nil) (fun _ _ _ _ _ => (pcall G__law_cell_at C__law_cell_at hr (pa_cons (pv 0) (pa_cons (pe_op op_add (pv 1) (pv 2)) pa_nil)))))
      (pss_cons (ps_set (i := 3) sc_law.nd rfl (Or.inl rfl) (pe_tup (pa_cons (pe_op op_mod (pe_ix (ix_listK (K := K) rfl) (pv 2) pe_int (fun _ _ => rfl)) (pe_op op_pow pe_int pe_int)) (pa_cons (pe_op op_mod (pe_ix (ix_listK (K := K) rfl) (pv 2) pe_int (fun _ _ => rfl)) pe_int) (pa_cons (pe_op op_add pe_int (pe_op op_mod (pe_ix (ix_listK (K := K) rfl) (pv 2) pe_int (fun _ _ => rfl)) pe_int)) (pa_cons (pcall G__law_kind C__law_kind hr (pa_cons (pe_ix (ix_listK (K := K) rfl) (pv 2) pe_int (fun _ _ => rfl)) pa_nil)) pa_nil))))))
      (pss_one (ps_if (pt_not (pt_callK K rfl (pcall G__law_right C__law_right hr (pa_cons (pe_op (op_catTK (K := K) rfl) (pv 3) (pe_tup (pa_cons (pcall G__law_word C__law_word hr (pa_cons (pe_ix (ix_listK (K := K) rfl) (pv 2) pe_int (fun _ _ => rfl)) pa_nil)) (pa_cons (pcall G__law_causes C__law_causes hr (pa_cons (pe_ix (ix_listK (K := K) rfl) (pv 2) pe_int (fun _ _ => rfl)) pa_nil)) pa_nil)))) pa_nil)))) (pss_one (ps_ret pe_bl)) pss_nil)))))
      (pss_one (ps_ret pe_bl))), ?_⟩
  obtain ⟨hS, hlen, kk⟩ := h
  clean_wf
  unfold iRng3
  clean_wf
  intro l H1 hl s1 g1
  have sl := SqL.of (K := K) g1
  have ln := cutV_length (ks.map V.int) none (some 36)
  rw [List.length_map] at ln
  generalize cutV (ks.map V.int) none (some 36) = ys at g1 sl ln
  have hS1 := s1.seq hS
  clean_wf
  refine ⟨1, _, rfl, ?_⟩
  clean_wf
  refine ⟨0, _, 6, rfl, by decide, by decide, sm6 (by split <;> omega) (by split <;> omega), ?_⟩
  refine for_step (fun i σ B => ∃ v1 v2 v3, σ = [some (.ref sa), v1, v2, v3] ∧ Same H B) ⟨none, none, none, rfl, s1⟩ ?_ ?_
  · rintro i σ B hi ⟨v1, v2, v3, rfl, sB⟩
    have hSB := sB.seq hS
    clean_wf
    refine ⟨6, rfl, by decide, by decide, fun D hD => ?_⟩
    refine comp_range (fun t σ A => ∃ v, ∃ cs : List Int, σ = [some (.ref sa), some (.int (0 + (i : Int) * 6)), v] ∧ Same B A ∧ A D = some (.lst (cs.map V.int)) ∧ cs.length = t) ⟨none, [], rfl, same_upd hD, upd_same, rfl⟩ ?_ ?_
    · rintro t σ A ht ⟨v, cs, rfl, sA, hDx, lc⟩
      have ht6 : t < 6 := by simpa using ht
      clean_wf
      refine ⟨sa, _, rfl, ks, sA.seq hSB, by omega, fun c => ?_⟩
      clean_wf
      refine ⟨_, hDx, small1000 (by rw [List.length_map]; omega), _, cs ++ [c], rfl, (fun b o e => by rw [upd_ne (ne_of_none e hD)]; exact sA _ _ e), by rw [upd_same, List.map_append]; rfl, by rw [List.length_append, lc]; rfl⟩
    rintro σ A ⟨v, cs, rfl, sA, hDx, lc⟩
    obtain ⟨c0, c1, c2, c3, c4, c5, rfl⟩ : ∃ c0 c1 c2 c3 c4 c5, cs = [c0, c1, c2, c3, c4, c5] := by
      have lc : cs.length = 6 := lc
      match cs, lc with
      | [a, b, c, d, e, f], _ => exact ⟨a, b, c, d, e, f, rfl⟩
    have sc := SqL.of (K := K) hDx
    have a0 : atI [V.int c0, V.int c1, V.int c2, V.int c3, V.int c4, V.int c5] 0 = some (.int c0) := by kernel_rfl
    have a1 : atI [V.int c0, V.int c1, V.int c2, V.int c3, V.int c4, V.int c5] 1 = some (.int c1) := by kernel_rfl
    have a2 : atI [V.int c0, V.int c1, V.int c2, V.int c3, V.int c4, V.int c5] 2 = some (.int c2) := by kernel_rfl
    have a3 : atI [V.int c0, V.int c1, V.int c2, V.int c3, V.int c4, V.int c5] 3 = some (.int c3) := by kernel_rfl
    have a4 : atI [V.int c0, V.int c1, V.int c2, V.int c3, V.int c4, V.int c5] 4 = some (.int c4) := by kernel_rfl
    have a5 : atI [V.int c0, V.int c1, V.int c2, V.int c3, V.int c4, V.int c5] 5 = some (.int c5) := by kernel_rfl
    have hDx : A D = some (.lst [V.int c0, V.int c1, V.int c2, V.int c3, V.int c4, V.int c5]) := hDx
    have sc := SqL.of (K := K) hDx
    clean_wf
    refine ⟨c3, rfl, fun A1 kd t1 hkd => ?_⟩
    clean_wf
    intro u2 A2 hu2 t2 g2
    have sc2 := SqL.of (K := K) (t2 _ _ (t1 _ _ hDx))
    clean_wf
    refine ⟨c4, rfl, fun A3 w3 g3 t3 hw3 => ?_⟩
    have sc3 := SqL.of (K := K) (t3 _ _ (t2 _ _ (t1 _ _ hDx)))
    clean_wf
    refine ⟨c5, rfl, fun A4 u4 xs ps t4 g4 hx lp => ?_⟩
    clean_wf
    intro u5 A5 hu5 t5 g5
    refine ⟨u2, u5, _, _, rfl, rfl, SqT.of (t5 _ _ (t4 _ _ (t3 _ _ g2))), SqT.of g5, (fun z => nomatch z), by show 4 + 2 ≤ sizeLine; decide +kernel, (fun z => nomatch z), fun _ u6 hu6 => ?_⟩
    have t6 := same_upd (o := .tup ([V.int (c0 % 10 ^ Int.toNat 18), V.int (c1 % 63), V.int (1 + c2 % 100), V.str kd] ++ [w3, V.ref u4])) hu6
    have g6 : (upd A5 u6 (.tup ([V.int (c0 % 10 ^ Int.toNat 18), V.int (c1 % 63), V.int (1 + c2 % 100), V.str kd] ++ [w3, V.ref u4]))) u6 = some (.tup [V.int (c0 % 10 ^ Int.toNat 18), V.int (c1 % 63), V.int (1 + c2 % 100), V.str kd, w3, V.ref u4]) := upd_same
    generalize upd A5 u6 (.tup ([V.int (c0 % 10 ^ Int.toNat 18), V.int (c1 % 63), V.int (1 + c2 % 100), V.str kd] ++ [w3, V.ref u4])) = A6 at t6 g6 ⊢
    have t46 := t5.trans t6
    clean_wf
    refine ⟨u6, rfl, _, _, _, kd, w3, u4, xs, ps, g3, g6, t46 _ _ g4, same_prs t46 hx, (hw3.same t4).same t46, hkd, fun A7 t7 => ?_⟩
    clean_wf
    exact ⟨_, _, _, rfl, sB.trans (sA.trans (t1.trans (t2.trans (t3.trans (t4.trans (t46.trans t7))))))⟩
  rintro σ B ⟨v1, v2, v3, rfl, sB⟩
  clean_wf
  exact kk B
end
end K11


namespace K11
open PySem L2
set_option maxHeartbeats 8000000 in
theorem all_mk {l : W.OpenLaw} {w : World} {K : W.Frag} {h : Heap} {mg : Str → Option Value} {fa f_0 f_1 f_2 f_3 f_4 f_5 f_6 f_7 f_8 f_9 f_10 f_11 f_12 f_13 f_14 f_15 f_16 f_17 f_18 f_19 f_20 f_21 f_22 f_23 f_24 C_Call C_HeardCall C_OneCall C_OwnCall C_GroupError C_NoKind C_NoWord N_GroupError N_NoKind N_NoWord aK : Addr} (X : K.In h) (G : h.Ns mainGlobals mg) (hfa : mg "law" = some (.ref fa))
    {oc_0 kV_0 dc_0 pm_0 cd_0 ct_0 : Value} {od_0 an_0 : Option Addr} {sl_0 : Array (Option Value)} {oc_1 kV_1 dc_1 pm_1 cd_1 ct_1 : Value} {od_1 an_1 : Option Addr} {sl_1 : Array (Option Value)} {oc_2 kV_2 dc_2 pm_2 cd_2 ct_2 : Value} {od_2 an_2 : Option Addr} {sl_2 : Array (Option Value)} {oc_3 kV_3 dc_3 pm_3 cd_3 ct_3 : Value} {od_3 an_3 : Option Addr} {sl_3 : Array (Option Value)} {oc_4 kV_4 dc_4 pm_4 cd_4 ct_4 : Value} {od_4 an_4 : Option Addr} {sl_4 : Array (Option Value)} {oc_5 kV_5 dc_5 pm_5 cd_5 ct_5 : Value} {od_5 an_5 : Option Addr} {sl_5 : Array (Option Value)} {oc_6 kV_6 dc_6 pm_6 cd_6 ct_6 : Value} {od_6 an_6 : Option Addr} {sl_6 : Array (Option Value)} {oc_7 kV_7 dc_7 pm_7 cd_7 ct_7 : Value} {od_7 an_7 : Option Addr} {sl_7 : Array (Option Value)} {oc_8 kV_8 dc_8 pm_8 cd_8 ct_8 : Value} {od_8 an_8 : Option Addr} {sl_8 : Array (Option Value)} {oc_9 kV_9 dc_9 pm_9 cd_9 ct_9 : Value} {od_9 an_9 : Option Addr} {sl_9 : Array (Option Value)} {oc_10 kV_10 dc_10 pm_10 cd_10 ct_10 : Value} {od_10 an_10 : Option Addr} {sl_10 : Array (Option Value)} {oc_11 kV_11 dc_11 pm_11 cd_11 ct_11 : Value} {od_11 an_11 : Option Addr} {sl_11 : Array (Option Value)} {oc_12 kV_12 dc_12 pm_12 cd_12 ct_12 : Value} {od_12 an_12 : Option Addr} {sl_12 : Array (Option Value)} {oc_13 kV_13 dc_13 pm_13 cd_13 ct_13 : Value} {od_13 an_13 : Option Addr} {sl_13 : Array (Option Value)} {oc_14 kV_14 dc_14 pm_14 cd_14 ct_14 : Value} {od_14 an_14 : Option Addr} {sl_14 : Array (Option Value)} {oc_15 kV_15 dc_15 pm_15 cd_15 ct_15 : Value} {od_15 an_15 : Option Addr} {sl_15 : Array (Option Value)} {oc_16 kV_16 dc_16 pm_16 cd_16 ct_16 : Value} {od_16 an_16 : Option Addr} {sl_16 : Array (Option Value)} {oc_17 kV_17 dc_17 pm_17 cd_17 ct_17 : Value} {od_17 an_17 : Option Addr} {sl_17 : Array (Option Value)} {oc_18 kV_18 dc_18 pm_18 cd_18 ct_18 : Value} {od_18 an_18 : Option Addr} {sl_18 : Array (Option Value)} {oc_19 kV_19 dc_19 pm_19 cd_19 ct_19 : Value} {od_19 an_19 : Option Addr} {sl_19 : Array (Option Value)} {oc_20 kV_20 dc_20 pm_20 cd_20 ct_20 : Value} {od_20 an_20 : Option Addr} {sl_20 : Array (Option Value)} {oc_21 kV_21 dc_21 pm_21 cd_21 ct_21 : Value} {od_21 an_21 : Option Addr} {sl_21 : Array (Option Value)} {oc_22 kV_22 dc_22 pm_22 cd_22 ct_22 : Value} {od_22 an_22 : Option Addr} {sl_22 : Array (Option Value)} {oc_23 kV_23 dc_23 pm_23 cd_23 ct_23 : Value} {od_23 an_23 : Option Addr} {sl_23 : Array (Option Value)} {oc_24 kV_24 dc_24 pm_24 cd_24 ct_24 : Value} {od_24 an_24 : Option Addr} {sl_24 : Array (Option Value)} {nm_GroupError qn_GroupError : Str} {bs_GroupError up_GroupError sb_GroupError : List Value} {hx_GroupError ab_GroupError : Bool} {sn_GroupError : List Str} {co_GroupError : Option Bool} {dd_GroupError : Option Addr} {p0_GroupError p1_GroupError p2_GroupError p3_GroupError p5_GroupError : Option Value} {ni_GroupError : String} {nm_NoKind qn_NoKind : Str} {bs_NoKind up_NoKind sb_NoKind : List Value} {hx_NoKind ab_NoKind : Bool} {sn_NoKind : List Str} {co_NoKind : Option Bool} {dd_NoKind : Option Addr} {p0_NoKind p1_NoKind p2_NoKind p3_NoKind p5_NoKind : Option Value} {ni_NoKind : String} {nm_NoWord qn_NoWord : Str} {bs_NoWord up_NoWord sb_NoWord : List Value} {hx_NoWord ab_NoWord : Bool} {sn_NoWord : List Str} {co_NoWord : Option Bool} {dd_NoWord : Option Addr} {p0_NoWord p1_NoWord p2_NoWord p3_NoWord p5_NoWord : Option Value} {ni_NoWord : String} {nK : Nat} {t1K t2K t3K : Tok}
    (a_2 : W.nsIn K mainGlobals "is_whole" = some (some (.ref f_2)))
    (a_3 : W.nsIn K mainGlobals "is_word" = some (some (.ref f_3)))
    (a_4 : W.nsIn K mainGlobals "make_call" = some (some (.ref f_4)))
    (a_5 : W.nsIn K mainGlobals "_law_refusal" = some (some (.ref f_5)))
    (a_6 : W.nsIn K mainGlobals "_law_cell_at" = some (some (.ref f_6)))
    (a_14 : W.nsIn K mainGlobals "_law_whole" = some (some (.ref f_14)))
    (a_15 : W.nsIn K mainGlobals "_law_truth" = some (some (.ref f_15)))
    (a_16 : W.nsIn K mainGlobals "_law_kind" = some (some (.ref f_16)))
    (a_17 : W.nsIn K mainGlobals "_law_word" = some (some (.ref f_17)))
    (a_18 : W.nsIn K mainGlobals "_law_causes" = some (some (.ref f_18)))
    (a_19 : W.nsIn K mainGlobals "_law_due" = some (some (.ref f_19)))
    (a_20 : W.nsIn K mainGlobals "call_of" = some (some (.ref f_20)))
    (a_21 : W.nsIn K mainGlobals "_law_parts_of" = some (some (.ref f_21)))
    (a_22 : W.nsIn K mainGlobals "_law_class" = some (some (.ref f_22)))
    (a_23 : W.nsIn K mainGlobals "_law_right" = some (some (.ref f_23)))
    (a_24 : W.nsIn K mainGlobals "law" = some (some (.ref f_24)))
    (a_Call : W.nsIn K mainGlobals "Call" = some (some (.ref C_Call)))
    (a_HeardCall : W.nsIn K mainGlobals "HeardCall" = some (some (.ref C_HeardCall)))
    (a_OneCall : W.nsIn K mainGlobals "OneCall" = some (some (.ref C_OneCall)))
    (a_OwnCall : W.nsIn K mainGlobals "OwnCall" = some (some (.ref C_OwnCall)))
    (a_GroupError : W.nsIn K mainGlobals "GroupError" = some (some (.ref C_GroupError)))
    (a_NoKind : W.nsIn K mainGlobals "NoKind" = some (some (.ref C_NoKind)))
    (a_NoWord : W.nsIn K mainGlobals "NoWord" = some (some (.ref C_NoWord)))
    (gm0_KINDS : W.nsIn K mainGlobals "KINDS" = some (some (.ref aK)))
    (z_ValueError : W.nsIn K mainGlobals "ValueError" = some none)
    (z_abs : W.nsIn K mainGlobals "abs" = some none)
    (z_bool : W.nsIn K mainGlobals "bool" = some none)
    (z_int : W.nsIn K mainGlobals "int" = some none)
    (z_isinstance : W.nsIn K mainGlobals "isinstance" = some none)
    (z_len : W.nsIn K mainGlobals "len" = some none)
    (z_max : W.nsIn K mainGlobals "max" = some none)
    (z_range : W.nsIn K mainGlobals "range" = some none)
    (z_tuple : W.nsIn K mainGlobals "tuple" = some none)
    (at_HeardCall___init__ : W.findIn K (.ref C_HeardCall) "__init__" = some (some (.ref f_0)))
    (at_HeardCall_asks_place : W.findIn K (.ref C_HeardCall) "asks_place" = some (some (.ref f_8)))
    (at_HeardCall_kind : W.findIn K (.ref C_HeardCall) "kind" = some (some (.ref f_11)))
    (at_HeardCall_name : W.findIn K (.ref C_HeardCall) "name" = some (some (.ref f_7)))
    (at_HeardCall_told : W.findIn K (.ref C_HeardCall) "told" = some (some (.ref f_13)))
    (at_OneCall___init__ : W.findIn K (.ref C_OneCall) "__init__" = some (some (.ref f_0)))
    (at_OneCall_asks_place : W.findIn K (.ref C_OneCall) "asks_place" = some (some (.ref f_9)))
    (at_OneCall_kind : W.findIn K (.ref C_OneCall) "kind" = some (some (.ref f_12)))
    (at_OneCall_name : W.findIn K (.ref C_OneCall) "name" = some (some (.ref f_7)))
    (at_OneCall_told : W.findIn K (.ref C_OneCall) "told" = some (some (.ref f_13)))
    (at_OwnCall___init__ : W.findIn K (.ref C_OwnCall) "__init__" = some (some (.ref f_1)))
    (at_OwnCall_asks_place : W.findIn K (.ref C_OwnCall) "asks_place" = some (some (.ref f_8)))
    (at_OwnCall_kind : W.findIn K (.ref C_OwnCall) "kind" = some (some (.ref f_10)))
    (at_OwnCall_name : W.findIn K (.ref C_OwnCall) "name" = some (some (.ref f_7)))
    (at_OwnCall_told : W.findIn K (.ref C_OwnCall) "told" = some (some (.ref f_13)))
    (fc_Call___init__ : W.findCls K (.ref C_Call) (.type "type") "__init__" = some (.val (.ref f_0)))
    (lx_GroupError : K.lookup C_GroupError = some (excClassObj nm_GroupError qn_GroupError C_GroupError N_GroupError bs_GroupError up_GroupError hx_GroupError sn_GroupError sb_GroupError ab_GroupError co_GroupError dd_GroupError p0_GroupError p1_GroupError p2_GroupError p3_GroupError p5_GroupError ni_GroupError))
    (lx_NoKind : K.lookup C_NoKind = some (excClassObj nm_NoKind qn_NoKind C_NoKind N_NoKind bs_NoKind up_NoKind hx_NoKind sn_NoKind sb_NoKind ab_NoKind co_NoKind dd_NoKind p0_NoKind p1_NoKind p2_NoKind p3_NoKind p5_NoKind ni_NoKind))
    (lx_NoWord : K.lookup C_NoWord = some (excClassObj nm_NoWord qn_NoWord C_NoWord N_NoWord bs_NoWord up_NoWord hx_NoWord sn_NoWord sb_NoWord ab_NoWord co_NoWord dd_NoWord p0_NoWord p1_NoWord p2_NoWord p3_NoWord p5_NoWord ni_NoWord))
    (l_0 : K.lookup f_0 = some ⟨oc_0, od_0, .func (W.fnOf "__init__" "Call.__init__" (defArgs s_Call___init__) (defBody s_Call___init__) (defScope s_Call___init__) .none kV_0 dc_0 pm_0 an_0 cd_0 ct_0), sl_0⟩)
    (c_0 : W.codeIn K cd_0 "Call.__init__" = true)
    (k_0 : W.keepIn K (.ref f_0) = true)
    (l_1 : K.lookup f_1 = some ⟨oc_1, od_1, .func (W.fnOf "__init__" "OwnCall.__init__" (defArgs s_OwnCall___init__) (defBody s_OwnCall___init__) (defScope s_OwnCall___init__) .none kV_1 dc_1 pm_1 an_1 cd_1 ct_1), sl_1⟩)
    (c_1 : W.codeIn K cd_1 "OwnCall.__init__" = true)
    (k_1 : W.keepIn K (.ref f_1) = true)
    (l_2 : K.lookup f_2 = some ⟨oc_2, od_2, .func (W.fnOf "is_whole" "is_whole" (defArgs s_is_whole) (defBody s_is_whole) (defScope s_is_whole) .none kV_2 dc_2 pm_2 an_2 cd_2 ct_2), sl_2⟩)
    (c_2 : W.codeIn K cd_2 "is_whole" = true)
    (k_2 : W.keepIn K (.ref f_2) = true)
    (l_3 : K.lookup f_3 = some ⟨oc_3, od_3, .func (W.fnOf "is_word" "is_word" (defArgs s_is_word) (defBody s_is_word) (defScope s_is_word) .none kV_3 dc_3 pm_3 an_3 cd_3 ct_3), sl_3⟩)
    (c_3 : W.codeIn K cd_3 "is_word" = true)
    (k_3 : W.keepIn K (.ref f_3) = true)
    (l_4 : K.lookup f_4 = some ⟨oc_4, od_4, .func (W.fnOf "make_call" "make_call" (defArgs s_make_call) (defBody s_make_call) (defScope s_make_call) .none kV_4 dc_4 pm_4 an_4 cd_4 ct_4), sl_4⟩)
    (c_4 : W.codeIn K cd_4 "make_call" = true)
    (k_4 : W.keepIn K (.ref f_4) = true)
    (l_5 : K.lookup f_5 = some ⟨oc_5, od_5, .func (W.fnOf "_law_refusal" "_law_refusal" (defArgs s__law_refusal) (defBody s__law_refusal) (defScope s__law_refusal) .none kV_5 dc_5 pm_5 an_5 cd_5 ct_5), sl_5⟩)
    (c_5 : W.codeIn K cd_5 "_law_refusal" = true)
    (k_5 : W.keepIn K (.ref f_5) = true)
    (l_6 : K.lookup f_6 = some ⟨oc_6, od_6, .func (W.fnOf "_law_cell_at" "_law_cell_at" (defArgs s__law_cell_at) (defBody s__law_cell_at) (defScope s__law_cell_at) .none kV_6 dc_6 pm_6 an_6 cd_6 ct_6), sl_6⟩)
    (c_6 : W.codeIn K cd_6 "_law_cell_at" = true)
    (k_6 : W.keepIn K (.ref f_6) = true)
    (l_7 : K.lookup f_7 = some ⟨oc_7, od_7, .func (W.fnOf "name" "Call.name" (defArgs s_Call_name) (defBody s_Call_name) (defScope s_Call_name) .none kV_7 dc_7 pm_7 an_7 cd_7 ct_7), sl_7⟩)
    (c_7 : W.codeIn K cd_7 "Call.name" = true)
    (k_7 : W.keepIn K (.ref f_7) = true)
    (l_8 : K.lookup f_8 = some ⟨oc_8, od_8, .func (W.fnOf "asks_place" "Call.asks_place" (defArgs s_Call_asks_place) (defBody s_Call_asks_place) (defScope s_Call_asks_place) .none kV_8 dc_8 pm_8 an_8 cd_8 ct_8), sl_8⟩)
    (c_8 : W.codeIn K cd_8 "Call.asks_place" = true)
    (k_8 : W.keepIn K (.ref f_8) = true)
    (l_9 : K.lookup f_9 = some ⟨oc_9, od_9, .func (W.fnOf "asks_place" "OneCall.asks_place" (defArgs s_OneCall_asks_place) (defBody s_OneCall_asks_place) (defScope s_OneCall_asks_place) .none kV_9 dc_9 pm_9 an_9 cd_9 ct_9), sl_9⟩)
    (c_9 : W.codeIn K cd_9 "OneCall.asks_place" = true)
    (k_9 : W.keepIn K (.ref f_9) = true)
    (l_10 : K.lookup f_10 = some ⟨oc_10, od_10, .func (W.fnOf "kind" "OwnCall.kind" (defArgs s_OwnCall_kind) (defBody s_OwnCall_kind) (defScope s_OwnCall_kind) .none kV_10 dc_10 pm_10 an_10 cd_10 ct_10), sl_10⟩)
    (c_10 : W.codeIn K cd_10 "OwnCall.kind" = true)
    (k_10 : W.keepIn K (.ref f_10) = true)
    (l_11 : K.lookup f_11 = some ⟨oc_11, od_11, .func (W.fnOf "kind" "HeardCall.kind" (defArgs s_HeardCall_kind) (defBody s_HeardCall_kind) (defScope s_HeardCall_kind) .none kV_11 dc_11 pm_11 an_11 cd_11 ct_11), sl_11⟩)
    (c_11 : W.codeIn K cd_11 "HeardCall.kind" = true)
    (k_11 : W.keepIn K (.ref f_11) = true)
    (l_12 : K.lookup f_12 = some ⟨oc_12, od_12, .func (W.fnOf "kind" "OneCall.kind" (defArgs s_OneCall_kind) (defBody s_OneCall_kind) (defScope s_OneCall_kind) .none kV_12 dc_12 pm_12 an_12 cd_12 ct_12), sl_12⟩)
    (c_12 : W.codeIn K cd_12 "OneCall.kind" = true)
    (k_12 : W.keepIn K (.ref f_12) = true)
    (l_13 : K.lookup f_13 = some ⟨oc_13, od_13, .func (W.fnOf "told" "Call.told" (defArgs s_Call_told) (defBody s_Call_told) (defScope s_Call_told) .none kV_13 dc_13 pm_13 an_13 cd_13 ct_13), sl_13⟩)
    (c_13 : W.codeIn K cd_13 "Call.told" = true)
    (k_13 : W.keepIn K (.ref f_13) = true)
    (l_14 : K.lookup f_14 = some ⟨oc_14, od_14, .func (W.fnOf "_law_whole" "_law_whole" (defArgs s__law_whole) (defBody s__law_whole) (defScope s__law_whole) .none kV_14 dc_14 pm_14 an_14 cd_14 ct_14), sl_14⟩)
    (c_14 : W.codeIn K cd_14 "_law_whole" = true)
    (k_14 : W.keepIn K (.ref f_14) = true)
    (l_15 : K.lookup f_15 = some ⟨oc_15, od_15, .func (W.fnOf "_law_truth" "_law_truth" (defArgs s__law_truth) (defBody s__law_truth) (defScope s__law_truth) .none kV_15 dc_15 pm_15 an_15 cd_15 ct_15), sl_15⟩)
    (c_15 : W.codeIn K cd_15 "_law_truth" = true)
    (k_15 : W.keepIn K (.ref f_15) = true)
    (l_16 : K.lookup f_16 = some ⟨oc_16, od_16, .func (W.fnOf "_law_kind" "_law_kind" (defArgs s__law_kind) (defBody s__law_kind) (defScope s__law_kind) .none kV_16 dc_16 pm_16 an_16 cd_16 ct_16), sl_16⟩)
    (c_16 : W.codeIn K cd_16 "_law_kind" = true)
    (k_16 : W.keepIn K (.ref f_16) = true)
    (l_17 : K.lookup f_17 = some ⟨oc_17, od_17, .func (W.fnOf "_law_word" "_law_word" (defArgs s__law_word) (defBody s__law_word) (defScope s__law_word) .none kV_17 dc_17 pm_17 an_17 cd_17 ct_17), sl_17⟩)
    (c_17 : W.codeIn K cd_17 "_law_word" = true)
    (k_17 : W.keepIn K (.ref f_17) = true)
    (l_18 : K.lookup f_18 = some ⟨oc_18, od_18, .func (W.fnOf "_law_causes" "_law_causes" (defArgs s__law_causes) (defBody s__law_causes) (defScope s__law_causes) .none kV_18 dc_18 pm_18 an_18 cd_18 ct_18), sl_18⟩)
    (c_18 : W.codeIn K cd_18 "_law_causes" = true)
    (k_18 : W.keepIn K (.ref f_18) = true)
    (l_19 : K.lookup f_19 = some ⟨oc_19, od_19, .func (W.fnOf "_law_due" "_law_due" (defArgs s__law_due) (defBody s__law_due) (defScope s__law_due) .none kV_19 dc_19 pm_19 an_19 cd_19 ct_19), sl_19⟩)
    (c_19 : W.codeIn K cd_19 "_law_due" = true)
    (k_19 : W.keepIn K (.ref f_19) = true)
    (l_20 : K.lookup f_20 = some ⟨oc_20, od_20, .func (W.fnOf "call_of" "call_of" (defArgs s_call_of) (defBody s_call_of) (defScope s_call_of) .none kV_20 dc_20 pm_20 an_20 cd_20 ct_20), sl_20⟩)
    (c_20 : W.codeIn K cd_20 "call_of" = true)
    (k_20 : W.keepIn K (.ref f_20) = true)
    (l_21 : K.lookup f_21 = some ⟨oc_21, od_21, .func (W.fnOf "_law_parts_of" "_law_parts_of" (defArgs s__law_parts_of) (defBody s__law_parts_of) (defScope s__law_parts_of) .none kV_21 dc_21 pm_21 an_21 cd_21 ct_21), sl_21⟩)
    (c_21 : W.codeIn K cd_21 "_law_parts_of" = true)
    (k_21 : W.keepIn K (.ref f_21) = true)
    (l_22 : K.lookup f_22 = some ⟨oc_22, od_22, .func (W.fnOf "_law_class" "_law_class" (defArgs s__law_class) (defBody s__law_class) (defScope s__law_class) .none kV_22 dc_22 pm_22 an_22 cd_22 ct_22), sl_22⟩)
    (c_22 : W.codeIn K cd_22 "_law_class" = true)
    (k_22 : W.keepIn K (.ref f_22) = true)
    (l_23 : K.lookup f_23 = some ⟨oc_23, od_23, .func (W.fnOf "_law_right" "_law_right" (defArgs s__law_right) (defBody s__law_right) (defScope s__law_right) .none kV_23 dc_23 pm_23 an_23 cd_23 ct_23), sl_23⟩)
    (c_23 : W.codeIn K cd_23 "_law_right" = true)
    (k_23 : W.keepIn K (.ref f_23) = true)
    (l_24 : K.lookup f_24 = some ⟨oc_24, od_24, .func (W.fnOf "law" "law" (defArgs s_law) (defBody s_law) (defScope s_law) .none kV_24 dc_24 pm_24 an_24 cd_24 ct_24), sl_24⟩)
    (c_24 : W.codeIn K cd_24 "law" = true)
    (k_24 : W.keepIn K (.ref f_24) = true)
    (i_0 : W.isFn K (.ref f_0) = true)
    (i_8 : W.isFn K (.ref f_8) = true)
    (i_7 : W.isFn K (.ref f_7) = true)
    (i_13 : W.isFn K (.ref f_13) = true)
    (i_11 : W.isFn K (.ref f_11) = true)
    (i_9 : W.isFn K (.ref f_9) = true)
    (i_12 : W.isFn K (.ref f_12) = true)
    (i_1 : W.isFn K (.ref f_1) = true)
    (i_10 : W.isFn K (.ref f_10) = true)
    (pg_Call : W.plainGet K C_Call Str.empty = true)
    (hd_Call : W.hasDictIn K C_Call = true)
    (po_Call : W.plainOver K C_Call = true)
    (sa_Call : W.findIn K (.ref C_Call) "__setattr__" = some (some (.builtin "object.__setattr__")))
    (n_Call_number : W.findIn K (.ref C_Call) "number" = some none)
    (n_Call_caller : W.findIn K (.ref C_Call) "caller" = some none)
    (n_Call_count : W.findIn K (.ref C_Call) "count" = some none)
    (n_Call_word : W.findIn K (.ref C_Call) "word" = some none)
    (n_Call_causes : W.findIn K (.ref C_Call) "causes" = some none)
    (pg_HeardCall : W.plainGet K C_HeardCall Str.empty = true)
    (hd_HeardCall : W.hasDictIn K C_HeardCall = true)
    (po_HeardCall : W.plainOver K C_HeardCall = true)
    (sa_HeardCall : W.findIn K (.ref C_HeardCall) "__setattr__" = some (some (.builtin "object.__setattr__")))
    (n_HeardCall_number : W.findIn K (.ref C_HeardCall) "number" = some none)
    (n_HeardCall_caller : W.findIn K (.ref C_HeardCall) "caller" = some none)
    (n_HeardCall_count : W.findIn K (.ref C_HeardCall) "count" = some none)
    (n_HeardCall_word : W.findIn K (.ref C_HeardCall) "word" = some none)
    (n_HeardCall_causes : W.findIn K (.ref C_HeardCall) "causes" = some none)
    (pg_OneCall : W.plainGet K C_OneCall Str.empty = true)
    (hd_OneCall : W.hasDictIn K C_OneCall = true)
    (po_OneCall : W.plainOver K C_OneCall = true)
    (sa_OneCall : W.findIn K (.ref C_OneCall) "__setattr__" = some (some (.builtin "object.__setattr__")))
    (n_OneCall_number : W.findIn K (.ref C_OneCall) "number" = some none)
    (n_OneCall_caller : W.findIn K (.ref C_OneCall) "caller" = some none)
    (n_OneCall_count : W.findIn K (.ref C_OneCall) "count" = some none)
    (n_OneCall_word : W.findIn K (.ref C_OneCall) "word" = some none)
    (n_OneCall_causes : W.findIn K (.ref C_OneCall) "causes" = some none)
    (pg_OwnCall : W.plainGet K C_OwnCall Str.empty = true)
    (hd_OwnCall : W.hasDictIn K C_OwnCall = true)
    (po_OwnCall : W.plainOver K C_OwnCall = true)
    (sa_OwnCall : W.findIn K (.ref C_OwnCall) "__setattr__" = some (some (.builtin "object.__setattr__")))
    (n_OwnCall_number : W.findIn K (.ref C_OwnCall) "number" = some none)
    (n_OwnCall_caller : W.findIn K (.ref C_OwnCall) "caller" = some none)
    (n_OwnCall_count : W.findIn K (.ref C_OwnCall) "count" = some none)
    (n_OwnCall_word : W.findIn K (.ref C_OwnCall) "word" = some none)
    (n_OwnCall_causes : W.findIn K (.ref C_OwnCall) "causes" = some none)
    (mk_HeardCall : W.makesIn K C_HeardCall = true)
    (kc_HeardCall : W.keepIn K (.ref C_HeardCall) = true)
    (mk_OneCall : W.makesIn K C_OneCall = true)
    (kc_OneCall : W.keepIn K (.ref C_OneCall) = true)
    (mk_OwnCall : W.makesIn K C_OwnCall = true)
    (kc_OwnCall : W.keepIn K (.ref C_OwnCall) = true)
    (ga_Call : W.specialIn K (.ref C_Call) "__getattribute__" = some (some (.builtin "type.__getattribute__")))
    (rd_Call : W.readsIn K C_Call (.type "type") = true)
    (ha_HeardCall : W.findIn K (.ref C_HeardCall) "__class__" = some (some (.builtin "object.__class__")))
    (hm_HeardCall : W.mroIn K C_HeardCall (.type "object") = some true)
    (ha_OneCall : W.findIn K (.ref C_OneCall) "__class__" = some (some (.builtin "object.__class__")))
    (hm_OneCall : W.mroIn K C_OneCall (.type "object") = some true)
    (ha_OwnCall : W.findIn K (.ref C_OwnCall) "__class__" = some (some (.builtin "object.__class__")))
    (hm_OwnCall : W.mroIn K C_OwnCall (.type "object") = some true)
    (in_hn : W.specialIn K (.builtin "object.__class__") "__get__" = some (some (.builtin "getset_descriptor.__get__")))
    (in_tk : W.takesIn K (.builtin "object.__class__") = some true)
    (xt_NoKind : W.tailIn K [.type "ValueError", .type "Exception", .type "BaseException", .type "object"] up_NoKind = true)
    (xq_NoKind : W.nsOkIn K N_NoKind = true)
    (xz_NoKind : W.nsIn K N_NoKind "__init__" = some none)
    (xw_NoKind : ni_NoKind = "ValueError.__new__")
    (xt_NoWord : W.tailIn K [.type "ValueError", .type "Exception", .type "BaseException", .type "object"] up_NoWord = true)
    (xq_NoWord : W.nsOkIn K N_NoWord = true)
    (xz_NoWord : W.nsIn K N_NoWord "__init__" = some none)
    (xw_NoWord : ni_NoWord = "ValueError.__new__")
    (mb_GroupError_GroupError : up_GroupError.contains (Value.type "BaseException") = true)
    (mc_GroupError_GroupError : (Value.ref C_GroupError :: up_GroupError).contains (Value.ref C_GroupError) = true)
    (mb_NoKind_GroupError : up_NoKind.contains (Value.type "BaseException") = true)
    (mc_NoKind_GroupError : (Value.ref C_NoKind :: up_NoKind).contains (Value.ref C_GroupError) = true)
    (mb_NoWord_GroupError : up_NoWord.contains (Value.type "BaseException") = true)
    (mc_NoWord_GroupError : (Value.ref C_NoWord :: up_NoWord).contains (Value.ref C_GroupError) = true)
    (xg_NoKind : W.findIn K (.ref C_NoKind) "__getattribute__" = some (some (.builtin "BaseException.__getattribute__")))
    (xn_NoKind : W.findIn K (.ref C_NoKind) "__getattr__" = some none)
    (xa_NoKind : W.findIn K (.ref C_NoKind) "__class__" = some (some (.builtin "object.__class__")))
    (xo_NoKind : W.mroIn K C_NoKind (.type "object") = some true)
    (xb_NoKind : W.mroIn K C_NoKind (.type "BaseException") = some true)
    (xk_NoKind : W.hasDictIn K C_NoKind = true)
    (xg_NoWord : W.findIn K (.ref C_NoWord) "__getattribute__" = some (some (.builtin "BaseException.__getattribute__")))
    (xn_NoWord : W.findIn K (.ref C_NoWord) "__getattr__" = some none)
    (xa_NoWord : W.findIn K (.ref C_NoWord) "__class__" = some (some (.builtin "object.__class__")))
    (xo_NoWord : W.mroIn K C_NoWord (.type "object") = some true)
    (xb_NoWord : W.mroIn K C_NoWord (.type "BaseException") = some true)
    (xk_NoWord : W.hasDictIn K C_NoWord = true)
    (kx_NoKind_NoKind : W.kitOne K (.ref C_NoKind) (.ref C_NoKind) = some true)
    (kx_NoKind_NoWord : W.kitOne K (.ref C_NoKind) (.ref C_NoWord) = some false)
    (kx_NoKind_ValueError : W.kitOne K (.ref C_NoKind) (.type "ValueError") = some true)
    (kx_NoWord_NoKind : W.kitOne K (.ref C_NoWord) (.ref C_NoKind) = some false)
    (kx_NoWord_NoWord : W.kitOne K (.ref C_NoWord) (.ref C_NoWord) = some true)
    (kx_NoWord_ValueError : W.kitOne K (.ref C_NoWord) (.type "ValueError") = some true)
    (kd_Call : (W.clsIn K C_Call).isSome = true)
    (kt_Call : W.typeIn K (.ref C_Call) = some (.type "type"))
    (kd_HeardCall : (W.clsIn K C_HeardCall).isSome = true)
    (kt_HeardCall : W.typeIn K (.ref C_HeardCall) = some (.type "type"))
    (kd_OneCall : (W.clsIn K C_OneCall).isSome = true)
    (kt_OneCall : W.typeIn K (.ref C_OneCall) = some (.type "type"))
    (kd_OwnCall : (W.clsIn K C_OwnCall).isSome = true)
    (kt_OwnCall : W.typeIn K (.ref C_OwnCall) = some (.type "type"))
    (kb_HeardCall_Call : (PySem.Value.ref C_HeardCall == PySem.Value.ref C_Call) = false)
    (km_HeardCall_Call : W.mroIn K C_HeardCall (.ref C_Call) = some true)
    (kb_HeardCall_HeardCall : (PySem.Value.ref C_HeardCall == PySem.Value.ref C_HeardCall) = true)
    (kb_HeardCall_OneCall : (PySem.Value.ref C_HeardCall == PySem.Value.ref C_OneCall) = false)
    (km_HeardCall_OneCall : W.mroIn K C_HeardCall (.ref C_OneCall) = some false)
    (kb_HeardCall_OwnCall : (PySem.Value.ref C_HeardCall == PySem.Value.ref C_OwnCall) = false)
    (km_HeardCall_OwnCall : W.mroIn K C_HeardCall (.ref C_OwnCall) = some false)
    (kb_OneCall_Call : (PySem.Value.ref C_OneCall == PySem.Value.ref C_Call) = false)
    (km_OneCall_Call : W.mroIn K C_OneCall (.ref C_Call) = some true)
    (kb_OneCall_HeardCall : (PySem.Value.ref C_OneCall == PySem.Value.ref C_HeardCall) = false)
    (km_OneCall_HeardCall : W.mroIn K C_OneCall (.ref C_HeardCall) = some true)
    (kb_OneCall_OneCall : (PySem.Value.ref C_OneCall == PySem.Value.ref C_OneCall) = true)
    (kb_OneCall_OwnCall : (PySem.Value.ref C_OneCall == PySem.Value.ref C_OwnCall) = false)
    (km_OneCall_OwnCall : W.mroIn K C_OneCall (.ref C_OwnCall) = some false)
    (kb_OwnCall_Call : (PySem.Value.ref C_OwnCall == PySem.Value.ref C_Call) = false)
    (km_OwnCall_Call : W.mroIn K C_OwnCall (.ref C_Call) = some true)
    (kb_OwnCall_HeardCall : (PySem.Value.ref C_OwnCall == PySem.Value.ref C_HeardCall) = false)
    (km_OwnCall_HeardCall : W.mroIn K C_OwnCall (.ref C_HeardCall) = some false)
    (kb_OwnCall_OneCall : (PySem.Value.ref C_OwnCall == PySem.Value.ref C_OneCall) = false)
    (km_OwnCall_OneCall : W.mroIn K C_OwnCall (.ref C_OneCall) = some false)
    (kb_OwnCall_OwnCall : (PySem.Value.ref C_OwnCall == PySem.Value.ref C_OwnCall) = true)
    (gl_KINDS : K.lookup aK = some ⟨.type "tuple", none, .seq #[.str "own" t1K, .str "heard" t2K, .str "one" t3K] nK, #[]⟩)
    : ∃ fd : FuncData, (∀ (s : Shared) (v : Value), BindsTo s fd ⟨[v], []⟩ [("_law_script", v)]) ∧ ∀ base : Heap, K.In base → base.Ns mainGlobals mg → FnOk l.prog w K mg base CX0 7 fa fd ["_law_script"] (sp_law K) := by
  have e := hfa.symm.trans (W.mg_of X G a_24)
  cases e
  have F_0 := fun_mk (st := s_Call___init__) l_0 c_0 k_0
  have B_0 : Binds K _ ["self", "number", "caller", "count", "word", "causes"] [] := F_0.binds (ps := ["self", "number", "caller", "count", "word", "causes"]) fun _ _ _ _ _ _ us hl => match us, hl with | [_, _, _, _, _, _], _ => rfl
  have F_1 := fun_mk (st := s_OwnCall___init__) l_1 c_1 k_1
  have B_1 : Binds K _ ["self", "number", "caller", "count", "word", "causes"] [] := F_1.binds (ps := ["self", "number", "caller", "count", "word", "causes"]) fun _ _ _ _ _ _ us hl => match us, hl with | [_, _, _, _, _, _], _ => rfl
  have F_2 := fun_mk (st := s_is_whole) l_2 c_2 k_2
  have CA_2 : Cal K mg "is_whole" f_2 _ ["value"] := ⟨W.mg_of X G a_2, k_2, F_2.binds (ps := ["value"]) fun _ _ _ _ _ _ us hl => match us, hl with | [_], _ => rfl⟩
  have F_3 := fun_mk (st := s_is_word) l_3 c_3 k_3
  have CA_3 : Cal K mg "is_word" f_3 _ ["word"] := ⟨W.mg_of X G a_3, k_3, F_3.binds (ps := ["word"]) fun _ _ _ _ _ _ us hl => match us, hl with | [_], _ => rfl⟩
  have F_4 := fun_mk (st := s_make_call) l_4 c_4 k_4
  have CA_4 : Cal K mg "make_call" f_4 _ ["number", "caller", "count", "kind", "word", "causes"] := ⟨W.mg_of X G a_4, k_4, F_4.binds (ps := ["number", "caller", "count", "kind", "word", "causes"]) fun _ _ _ _ _ _ us hl => match us, hl with | [_, _, _, _, _, _], _ => rfl⟩
  have F_5 := fun_mk (st := s__law_refusal) l_5 c_5 k_5
  have CA_5 : Cal K mg "_law_refusal" f_5 _ ["_law_parts"] := ⟨W.mg_of X G a_5, k_5, F_5.binds (ps := ["_law_parts"]) fun _ _ _ _ _ _ us hl => match us, hl with | [_], _ => rfl⟩
  have F_6 := fun_mk (st := s__law_cell_at) l_6 c_6 k_6
  have CA_6 : Cal K mg "_law_cell_at" f_6 _ ["_law_script", "_law_k"] := ⟨W.mg_of X G a_6, k_6, F_6.binds (ps := ["_law_script", "_law_k"]) fun _ _ _ _ _ _ us hl => match us, hl with | [_, _], _ => rfl⟩
  have F_7 := fun_mk (st := s_Call_name) l_7 c_7 k_7
  have B_7 : Binds K _ ["self"] [] := F_7.binds (ps := ["self"]) fun _ _ _ _ _ _ us hl => match us, hl with | [_], _ => rfl
  have F_8 := fun_mk (st := s_Call_asks_place) l_8 c_8 k_8
  have B_8 : Binds K _ ["self"] [] := F_8.binds (ps := ["self"]) fun _ _ _ _ _ _ us hl => match us, hl with | [_], _ => rfl
  have F_9 := fun_mk (st := s_OneCall_asks_place) l_9 c_9 k_9
  have B_9 : Binds K _ ["self"] [] := F_9.binds (ps := ["self"]) fun _ _ _ _ _ _ us hl => match us, hl with | [_], _ => rfl
  have F_10 := fun_mk (st := s_OwnCall_kind) l_10 c_10 k_10
  have B_10 : Binds K _ ["self"] [] := F_10.binds (ps := ["self"]) fun _ _ _ _ _ _ us hl => match us, hl with | [_], _ => rfl
  have F_11 := fun_mk (st := s_HeardCall_kind) l_11 c_11 k_11
  have B_11 : Binds K _ ["self"] [] := F_11.binds (ps := ["self"]) fun _ _ _ _ _ _ us hl => match us, hl with | [_], _ => rfl
  have F_12 := fun_mk (st := s_OneCall_kind) l_12 c_12 k_12
  have B_12 : Binds K _ ["self"] [] := F_12.binds (ps := ["self"]) fun _ _ _ _ _ _ us hl => match us, hl with | [_], _ => rfl
  have F_13 := fun_mk (st := s_Call_told) l_13 c_13 k_13
  have B_13 : Binds K _ ["self"] [] := F_13.binds (ps := ["self"]) fun _ _ _ _ _ _ us hl => match us, hl with | [_], _ => rfl
  have F_14 := fun_mk (st := s__law_whole) l_14 c_14 k_14
  have CA_14 : Cal K mg "_law_whole" f_14 _ ["_law_found"] := ⟨W.mg_of X G a_14, k_14, F_14.binds (ps := ["_law_found"]) fun _ _ _ _ _ _ us hl => match us, hl with | [_], _ => rfl⟩
  have F_15 := fun_mk (st := s__law_truth) l_15 c_15 k_15
  have CA_15 : Cal K mg "_law_truth" f_15 _ ["_law_found", "_law_due_here"] := ⟨W.mg_of X G a_15, k_15, F_15.binds (ps := ["_law_found", "_law_due_here"]) fun _ _ _ _ _ _ us hl => match us, hl with | [_, _], _ => rfl⟩
  have F_16 := fun_mk (st := s__law_kind) l_16 c_16 k_16
  have CA_16 : Cal K mg "_law_kind" f_16 _ ["_law_cell"] := ⟨W.mg_of X G a_16, k_16, F_16.binds (ps := ["_law_cell"]) fun _ _ _ _ _ _ us hl => match us, hl with | [_], _ => rfl⟩
  have F_17 := fun_mk (st := s__law_word) l_17 c_17 k_17
  have CA_17 : Cal K mg "_law_word" f_17 _ ["_law_cell"] := ⟨W.mg_of X G a_17, k_17, F_17.binds (ps := ["_law_cell"]) fun _ _ _ _ _ _ us hl => match us, hl with | [_], _ => rfl⟩
  have F_18 := fun_mk (st := s__law_causes) l_18 c_18 k_18
  have CA_18 : Cal K mg "_law_causes" f_18 _ ["_law_cell"] := ⟨W.mg_of X G a_18, k_18, F_18.binds (ps := ["_law_cell"]) fun _ _ _ _ _ _ us hl => match us, hl with | [_], _ => rfl⟩
  have F_19 := fun_mk (st := s__law_due) l_19 c_19 k_19
  have CA_19 : Cal K mg "_law_due" f_19 _ ["_law_parts"] := ⟨W.mg_of X G a_19, k_19, F_19.binds (ps := ["_law_parts"]) fun _ _ _ _ _ _ us hl => match us, hl with | [_], _ => rfl⟩
  have F_20 := fun_mk (st := s_call_of) l_20 c_20 k_20
  have CA_20 : Cal K mg "call_of" f_20 _ ["told"] := ⟨W.mg_of X G a_20, k_20, F_20.binds (ps := ["told"]) fun _ _ _ _ _ _ us hl => match us, hl with | [_], _ => rfl⟩
  have F_21 := fun_mk (st := s__law_parts_of) l_21 c_21 k_21
  have CA_21 : Cal K mg "_law_parts_of" f_21 _ ["_law_call"] := ⟨W.mg_of X G a_21, k_21, F_21.binds (ps := ["_law_call"]) fun _ _ _ _ _ _ us hl => match us, hl with | [_], _ => rfl⟩
  have F_22 := fun_mk (st := s__law_class) l_22 c_22 k_22
  have CA_22 : Cal K mg "_law_class" f_22 _ ["_law_call"] := ⟨W.mg_of X G a_22, k_22, F_22.binds (ps := ["_law_call"]) fun _ _ _ _ _ _ us hl => match us, hl with | [_], _ => rfl⟩
  have F_23 := fun_mk (st := s__law_right) l_23 c_23 k_23
  have CA_23 : Cal K mg "_law_right" f_23 _ ["_law_parts"] := ⟨W.mg_of X G a_23, k_23, F_23.binds (ps := ["_law_parts"]) fun _ _ _ _ _ _ us hl => match us, hl with | [_], _ => rfl⟩
  have F_24 := fun_mk (st := s_law) l_24 c_24 k_24
  have m_Call := W.mg_of X G a_Call
  have T_Call : TCall K C_Call := ⟨⟨pg_Call, hd_Call, po_Call, sa_Call⟩, n_Call_number, n_Call_caller, n_Call_count, n_Call_word, n_Call_causes⟩
  have m_HeardCall := W.mg_of X G a_HeardCall
  have T_HeardCall : TCall K C_HeardCall := ⟨⟨pg_HeardCall, hd_HeardCall, po_HeardCall, sa_HeardCall⟩, n_HeardCall_number, n_HeardCall_caller, n_HeardCall_count, n_HeardCall_word, n_HeardCall_causes⟩
  have m_OneCall := W.mg_of X G a_OneCall
  have T_OneCall : TCall K C_OneCall := ⟨⟨pg_OneCall, hd_OneCall, po_OneCall, sa_OneCall⟩, n_OneCall_number, n_OneCall_caller, n_OneCall_count, n_OneCall_word, n_OneCall_causes⟩
  have m_OwnCall := W.mg_of X G a_OwnCall
  have T_OwnCall : TCall K C_OwnCall := ⟨⟨pg_OwnCall, hd_OwnCall, po_OwnCall, sa_OwnCall⟩, n_OwnCall_number, n_OwnCall_caller, n_OwnCall_count, n_OwnCall_word, n_OwnCall_causes⟩
  have mt_HeardCall_asks_place : Meth K C_HeardCall "asks_place" f_8 := ⟨at_HeardCall_asks_place, i_8, k_8⟩
  have mt_HeardCall_kind : Meth K C_HeardCall "kind" f_11 := ⟨at_HeardCall_kind, i_11, k_11⟩
  have mt_HeardCall_name : Meth K C_HeardCall "name" f_7 := ⟨at_HeardCall_name, i_7, k_7⟩
  have mt_HeardCall_told : Meth K C_HeardCall "told" f_13 := ⟨at_HeardCall_told, i_13, k_13⟩
  have mt_OneCall_asks_place : Meth K C_OneCall "asks_place" f_9 := ⟨at_OneCall_asks_place, i_9, k_9⟩
  have mt_OneCall_kind : Meth K C_OneCall "kind" f_12 := ⟨at_OneCall_kind, i_12, k_12⟩
  have mt_OneCall_name : Meth K C_OneCall "name" f_7 := ⟨at_OneCall_name, i_7, k_7⟩
  have mt_OneCall_told : Meth K C_OneCall "told" f_13 := ⟨at_OneCall_told, i_13, k_13⟩
  have mt_OwnCall_asks_place : Meth K C_OwnCall "asks_place" f_8 := ⟨at_OwnCall_asks_place, i_8, k_8⟩
  have mt_OwnCall_kind : Meth K C_OwnCall "kind" f_10 := ⟨at_OwnCall_kind, i_10, k_10⟩
  have mt_OwnCall_name : Meth K C_OwnCall "name" f_7 := ⟨at_OwnCall_name, i_7, k_7⟩
  have mt_OwnCall_told : Meth K C_OwnCall "told" f_13 := ⟨at_OwnCall_told, i_13, k_13⟩
  have M_HeardCall : Mk K C_HeardCall f_0 := ⟨mk_HeardCall, at_HeardCall___init__, i_0, kc_HeardCall⟩
  have M_OneCall : Mk K C_OneCall f_0 := ⟨mk_OneCall, at_OneCall___init__, i_0, kc_OneCall⟩
  have M_OwnCall : Mk K C_OwnCall f_1 := ⟨mk_OwnCall, at_OwnCall___init__, i_1, kc_OwnCall⟩
  have cf_Call___init__ : ClsFn K C_Call "__init__" f_0 := ⟨ga_Call, rd_Call, fc_Call___init__, rfl, k_0⟩
  have in_HeardCall : InsF K C_HeardCall := ⟨ha_HeardCall, in_hn, in_tk, hm_HeardCall⟩
  have in_OneCall : InsF K C_OneCall := ⟨ha_OneCall, in_hn, in_tk, hm_OneCall⟩
  have in_OwnCall : InsF K C_OwnCall := ⟨ha_OwnCall, in_hn, in_tk, hm_OwnCall⟩
  have m_GroupError := W.mg_of X G a_GroupError
  have m_NoKind := W.mg_of X G a_NoKind
  have m_NoWord := W.mg_of X G a_NoWord
  have lc_GroupError := XCls.mk lx_GroupError
  have lc_NoKind := XCls.mk lx_NoKind
  have lc_NoWord := XCls.mk lx_NoWord
  have xi_NoKind : XNew K C_NoKind [.type "ValueError", .type "Exception", .type "BaseException", .type "object"] "ValueError.__new__" := ⟨_, _, xw_NoKind ▸ lc_NoKind, xt_NoKind, xq_NoKind, xz_NoKind⟩
  have xi_NoWord : XNew K C_NoWord [.type "ValueError", .type "Exception", .type "BaseException", .type "object"] "ValueError.__new__" := ⟨_, _, xw_NoWord ▸ lc_NoWord, xt_NoWord, xq_NoWord, xz_NoWord⟩
  have mr_GroupError_GroupError : XSub K C_GroupError C_GroupError := ⟨_, _, _, lc_GroupError, mb_GroupError_GroupError, mc_GroupError_GroupError⟩
  have mr_NoKind_GroupError : XSub K C_NoKind C_GroupError := ⟨_, _, _, lc_NoKind, mb_NoKind_GroupError, mc_NoKind_GroupError⟩
  have mr_NoWord_GroupError : XSub K C_NoWord C_GroupError := ⟨_, _, _, lc_NoWord, mb_NoWord_GroupError, mc_NoWord_GroupError⟩
  have xf_NoKind : XcF K C_NoKind := ⟨xg_NoKind, xn_NoKind, xa_NoKind, in_hn, in_tk, xo_NoKind, xb_NoKind, xk_NoKind, _, _, _, lc_NoKind⟩
  have xf_NoWord : XcF K C_NoWord := ⟨xg_NoWord, xn_NoWord, xa_NoWord, in_hn, in_tk, xo_NoWord, xb_NoWord, xk_NoWord, _, _, _, lc_NoWord⟩
  have ki_HeardCall_Call := kit_of kb_HeardCall_Call kd_Call kt_Call km_HeardCall_Call
  have ki_HeardCall_HeardCall := kit_same (K := K) kb_HeardCall_HeardCall
  have ki_HeardCall_OneCall := kit_of kb_HeardCall_OneCall kd_OneCall kt_OneCall km_HeardCall_OneCall
  have ki_HeardCall_OwnCall := kit_of kb_HeardCall_OwnCall kd_OwnCall kt_OwnCall km_HeardCall_OwnCall
  have ki_OneCall_Call := kit_of kb_OneCall_Call kd_Call kt_Call km_OneCall_Call
  have ki_OneCall_HeardCall := kit_of kb_OneCall_HeardCall kd_HeardCall kt_HeardCall km_OneCall_HeardCall
  have ki_OneCall_OneCall := kit_same (K := K) kb_OneCall_OneCall
  have ki_OneCall_OwnCall := kit_of kb_OneCall_OwnCall kd_OwnCall kt_OwnCall km_OneCall_OwnCall
  have ki_OwnCall_Call := kit_of kb_OwnCall_Call kd_Call kt_Call km_OwnCall_Call
  have ki_OwnCall_HeardCall := kit_of kb_OwnCall_HeardCall kd_HeardCall kt_HeardCall km_OwnCall_HeardCall
  have ki_OwnCall_OneCall := kit_of kb_OwnCall_OneCall kd_OneCall kt_OneCall km_OwnCall_OneCall
  have ki_OwnCall_OwnCall := kit_same (K := K) kb_OwnCall_OwnCall
  have gm_KINDS := W.mg_of X G gm0_KINDS
  have gr_KINDS : RelV (.ref aK) (.ref aK) := rfl
  have gv_KINDS : GV_KINDS K (.ref aK) := ⟨aK, rfl, fun H => .inr ⟨_, _, _, gl_KINDS, rfl, rfl, (by show 3 ≤ sizeLine; decide), .cons ⟨_, rfl⟩ (.cons ⟨_, rfl⟩ (.cons ⟨_, rfl⟩ .nil))⟩⟩
  have Z_ValueError : mg "ValueError" = none := W.mg_none_of X G z_ValueError
  have Z_abs : mg "abs" = none := W.mg_none_of X G z_abs
  have Z_bool : mg "bool" = none := W.mg_none_of X G z_bool
  have Z_int : mg "int" = none := W.mg_none_of X G z_int
  have Z_isinstance : mg "isinstance" = none := W.mg_none_of X G z_isinstance
  have Z_len : mg "len" = none := W.mg_none_of X G z_len
  have Z_max : mg "max" = none := W.mg_none_of X G z_max
  have Z_range : mg "range" = none := W.mg_none_of X G z_range
  have Z_tuple : mg "tuple" = none := W.mg_none_of X G z_tuple
  refine ⟨W.fnOf "law" "law" (defArgs s_law) (defBody s_law) (defScope s_law) .none kV_24 dc_24 pm_24 an_24 cd_24 ct_24, fun s v => .of_eq rfl, fun base _ _ => ?_⟩
  have G_0 : FnOk l.prog w K mg base CX0 1 f_0 _ ["self", "number", "caller", "count", "word", "causes"] (sp_Call___init__ K) := ok_Call___init__ F_0
  have G_1 : FnOk l.prog w K mg base CX0 2 f_1 _ ["self", "number", "caller", "count", "word", "causes"] (sp_OwnCall___init__ K) := ok_OwnCall___init__ F_1 (G_0.mono (by decide)) B_0 T_Call m_Call cf_Call___init__
  have G_2 : FnOk l.prog w K mg base CX0 1 f_2 _ ["value"] (sp_is_whole K) := ok_is_whole F_2 Z_bool Z_int Z_isinstance
  have G_3 : FnOk l.prog w K mg base CX0 2 f_3 _ ["word"] (sp_is_word K) := ok_is_word F_3 (G_2.mono (by decide)) CA_2 Z_abs
  have G_4 : FnOk l.prog w K mg base (CXR l.prog w) 4 f_4 _ ["number", "caller", "count", "kind", "word", "causes"] (sp_make_call K mg) := ok_make_call F_4 (G_0.mono (by decide)) B_0 (G_1.mono (by decide)) B_1 (G_3.mono (by decide)) CA_3 T_HeardCall T_OneCall T_OwnCall m_HeardCall m_OneCall m_OwnCall M_HeardCall M_OneCall M_OwnCall gm_KINDS gr_KINDS gv_KINDS m_NoKind m_NoWord xi_NoKind xi_NoWord
  have G_5 : FnOk l.prog w K mg base CX0 5 f_5 _ ["_law_parts"] (sp__law_refusal K mg) := ok__law_refusal F_5 (G_4.mono (by decide)) CA_4 Z_ValueError Z_isinstance m_GroupError m_NoKind m_NoWord mr_GroupError_GroupError mr_NoKind_GroupError mr_NoWord_GroupError xf_NoKind xf_NoWord kx_NoKind_ValueError kx_NoKind_NoKind kx_NoKind_NoWord kx_NoWord_ValueError kx_NoWord_NoKind kx_NoWord_NoWord
  have G_6 : FnOk l.prog w K mg base CX0 1 f_6 _ ["_law_script", "_law_k"] (sp__law_cell_at K) := ok__law_cell_at F_6 Z_len
  have G_7 : FnOk l.prog w K mg base CX0 1 f_7 _ ["self"] (sp_Call_name K) := ok_Call_name F_7
  have G_8 : FnOk l.prog w K mg base CX0 1 f_8 _ ["self"] (sp_Call_asks_place K) := ok_Call_asks_place F_8
  have G_9 : FnOk l.prog w K mg base CX0 1 f_9 _ ["self"] (sp_OneCall_asks_place K) := ok_OneCall_asks_place F_9
  have G_10 : FnOk l.prog w K mg base CX0 1 f_10 _ ["self"] (sp_OwnCall_kind K) := ok_OwnCall_kind F_10
  have G_11 : FnOk l.prog w K mg base CX0 1 f_11 _ ["self"] (sp_HeardCall_kind K) := ok_HeardCall_kind F_11
  have G_12 : FnOk l.prog w K mg base CX0 1 f_12 _ ["self"] (sp_OneCall_kind K) := ok_OneCall_kind F_12
  have G_13 : FnOk l.prog w K mg base CX0 2 f_13 _ ["self"] (sp_Call_told K mg) := ok_Call_told F_13 (G_10.mono (by decide)) B_10 (G_11.mono (by decide)) B_11 (G_12.mono (by decide)) B_12 T_HeardCall T_OneCall T_OwnCall m_HeardCall m_OneCall m_OwnCall mt_HeardCall_kind mt_OneCall_kind mt_OwnCall_kind
  have G_14 : FnOk l.prog w K mg base CX0 1 f_14 _ ["_law_found"] (sp__law_whole K) := ok__law_whole F_14 Z_bool Z_int Z_isinstance
  have G_15 : FnOk l.prog w K mg base CX0 1 f_15 _ ["_law_found", "_law_due_here"] (sp__law_truth K) := ok__law_truth F_15
  have G_16 : FnOk l.prog w K mg base CX0 1 f_16 _ ["_law_cell"] (sp__law_kind K) := ok__law_kind F_16
  have G_17 : FnOk l.prog w K mg base CX0 1 f_17 _ ["_law_cell"] (sp__law_word K) := ok__law_word F_17
  have G_18 : FnOk l.prog w K mg base CX0 1 f_18 _ ["_law_cell"] (sp__law_causes K) := ok__law_causes F_18 Z_range Z_tuple
  have G_19 : FnOk l.prog w K mg base CX0 2 f_19 _ ["_law_parts"] (sp__law_due K) := ok__law_due F_19 (G_14.mono (by decide)) CA_14
  have G_20 : FnOk l.prog w K mg base CX0 5 f_20 _ ["told"] (sp_call_of K mg) := ok_call_of F_20 (G_4.mono (by decide)) CA_4
  have G_21 : FnOk l.prog w K mg base CX0 2 f_21 _ ["_law_call"] (sp__law_parts_of K mg) := ok__law_parts_of F_21 (G_10.mono (by decide)) B_10 (G_11.mono (by decide)) B_11 (G_12.mono (by decide)) B_12 T_HeardCall T_OneCall T_OwnCall m_HeardCall m_OneCall m_OwnCall mt_HeardCall_kind mt_OneCall_kind mt_OwnCall_kind
  have G_22 : FnOk l.prog w K mg base CX0 2 f_22 _ ["_law_call"] (sp__law_class K mg) := ok__law_class F_22 (G_10.mono (by decide)) B_10 (G_11.mono (by decide)) B_11 (G_12.mono (by decide)) B_12 Z_isinstance T_Call T_HeardCall T_OneCall T_OwnCall m_Call m_HeardCall m_OneCall m_OwnCall mt_HeardCall_kind mt_OneCall_kind mt_OwnCall_kind in_OwnCall in_HeardCall in_OneCall ki_OwnCall_Call ki_OwnCall_OwnCall ki_OwnCall_HeardCall ki_OwnCall_OneCall ki_HeardCall_Call ki_HeardCall_OwnCall ki_HeardCall_HeardCall ki_HeardCall_OneCall ki_OneCall_Call ki_OneCall_OwnCall ki_OneCall_HeardCall ki_OneCall_OneCall
  have G_23 : FnOk l.prog w K mg base CX0 6 f_23 _ ["_law_parts"] (sp__law_right K mg) := ok__law_right F_23 (G_4.mono (by decide)) CA_4 (G_5.mono (by decide)) CA_5 (G_7.mono (by decide)) B_7 (G_8.mono (by decide)) B_8 (G_9.mono (by decide)) B_9 (G_13.mono (by decide)) B_13 (G_14.mono (by decide)) CA_14 (G_15.mono (by decide)) CA_15 (G_19.mono (by decide)) CA_19 (G_20.mono (by decide)) CA_20 (G_21.mono (by decide)) CA_21 (G_22.mono (by decide)) CA_22 Z_isinstance Z_tuple T_HeardCall T_OneCall T_OwnCall m_HeardCall m_OneCall m_OwnCall mt_HeardCall_asks_place mt_HeardCall_name mt_HeardCall_told mt_OneCall_asks_place mt_OneCall_name mt_OneCall_told mt_OwnCall_asks_place mt_OwnCall_name mt_OwnCall_told
  exact ok_law F_24 (G_6.mono (by decide)) CA_6 (G_16.mono (by decide)) CA_16 (G_17.mono (by decide)) CA_17 (G_18.mono (by decide)) CA_18 (G_23.mono (by decide)) CA_23 Z_len Z_max Z_range
theorem walk {l : PySem.W.OpenLaw} {q : Program} {loose : List Str} {XP : (Str → Option Value) → Heap → Prop} {YP : World → Heap → Prop} {d : DefRec} {K : Params → PySem.W.Frag} (hn : l.most = some 63) (hdf : d.params.defaults = [])
    (hY : ∀ (w : World) (h : Heap), YP w h → (K w.params).In h)
    (F : ∀ (w : World) (mg : Str → Option Value) (fa : Addr) (h : Heap), (K w.params).In h → h.Ns mainGlobals mg → mg d.name = some (.ref fa) →
      ∃ fd : FuncData, (∀ (s : Shared) (u : Value), BindsTo s fd ⟨[u], []⟩ [("_law_script", u)]) ∧ ∀ base : Heap, (K w.params).In base → base.Ns mainGlobals mg → FnOk l.prog w (K w.params) mg base CX0 7 fa fd ["_law_script"] (sp_law (K w.params))) :
    PySem.W.WalkO q loose XP YP l.row.toRowW d [] (fun f vs => PySem.call f vs) :=
  L2.walk_of (n := 63) (k := 7) (x := "_law_script") (CX := fun _ => CX0) (sp := fun w => sp_law (K w.params)) hn (by decide) hdf ⟨rfl, by decide, by decide⟩ hY F (fun _ _ a ns hl _ hS => ⟨a, ns, rfl, hS, hl, fun _ => rfl⟩) fun _ _ _ _ _ z => z
end K11
open PySem PySem.W PyProof.Rows
set_option maxRecDepth 100000 in
set_option maxHeartbeats 0 in
theorem PySem.Challenge.cw_groupcall_k11_calls_made_holds : PySem.Challenge.rw_groupcall_k11_calls_made.Holds := by
  w_on; o_law; k_head; (case hw => w_witness2)
  k_fill
  refine K11.walk (l := PySem.Challenge.rw_groupcall_k11_calls_made) rfl rfl (fun w h Y => PySem.W.kIn_of Y) ?F
  case F =>
    intro w mg fa h KX G hmg
    refine' K11.all_mk KX G hmg ?a_2 ?a_3 ?a_4 ?a_5 ?a_6 ?a_14 ?a_15 ?a_16 ?a_17 ?a_18 ?a_19 ?a_20 ?a_21 ?a_22 ?a_23 ?a_24 ?a_Call ?a_HeardCall ?a_OneCall ?a_OwnCall ?a_GroupError ?a_NoKind ?a_NoWord ?gm0_KINDS ?z_ValueError ?z_abs ?z_bool ?z_int ?z_isinstance ?z_len ?z_max ?z_range ?z_tuple ?at_HeardCall___init__ ?at_HeardCall_asks_place ?at_HeardCall_kind ?at_HeardCall_name ?at_HeardCall_told ?at_OneCall___init__ ?at_OneCall_asks_place ?at_OneCall_kind ?at_OneCall_name ?at_OneCall_told ?at_OwnCall___init__ ?at_OwnCall_asks_place ?at_OwnCall_kind ?at_OwnCall_name ?at_OwnCall_told ?fc_Call___init__ ?lx_GroupError ?lx_NoKind ?lx_NoWord ?l_0 ?c_0 ?k_0 ?l_1 ?c_1 ?k_1 ?l_2 ?c_2 ?k_2 ?l_3 ?c_3 ?k_3 ?l_4 ?c_4 ?k_4 ?l_5 ?c_5 ?k_5 ?l_6 ?c_6 ?k_6 ?l_7 ?c_7 ?k_7 ?l_8 ?c_8 ?k_8 ?l_9 ?c_9 ?k_9 ?l_10 ?c_10 ?k_10 ?l_11 ?c_11 ?k_11 ?l_12 ?c_12 ?k_12 ?l_13 ?c_13 ?k_13 ?l_14 ?c_14 ?k_14 ?l_15 ?c_15 ?k_15 ?l_16 ?c_16 ?k_16 ?l_17 ?c_17 ?k_17 ?l_18 ?c_18 ?k_18 ?l_19 ?c_19 ?k_19 ?l_20 ?c_20 ?k_20 ?l_21 ?c_21 ?k_21 ?l_22 ?c_22 ?k_22 ?l_23 ?c_23 ?k_23 ?l_24 ?c_24 ?k_24 ?i_0 ?i_8 ?i_7 ?i_13 ?i_11 ?i_9 ?i_12 ?i_1 ?i_10 ?pg_Call ?hd_Call ?po_Call ?sa_Call ?n_Call_number ?n_Call_caller ?n_Call_count ?n_Call_word ?n_Call_causes ?pg_HeardCall ?hd_HeardCall ?po_HeardCall ?sa_HeardCall ?n_HeardCall_number ?n_HeardCall_caller ?n_HeardCall_count ?n_HeardCall_word ?n_HeardCall_causes ?pg_OneCall ?hd_OneCall ?po_OneCall ?sa_OneCall ?n_OneCall_number ?n_OneCall_caller ?n_OneCall_count ?n_OneCall_word ?n_OneCall_causes ?pg_OwnCall ?hd_OwnCall ?po_OwnCall ?sa_OwnCall ?n_OwnCall_number ?n_OwnCall_caller ?n_OwnCall_count ?n_OwnCall_word ?n_OwnCall_causes ?mk_HeardCall ?kc_HeardCall ?mk_OneCall ?kc_OneCall ?mk_OwnCall ?kc_OwnCall ?ga_Call ?rd_Call ?ha_HeardCall ?hm_HeardCall ?ha_OneCall ?hm_OneCall ?ha_OwnCall ?hm_OwnCall ?in_hn ?in_tk ?xt_NoKind ?xq_NoKind ?xz_NoKind ?xw_NoKind ?xt_NoWord ?xq_NoWord ?xz_NoWord ?xw_NoWord ?mb_GroupError_GroupError ?mc_GroupError_GroupError ?mb_NoKind_GroupError ?mc_NoKind_GroupError ?mb_NoWord_GroupError ?mc_NoWord_GroupError ?xg_NoKind ?xn_NoKind ?xa_NoKind ?xo_NoKind ?xb_NoKind ?xk_NoKind ?xg_NoWord ?xn_NoWord ?xa_NoWord ?xo_NoWord ?xb_NoWord ?xk_NoWord ?kx_NoKind_NoKind ?kx_NoKind_NoWord ?kx_NoKind_ValueError ?kx_NoWord_NoKind ?kx_NoWord_NoWord ?kx_NoWord_ValueError ?kd_Call ?kt_Call ?kd_HeardCall ?kt_HeardCall ?kd_OneCall ?kt_OneCall ?kd_OwnCall ?kt_OwnCall ?kb_HeardCall_Call ?km_HeardCall_Call ?kb_HeardCall_HeardCall ?kb_HeardCall_OneCall ?km_HeardCall_OneCall ?kb_HeardCall_OwnCall ?km_HeardCall_OwnCall ?kb_OneCall_Call ?km_OneCall_Call ?kb_OneCall_HeardCall ?km_OneCall_HeardCall ?kb_OneCall_OneCall ?kb_OneCall_OwnCall ?km_OneCall_OwnCall ?kb_OwnCall_Call ?km_OwnCall_Call ?kb_OwnCall_HeardCall ?km_OwnCall_HeardCall ?kb_OwnCall_OneCall ?km_OwnCall_OneCall ?kb_OwnCall_OwnCall ?gl_KINDS
    (case a_2 => first | k_is | rfl | decide)
    (case a_3 => first | k_is | rfl | decide)
    (case a_4 => first | k_is | rfl | decide)
    (case a_5 => first | k_is | rfl | decide)
    (case a_6 => first | k_is | rfl | decide)
    (case a_14 => first | k_is | rfl | decide)
    (case a_15 => first | k_is | rfl | decide)
    (case a_16 => first | k_is | rfl | decide)
    (case a_17 => first | k_is | rfl | decide)
    (case a_18 => first | k_is | rfl | decide)
    (case a_19 => first | k_is | rfl | decide)
    (case a_20 => first | k_is | rfl | decide)
    (case a_21 => first | k_is | rfl | decide)
    (case a_22 => first | k_is | rfl | decide)
    (case a_23 => first | k_is | rfl | decide)
    (case a_24 => first | k_is | rfl | decide)
    (case a_Call => first | k_is | rfl | decide)
    (case a_HeardCall => first | k_is | rfl | decide)
    (case a_OneCall => first | k_is | rfl | decide)
    (case a_OwnCall => first | k_is | rfl | decide)
    (case a_GroupError => first | k_is | rfl | decide)
    (case a_NoKind => first | k_is | rfl | decide)
    (case a_NoWord => first | k_is | rfl | decide)
    (case gm0_KINDS => first | k_is | rfl | decide)
    (case z_ValueError => first | k_is | rfl | decide)
    (case z_abs => first | k_is | rfl | decide)
    (case z_bool => first | k_is | rfl | decide)
    (case z_int => first | k_is | rfl | decide)
    (case z_isinstance => first | k_is | rfl | decide)
    (case z_len => first | k_is | rfl | decide)
    (case z_max => first | k_is | rfl | decide)
    (case z_range => first | k_is | rfl | decide)
    (case z_tuple => first | k_is | rfl | decide)
    (case at_HeardCall___init__ => first | k_is | rfl | decide)
    (case at_HeardCall_asks_place => first | k_is | rfl | decide)
    (case at_HeardCall_kind => first | k_is | rfl | decide)
    (case at_HeardCall_name => first | k_is | rfl | decide)
    (case at_HeardCall_told => first | k_is | rfl | decide)
    (case at_OneCall___init__ => first | k_is | rfl | decide)
    (case at_OneCall_asks_place => first | k_is | rfl | decide)
    (case at_OneCall_kind => first | k_is | rfl | decide)
    (case at_OneCall_name => first | k_is | rfl | decide)
    (case at_OneCall_told => first | k_is | rfl | decide)
    (case at_OwnCall___init__ => first | k_is | rfl | decide)
    (case at_OwnCall_asks_place => first | k_is | rfl | decide)
    (case at_OwnCall_kind => first | k_is | rfl | decide)
    (case at_OwnCall_name => first | k_is | rfl | decide)
    (case at_OwnCall_told => first | k_is | rfl | decide)
    (case fc_Call___init__ => first | k_is | rfl | decide)
    (case lx_GroupError => first | k_is | rfl | decide)
    (case lx_NoKind => first | k_is | rfl | decide)
    (case lx_NoWord => first | k_is | rfl | decide)
    (case l_0 => first | k_is | rfl | decide)
    (case c_0 => first | k_is | rfl | decide)
    (case k_0 => first | k_is | rfl | decide)
    (case l_1 => first | k_is | rfl | decide)
    (case c_1 => first | k_is | rfl | decide)
    (case k_1 => first | k_is | rfl | decide)
    (case l_2 => first | k_is | rfl | decide)
    (case c_2 => first | k_is | rfl | decide)
    (case k_2 => first | k_is | rfl | decide)
    (case l_3 => first | k_is | rfl | decide)
    (case c_3 => first | k_is | rfl | decide)
    (case k_3 => first | k_is | rfl | decide)
    (case l_4 => first | k_is | rfl | decide)
    (case c_4 => first | k_is | rfl | decide)
    (case k_4 => first | k_is | rfl | decide)
    (case l_5 => first | k_is | rfl | decide)
    (case c_5 => first | k_is | rfl | decide)
    (case k_5 => first | k_is | rfl | decide)
    (case l_6 => first | k_is | rfl | decide)
    (case c_6 => first | k_is | rfl | decide)
    (case k_6 => first | k_is | rfl | decide)
    (case l_7 => first | k_is | rfl | decide)
    (case c_7 => first | k_is | rfl | decide)
    (case k_7 => first | k_is | rfl | decide)
    (case l_8 => first | k_is | rfl | decide)
    (case c_8 => first | k_is | rfl | decide)
    (case k_8 => first | k_is | rfl | decide)
    (case l_9 => first | k_is | rfl | decide)
    (case c_9 => first | k_is | rfl | decide)
    (case k_9 => first | k_is | rfl | decide)
    (case l_10 => first | k_is | rfl | decide)
    (case c_10 => first | k_is | rfl | decide)
    (case k_10 => first | k_is | rfl | decide)
    (case l_11 => first | k_is | rfl | decide)
    (case c_11 => first | k_is | rfl | decide)
    (case k_11 => first | k_is | rfl | decide)
    (case l_12 => first | k_is | rfl | decide)
    (case c_12 => first | k_is | rfl | decide)
    (case k_12 => first | k_is | rfl | decide)
    (case l_13 => first | k_is | rfl | decide)
    (case c_13 => first | k_is | rfl | decide)
    (case k_13 => first | k_is | rfl | decide)
    (case l_14 => first | k_is | rfl | decide)
    (case c_14 => first | k_is | rfl | decide)
    (case k_14 => first | k_is | rfl | decide)
    (case l_15 => first | k_is | rfl | decide)
    (case c_15 => first | k_is | rfl | decide)
    (case k_15 => first | k_is | rfl | decide)
    (case l_16 => first | k_is | rfl | decide)
    (case c_16 => first | k_is | rfl | decide)
    (case k_16 => first | k_is | rfl | decide)
    (case l_17 => first | k_is | rfl | decide)
    (case c_17 => first | k_is | rfl | decide)
    (case k_17 => first | k_is | rfl | decide)
    (case l_18 => first | k_is | rfl | decide)
    (case c_18 => first | k_is | rfl | decide)
    (case k_18 => first | k_is | rfl | decide)
    (case l_19 => first | k_is | rfl | decide)
    (case c_19 => first | k_is | rfl | decide)
    (case k_19 => first | k_is | rfl | decide)
    (case l_20 => first | k_is | rfl | decide)
    (case c_20 => first | k_is | rfl | decide)
    (case k_20 => first | k_is | rfl | decide)
    (case l_21 => first | k_is | rfl | decide)
    (case c_21 => first | k_is | rfl | decide)
    (case k_21 => first | k_is | rfl | decide)
    (case l_22 => first | k_is | rfl | decide)
    (case c_22 => first | k_is | rfl | decide)
    (case k_22 => first | k_is | rfl | decide)
    (case l_23 => first | k_is | rfl | decide)
    (case c_23 => first | k_is | rfl | decide)
    (case k_23 => first | k_is | rfl | decide)
    (case l_24 => first | k_is | rfl | decide)
    (case c_24 => first | k_is | rfl | decide)
    (case k_24 => first | k_is | rfl | decide)
    (case i_0 => first | k_is | rfl | decide)
    (case i_8 => first | k_is | rfl | decide)
    (case i_7 => first | k_is | rfl | decide)
    (case i_13 => first | k_is | rfl | decide)
    (case i_11 => first | k_is | rfl | decide)
    (case i_9 => first | k_is | rfl | decide)
    (case i_12 => first | k_is | rfl | decide)
    (case i_1 => first | k_is | rfl | decide)
    (case i_10 => first | k_is | rfl | decide)
    (case pg_Call => first | k_is | rfl | decide)
    (case hd_Call => first | k_is | rfl | decide)
    (case po_Call => first | k_is | rfl | decide)
    (case sa_Call => first | k_is | rfl | decide)
    (case n_Call_number => first | k_is | rfl | decide)
    (case n_Call_caller => first | k_is | rfl | decide)
    (case n_Call_count => first | k_is | rfl | decide)
    (case n_Call_word => first | k_is | rfl | decide)
    (case n_Call_causes => first | k_is | rfl | decide)
    (case pg_HeardCall => first | k_is | rfl | decide)
    (case hd_HeardCall => first | k_is | rfl | decide)
    (case po_HeardCall => first | k_is | rfl | decide)
    (case sa_HeardCall => first | k_is | rfl | decide)
    (case n_HeardCall_number => first | k_is | rfl | decide)
    (case n_HeardCall_caller => first | k_is | rfl | decide)
    (case n_HeardCall_count => first | k_is | rfl | decide)
    (case n_HeardCall_word => first | k_is | rfl | decide)
    (case n_HeardCall_causes => first | k_is | rfl | decide)
    (case pg_OneCall => first | k_is | rfl | decide)
    (case hd_OneCall => first | k_is | rfl | decide)
    (case po_OneCall => first | k_is | rfl | decide)
    (case sa_OneCall => first | k_is | rfl | decide)
    (case n_OneCall_number => first | k_is | rfl | decide)
    (case n_OneCall_caller => first | k_is | rfl | decide)
    (case n_OneCall_count => first | k_is | rfl | decide)
    (case n_OneCall_word => first | k_is | rfl | decide)
    (case n_OneCall_causes => first | k_is | rfl | decide)
    (case pg_OwnCall => first | k_is | rfl | decide)
    (case hd_OwnCall => first | k_is | rfl | decide)
    (case po_OwnCall => first | k_is | rfl | decide)
    (case sa_OwnCall => first | k_is | rfl | decide)
    (case n_OwnCall_number => first | k_is | rfl | decide)
    (case n_OwnCall_caller => first | k_is | rfl | decide)
    (case n_OwnCall_count => first | k_is | rfl | decide)
    (case n_OwnCall_word => first | k_is | rfl | decide)
    (case n_OwnCall_causes => first | k_is | rfl | decide)
    (case mk_HeardCall => first | k_is | rfl | decide)
    (case kc_HeardCall => first | k_is | rfl | decide)
    (case mk_OneCall => first | k_is | rfl | decide)
    (case kc_OneCall => first | k_is | rfl | decide)
    (case mk_OwnCall => first | k_is | rfl | decide)
    (case kc_OwnCall => first | k_is | rfl | decide)
    (case ga_Call => first | k_is | rfl | decide)
    (case rd_Call => first | k_is | rfl | decide)
    (case ha_HeardCall => first | k_is | rfl | decide)
    (case hm_HeardCall => first | k_is | rfl | decide)
    (case ha_OneCall => first | k_is | rfl | decide)
    (case hm_OneCall => first | k_is | rfl | decide)
    (case ha_OwnCall => first | k_is | rfl | decide)
    (case hm_OwnCall => first | k_is | rfl | decide)
    (case in_hn => first | k_is | rfl | decide)
    (case in_tk => first | k_is | rfl | decide)
    (case xt_NoKind => first | k_is | rfl | decide | kernel_rfl)
    (case xq_NoKind => first | k_is | rfl | decide | kernel_rfl)
    (case xz_NoKind => first | k_is | rfl | decide)
    (case xw_NoKind => first | k_is | rfl | decide)
    (case xt_NoWord => first | k_is | rfl | decide | kernel_rfl)
    (case xq_NoWord => first | k_is | rfl | decide | kernel_rfl)
    (case xz_NoWord => first | k_is | rfl | decide)
    (case xw_NoWord => first | k_is | rfl | decide)
    (case mb_GroupError_GroupError => first | k_is | rfl | decide | kernel_rfl)
    (case mc_GroupError_GroupError => first | k_is | rfl | decide | kernel_rfl)
    (case mb_NoKind_GroupError => first | k_is | rfl | decide | kernel_rfl)
    (case mc_NoKind_GroupError => first | k_is | rfl | decide | kernel_rfl)
    (case mb_NoWord_GroupError => first | k_is | rfl | decide | kernel_rfl)
    (case mc_NoWord_GroupError => first | k_is | rfl | decide | kernel_rfl)
    (case xg_NoKind => first | k_is | rfl | decide)
    (case xn_NoKind => first | k_is | rfl | decide)
    (case xa_NoKind => first | k_is | rfl | decide)
    (case xo_NoKind => first | k_is | rfl | decide)
    (case xb_NoKind => first | k_is | rfl | decide)
    (case xk_NoKind => first | k_is | rfl | decide)
    (case xg_NoWord => first | k_is | rfl | decide)
    (case xn_NoWord => first | k_is | rfl | decide)
    (case xa_NoWord => first | k_is | rfl | decide)
    (case xo_NoWord => first | k_is | rfl | decide)
    (case xb_NoWord => first | k_is | rfl | decide)
    (case xk_NoWord => first | k_is | rfl | decide)
    (case kx_NoKind_NoKind => first | k_is | rfl | decide | kernel_rfl)
    (case kx_NoKind_NoWord => first | k_is | rfl | decide | kernel_rfl)
    (case kx_NoKind_ValueError => first | k_is | rfl | decide | kernel_rfl)
    (case kx_NoWord_NoKind => first | k_is | rfl | decide | kernel_rfl)
    (case kx_NoWord_NoWord => first | k_is | rfl | decide | kernel_rfl)
    (case kx_NoWord_ValueError => first | k_is | rfl | decide | kernel_rfl)
    (case kd_Call => first | k_is | rfl | decide)
    (case kt_Call => first | k_is | rfl | decide)
    (case kd_HeardCall => first | k_is | rfl | decide)
    (case kt_HeardCall => first | k_is | rfl | decide)
    (case kd_OneCall => first | k_is | rfl | decide)
    (case kt_OneCall => first | k_is | rfl | decide)
    (case kd_OwnCall => first | k_is | rfl | decide)
    (case kt_OwnCall => first | k_is | rfl | decide)
    (case kb_HeardCall_Call => first | k_is | rfl | decide)
    (case km_HeardCall_Call => first | k_is | rfl | decide)
    (case kb_HeardCall_HeardCall => first | k_is | rfl | decide)
    (case kb_HeardCall_OneCall => first | k_is | rfl | decide)
    (case km_HeardCall_OneCall => first | k_is | rfl | decide)
    (case kb_HeardCall_OwnCall => first | k_is | rfl | decide)
    (case km_HeardCall_OwnCall => first | k_is | rfl | decide)
    (case kb_OneCall_Call => first | k_is | rfl | decide)
    (case km_OneCall_Call => first | k_is | rfl | decide)
    (case kb_OneCall_HeardCall => first | k_is | rfl | decide)
    (case km_OneCall_HeardCall => first | k_is | rfl | decide)
    (case kb_OneCall_OneCall => first | k_is | rfl | decide)
    (case kb_OneCall_OwnCall => first | k_is | rfl | decide)
    (case km_OneCall_OwnCall => first | k_is | rfl | decide)
    (case kb_OwnCall_Call => first | k_is | rfl | decide)
    (case km_OwnCall_Call => first | k_is | rfl | decide)
    (case kb_OwnCall_HeardCall => first | k_is | rfl | decide)
    (case km_OwnCall_HeardCall => first | k_is | rfl | decide)
    (case kb_OwnCall_OneCall => first | k_is | rfl | decide)
    (case km_OwnCall_OneCall => first | k_is | rfl | decide)
    (case kb_OwnCall_OwnCall => first | k_is | rfl | decide)
    (case gl_KINDS => first | k_is | rfl | decide)

